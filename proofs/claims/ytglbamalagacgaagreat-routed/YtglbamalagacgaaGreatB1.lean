import Derived.Test.YtglbamalagacgaaGreatA9
namespace Go.Proofs.YtglbamalagacgaaGreat
open Go.RowKit Go.Shelf
structure Ud where
 a : Int
 l : Int
 o : Int
def UdOk (u : Ud) : Prop := isPfx u.a u.l = true /\ (u.o = 0 ∨ okE ⟨u.a, u.l, u.o⟩)
def CloF (w : World) (bt : Nat) (f : Value) (u : Ud) (G : List Nat) : Prop := ∃ bb bp bo, f = .func (.func 91) #[] #[ptrV bb, ptrV bp, ptrV bo] ∧
 w.heap[bb]? = some (.cells #[ptrV bt] 138 (0, 0)) /\ w.heap[bp]? = some (.cells #[.int .i64 u.a, .int .i64 u.l] 65 (0, 0)) /\ w.heap[bo]? = some (.cells #[.int .i64 u.o] 3 (0, 0)) /\ G = [bb, bp, bo]
def CloS (w : World) (bt : Nat) : List Value -> List Ud -> List Nat -> Prop
 | [], [], G => G = []
 | f :: fs, u :: us, G => ∃ G1 G2, CloF w bt f u G1 /\ CloS w bt fs us G2 /\ G = G1 ++ G2
 | _, _, _ => False
theorem CloF.kept {w w' : World} {bt : Nat} {f : Value} {u : Ud} {G : List Nat} (h : CloF w bt f u G) (hk : ∀ k ∈ G, w'.heap[k]? = w.heap[k]?) : CloF w' bt f u G := by
 obtain ⟨bb, bp, bo, h1, h2, h3, h4, rfl⟩ := h
 exact ⟨bb, bp, bo, h1, (hk bb (by simp)).trans h2, (hk bp (by simp)).trans h3, (hk bo (by simp)).trans h4, rfl⟩
theorem CloF.lt {w : World} {bt : Nat} {f : Value} {u : Ud} {G : List Nat} (h : CloF w bt f u G) : ∀ k ∈ G, k < w.heap.size := by
 obtain ⟨bb, bp, bo, h1, h2, h3, h4, rfl⟩ := h
 intro k hk
 simp at hk
 rcases hk with rfl | rfl | rfl
 ·exact (Array.getElem?_eq_some_iff.1 h2).1
 ·exact (Array.getElem?_eq_some_iff.1 h3).1
 ·exact (Array.getElem?_eq_some_iff.1 h4).1
theorem CloS.kept {w w' : World} {bt : Nat} : ∀ {fs : List Value} {us : List Ud} {G : List Nat}, CloS w bt fs us G -> (∀ k ∈ G, w'.heap[k]? = w.heap[k]?) -> CloS w' bt fs us G
 | [], [], _, h, _ => h
 | _ :: _, _ :: _, _, ⟨G1, G2, h1, h2, rfl⟩, hk => ⟨G1, G2, h1.kept fun k hk' => hk k (by simp [hk']), h2.kept fun k hk' => hk k (by simp [hk']), rfl⟩
theorem CloS.lt {w : World} {bt : Nat} : ∀ {fs : List Value} {us : List Ud} {G : List Nat}, CloS w bt fs us G -> ∀ k ∈ G, k < w.heap.size
 | [], [], _, h, k, hk => by rw [show _ = [] from h] at hk; cases hk
 | _ :: _, _ :: _, _, ⟨G1, G2, h1, h2, rfl⟩, k, hk => by
  rcases List.mem_append.1 hk with hk | hk
  ·exact h1.lt k hk
  ·exact h2.lt k hk
theorem CloS.snoc {w : World} {bt : Nat} {f : Value} {u : Ud} {G1 : List Nat} (hf : CloF w bt f u G1) : ∀ {fs : List Value} {us : List Ud} {G : List Nat}, CloS w bt fs us G -> CloS w bt (fs ++ [f]) (us ++ [u]) (G ++ G1)
 | [], [], _, h => by rw [show _ = [] from h]; exact ⟨G1, [], hf, rfl, by simp⟩
 | _ :: _, _ :: _, _, ⟨H1, H2, h1, h2, rfl⟩ => ⟨H1, H2 ++ G1, h1, h2.snoc hf, by simp⟩
theorem CloS.len {w : World} {bt : Nat} : ∀ {fs : List Value} {us : List Ud} {G : List Nat}, CloS w bt fs us G -> fs.length = us.length
 | [], [], _, _ => rfl
 | _ :: _, _ :: _, _, ⟨_, _, _, h2, _⟩ => by simp [h2.len]
theorem CloS.one {w : World} {bt : Nat} : ∀ {fs : List Value} {us : List Ud} {G : List Nat}, CloS w bt fs us G -> ∀ f ∈ fs, f.oneCell' = true
 | [], [], _, _, f, hf => by cases hf
 | _ :: _, _ :: _, _, ⟨_, _, h1, h2, _⟩, f, hf => by
  rcases List.mem_cons.1 hf with rfl | hf
  ·obtain ⟨bb, bp, bo, rfl, _⟩ := h1; rfl
  ·exact h2.one f hf
def BatchF (w : World) (bt : Nat) (e : Value) (us : List Ud) (G : List Nat) : Prop := ∃ v fs Gc, w.heap[bt]? = some (.cells #[e, v] 106 (0, 0)) /\ RowG 1 1 w v us.length fs /\ CloS w bt fs us Gc ∧
 bt ∉ Gc /\ (∀ g, v.ownBlock = some g -> g ≠ bt /\ g ∉ Gc) /\ G = bt :: (v.ownBlock.toList ++ Gc)
theorem BatchF.kept {w w' : World} {bt : Nat} {e : Value} {us : List Ud} {G : List Nat} (h : BatchF w bt e us G) (hk : ∀ k ∈ G, w'.heap[k]? = w.heap[k]?) : BatchF w' bt e us G := by
 obtain ⟨v, fs, Gc, h1, h2, h3, h4, h5, rfl⟩ := h
 exact ⟨v, fs, Gc, (hk bt (by simp)).trans h1, h2.kept fun g hg => hk g (by simp [hg]), h3.kept fun k hk' => hk k (by simp [hk']), h4, h5, rfl⟩
theorem BatchF.lt {w : World} {bt : Nat} {e : Value} {us : List Ud} {G : List Nat} (h : BatchF w bt e us G) : ∀ k ∈ G, k < w.heap.size := by
 obtain ⟨v, fs, Gc, h1, h2, h3, h4, h5, rfl⟩ := h
 intro k hk
 simp at hk
 rcases hk with rfl | hk | hk
 ·exact (Array.getElem?_eq_some_iff.1 h1).1
 ·exact h2.lt k hk
 ·exact h3.lt k hk
theorem BatchF.later {w w' : World} {bt : Nat} {e : Value} {us : List Ud} {G : List Nat} (h : BatchF w bt e us G) (hB : Below w.heap.size w w') : BatchF w' bt e us G := h.kept fun k hk => hB.block k (h.lt k hk)
def Disj (F G : List Nat) : Prop := ∀ k ∈ F, k ∉ G
theorem Disj.new {w : World} {F F' G : List Nat} (h : Disj F G) (hN : NewF w F F') (hG : ∀ k ∈ G, k < w.heap.size) : Disj F' G := fun k hk hg => by
 rcases hN k hk with h1 | h1
 ·exact h k h1 hg
 ·have := hG k hg; omega
set_option maxHeartbeats 400000 in
theorem undo_any (bt : Nat) (e : Value) (us : List Ud) (G : List Nat) (f : Value) (u : Ud) (G1 : List Nat) (xs : List Ent) (F : List Nat) (w : World) (hb : BatchF w bt e us G) (hc : CloF w bt f u G1) (hE : EngF w e xs F) (hn : UdOk u) (hd : Disj F G) (hd1 : Disj F G1) :
  ∀ bb bp bo, f = .func (.func 91) #[] #[ptrV bb, ptrV bp, ptrV bo] →
  Calls Tryz.prog 91 #[ptrV bb, ptrV bp, ptrV bo] w fun r w' => (∃ F', EngF w' e (setE xs u.a u.l u.o) F' /\ NewF w F F') /\ Only F w w' /\ r = .returned (.tuple #[]) := by
 intro bb bp bo hf
 obtain ⟨bb', bp', bo', hf', h1, h2, h3, rfl⟩ := hc
 rw [hf'] at hf
 cases hf
 obtain ⟨v, fs, Gc, hbt, _, _, _, _, rfl⟩ := hb
 have c0 : w.cell? ⟨bb, 0, none⟩ = some (ptrV bt) := by simp [World.cell?, h1]
 have c1 : w.cell? ⟨bt, 0, none⟩ = some e := by simp [World.cell?, hbt]
 have c2 : w.cell? ⟨bp, 0, none⟩ = some (.int .i64 u.a) := by simp [World.cell?, h2]
 have c3 : w.cell? ⟨bp, 1, none⟩ = some (.int .i64 u.l) := by simp [World.cell?, h2]
 have c4 : w.cell? ⟨bo, 0, none⟩ = some (.int .i64 u.o) := by simp [World.cell?, h3]
 have l0 := (Array.getElem?_eq_some_iff.1 h1).1
 have l1 := (Array.getElem?_eq_some_iff.1 hbt).1
 have l2 := (Array.getElem?_eq_some_iff.1 h2).1
 have l3 := (Array.getElem?_eq_some_iff.1 h3).1
 have n0 : bb ∉ F := fun h => hd1 _ h (by simp)
 have n1 : bt ∉ F := fun h => hd _ h (by simp)
 have n2 : bp ∉ F := fun h => hd1 _ h (by simp)
 have n3 : bo ∉ F := fun h => hd1 _ h (by simp)
 have hE1 : EngF w.drew e xs F := hE.later (Below.refl _ w).drew
 go_enter Tryz.func91, Tryz.ntmps91
 go_wp2
 go_region_held3 (fun w' => w'.cell? ⟨bb, 0, none⟩ = some (ptrV bt) /\ w'.cell? ⟨bt, 0, none⟩ = some e /\ w'.cell? ⟨bp, 0, none⟩ = some (.int .i64 u.a) /\ w'.cell? ⟨bp, 1, none⟩ = some (.int .i64 u.l) /\ w'.cell? ⟨bo, 0, none⟩ = some (.int .i64 u.o)) (go_keep)
  (first
   | (go_at_call 90; refine (set_any e xs F _ _ _ _ hE1 hn.1 hn.2).mono ?_; rintro _ w2 ⟨hF2, hO, rfl⟩; (have k0 : ∀ o, w2.cell? ⟨bb, o, none⟩ = w.cell? ⟨bb, o, none⟩ := fun o => hO.cell l0 n0); (have k1 : ∀ o, w2.cell? ⟨bt, o, none⟩ = w.cell? ⟨bt, o, none⟩ := fun o => hO.cell l1 n1); (have k2 : ∀ o, w2.cell? ⟨bp, o, none⟩ = w.cell? ⟨bp, o, none⟩ := fun o => hO.cell l2 n2); (have k3 : ∀ o, w2.cell? ⟨bo, o, none⟩ = w.cell? ⟨bo, o, none⟩ := fun o => hO.cell l3 n3)))
 have fin := hide (show (∃ F', EngF w2 e (setE xs u.a u.l u.o) F' /\ NewF w F F') /\ Only F w w2 from ⟨hF2, (Only.of_below _ (Below.refl _ w).drew).trans hO (fun x hx => .inl hx)⟩)
 clear hF2 hO k0 k1 k2 k3
 go_wp2
 go_end0
 exact ⟨fin.out.1, fin.out.2, rfl⟩
end Go.Proofs.YtglbamalagacgaaGreat

namespace Go.Proofs.YtglbamalagacgaaGreat
open Go.RowKit Go.Shelf
attribute [local go_sem] Oper.semAt_some
set_option maxHeartbeats 400000 in
theorem backward_any (v : Value) (hv : ∃ a n c, v = .slice a n c) (w : World) :
  Calls Tryz.prog 92 #[v] w fun r w' => w' = w.alloc (.cells #[v] 104) /\ r = .returned (.func (.func 124) #[] #[ptrV w.heap.size]) := by
 obtain ⟨a, n, c, rfl⟩ := hv
 go_enter Tryz.func92, Tryz.ntmps92
 go_wp2
 go_ret
 exact ⟨rfl, rfl⟩
def down : (n : Nat) -> List Nat
 | 0 => []
 | n + 1 => n :: down n
theorem down_length (n : Nat) : (down n).length = n := by induction n with
 | zero => rfl
 | succ n ih => simp [down, ih]
theorem down_take (n : Nat) : ∀ k, k < n -> (down n).take (k + 1) = (down n).take k ++ [n - 1 - k] := by
 induction n with
 | zero => intro k h; omega
 | succ n ih =>
  intro k h
  cases k with
  | zero => simp [down]
  | succ k =>
   have := ih k (by omega)
   rw [down, List.take_succ_cons, this, List.take_succ_cons]
   simp only [List.cons_append]
   congr 3
   omega
set_option maxHeartbeats 1000000 in
theorem backward1 (bx n : Nat) (v : Value) (fs : List Value) (w0 : World) (hrow : RowG 1 1 w0 v n fs) (hn : n <= 1000) (hbx : w0.heap[bx]? = some (.cells #[v] 104 (0, 0))) (h1 : ∀ f ∈ fs, f.oneCell' = true) :
  SeqF 124 #[ptrV bx] (fun i : { i : Nat // i < n } => #[.int .i64 i.1, fs[i.1]?.getD .nilFunc]) (bx :: v.ownBlock.toList) (fun is => is.map (·.1) = down n) (fun _ => True) n w0 := by
 intro l Own J Jx W hW hOF _ hJ hJx hY h0
 have hFc : ∀ k ∈ bx :: v.ownBlock.toList, ∃ o, W.heap[k]? = some o /\ o.isCells = true := fun k hk => by
  rcases List.mem_cons.1 hk with rfl | hk
  ·exact ⟨_, (hW.block _ (Array.getElem?_eq_some_iff.1 hbx).1).trans hbx, rfl⟩
  ·have hk' : v.ownBlock = some k := by simpa using hk
   rcases hrow.2 with ⟨rfl, _⟩ | ⟨g, cap, sp, rfl, hg, _⟩
   ·cases hk'
   ·cases hk'; exact ⟨_, (hW.block _ (Array.getElem?_eq_some_iff.1 hg).1).trans hg, rfl⟩
 have hsafe : Safe Own (bx :: v.ownBlock.toList) W W := fun k hk => ⟨hOF k hk, rfl⟩
 have lbx := (Array.getElem?_eq_some_iff.1 hbx).1
 have c0 : W.cell? ⟨bx, 0, none⟩ = some v := (hW.cell (p := ⟨bx, 0, none⟩) lbx).trans (by simp [World.cell?, hbx])
 obtain ⟨a, c, hv⟩ := hrow.shape
 have hrowW : RowG 1 1 W v n fs := hrow.kept fun g hg => hW.block g (hrow.lt g hg)
 have hfl : fs.length = n := by have := hrow.1; omega
 have HY := hide hY
 have HJ := hide hJ
 have HFc := hide hFc
 have HS := hide hsafe
 have HR := hide hrowW
 clear hY hJ hFc hsafe hrowW hrow hOF hJx
 have HV := hide hv
 refine callsIn_of_wp Tryz.func124 rfl trivial ?_ rfl
 simp only [Tryz.ntmps124, List.size_toArray, List.length_cons, List.length_nil, Nat.reduceAdd, Nat.reduceSub, Array.replicate_succ, Array.replicate_zero, List.push_toArray, List.append_toArray, List.nil_append, List.cons_append]
 rw [hv] at c0
 clear hv
 gi_wp2
 gi_loopw [3] (fun s wr => ∃ k : Nat, k <= n /\ s = .int .i64 ((n : Int) - 1 - (k : Int)) /\ (∃ is : List { i : Nat // i < n }, is.map (·.1) = (down n).take k /\ J is wr) /\ Hid (Safe Own (bx :: v.ownBlock.toList) W wr)) (fun s _ => (intOf s + 1).toNat)
 case atStart => exact ⟨0, Nat.zero_le _, by simp, ⟨[], by simp, h0⟩, HS⟩
 case round =>
  obtain ⟨k, hk, rfl, ⟨is, his, hJs⟩, hKF⟩ := hrel
  have e0 : wr.cell? ⟨bx, 0, none⟩ = some (.slice a n c) := (World.cell?_of_block (w := W) (a := ⟨bx, 0, none⟩) (hKF.out bx (by simp)).2).trans c0
  by_cases hlt : k < n
  ·obtain ⟨i, hi⟩ : ∃ i, i = n - 1 - k := ⟨_, rfl⟩
   have hi' : i < n := by omega
   have hii : (n : Int) - 1 - (k : Int) = (i : Int) := by omega
   have Hi := hide hi
   have Htk := hide (down_take n k hlt)
   have Hk := hide (show k = n - 1 - i by omega)
   obtain ⟨g, ha⟩ : ∃ g, a = some ⟨g, 0, none⟩ := by
    rcases HR.out.2 with ⟨h, h2⟩ | ⟨g, cap, sp, h, _⟩
    ·omega
    ·rw [HV.out] at h; cases h; exact ⟨g, rfl⟩
   have hfi : fs[i]? = some (fs[i]?.getD .nilFunc) := by rw [List.getElem?_eq_getElem (by omega)]; rfl
   have hgc : W.cell? ⟨g, i, none⟩ = some (fs[i]?.getD .nilFunc) := by
    have hr := HR.out
    rw [HV.out, ha] at hr
    exact hr.cell hfi
   have y0 : wr.cell? ⟨g, i, none⟩ = some (fs[i]?.getD .nilFunc) := (World.cell?_of_block (w := W) (a := ⟨g, i, none⟩) (hKF.out g (by rw [HV.out, ha]; simp [Value.ownBlock])).2).trans hgc
   have h1i := h1 (fs[i]?.getD .nilFunc) (List.mem_of_getElem? hfi)
   obtain ⟨fn, tmps, assign, body, hy, hR⟩ := HY.out is ⟨i, hi'⟩ wr hJs (by have := congrArg List.length his; rw [List.length_map, List.length_take, down_length] at this; omega)
   have j0 : (0 : Int) <= (i : Int) := by omega
   have j1 : (i : Int) < (n : Int) := by omega
   have His := hide his
   subst ha
   rw [hii]
   clear hii hi his hgc hfi
   generalize fs[i]?.getD .nilFunc = f at *
   gi_wp2
   refine hR.mono ?_
   rintro e W3 (⟨rfl, hJ3, hk3, _⟩ | ⟨rfl, hJx3, _⟩)
   ·have hKa := hide (hKF.out.own HFc.out hk3)
    clear hR hy hk3 y0 e0 hKF
    gi_wp2
    go_roundw
    case rel => exact ⟨k + 1, by omega, by have := Hi.out; go_num, ⟨is ++ [⟨i, hi'⟩], by rw [List.map_append, His.out, Htk.out, <- Hi.out]; rfl, hJ3⟩, hKa⟩
    case measure => simp [intOf]
   ·clear hR hy y0 e0 hKF
    gi_wp2
    refine bodyPost_ret (results_none rfl _ _ _) rfl ?_
    exact ⟨⟨_, rfl⟩, .inr ⟨_, trivial, hJx3⟩⟩
  ·obtain rfl : k = n := by omega
   have fin := hide (show ∃ ys : List { i : Nat // i < k }, ys.map (·.1) = down k /\ J ys wr from ⟨is, by rw [his, List.take_of_length_le (by rw [down_length]; omega)], hJs⟩)
   have hm : (k : Int) - 1 - (k : Int) = -1 := by omega
   rw [hm]
   clear hm his hJs hKF
   gi_wp2
   go_end0
   exact ⟨⟨_, rfl⟩, .inl fin.out⟩
def back (xs : List Ent) : List Ud -> List Ent
 | [] => xs
 | u :: us => setE (back xs us) u.a u.l u.o
theorem back_snoc (xs : List Ent) (us : List Ud) (u : Ud) : back xs (us ++ [u]) = back (setE xs u.a u.l u.o) us := by
 induction us with
 | nil => rfl
 | cons v us ih => simp only [List.cons_append, back, ih]
def undoI (us : List Ud) (xs : List Ent) (i : Nat) : List Ent := match us[i]? with
 | some u => setE xs u.a u.l u.o
 | none => xs
theorem undo_down (us : List Ud) : ∀ (n : Nat) (xs : List Ent), n <= us.length -> (down n).foldl (undoI us) xs = back xs (us.take n) := by
 intro n
 induction n with
 | zero => intro xs _; simp [down, back]
 | succ n ih =>
  intro xs hn
  rw [down, List.foldl_cons, ih _ (by omega), List.take_succ_eq_append_getElem (by omega), back_snoc]
  simp [undoI, List.getElem?_eq_getElem (show n < us.length by omega)]
theorem CloS.at {w : World} {bt : Nat} : ∀ {fs : List Value} {us : List Ud} {G : List Nat}, CloS w bt fs us G -> ∀ (i : Nat), i < us.length -> ∃ f u G1, fs[i]? = some f /\ us[i]? = some u /\ CloF w bt f u G1 /\ ∀ k ∈ G1, k ∈ G
 | [], [], _, _, i, hi => by simp at hi
 | f :: _, u :: _, _, ⟨G1, G2, h1, h2, rfl⟩, 0, _ => ⟨f, u, G1, rfl, rfl, h1, fun k hk => by simp [hk]⟩
 | _ :: _, _ :: _, _, ⟨_, _, _, h2, rfl⟩, i + 1, hi => by
  obtain ⟨f, u, G1, a, b, c, d⟩ := h2.at i (by simpa using hi)
  exact ⟨f, u, G1, a, b, c, fun k hk => by simp [d k hk]⟩
set_option maxHeartbeats 1000000 in
theorem takeBack_any (bt : Nat) (e : Value) (us : List Ud) (G : List Nat) (ys : List Ent) (F : List Nat) (w : World) (hb : BatchF w bt e us G) (hE : EngF w e ys F) (hd : Disj F G) (hu : ∀ u ∈ us, UdOk u) (hus : us.length <= 100) :
  Calls Tryz.prog 52 #[ptrV bt] w fun r w' => (∃ F', EngF w' e (back ys us) F' /\ NewF w F F') /\ Only F w w' /\ r = .returned (.tuple #[]) := by
 have hb' := hb
 have hGl := hb.lt
 obtain ⟨v, fs, Gc, hbt, hrow, hclo, hbG, hvG, hGe⟩ := hb'
 have lbt := (Array.getElem?_eq_some_iff.1 hbt).1
 have c1 : w.cell? ⟨bt, 1, none⟩ = some v := by simp [World.cell?, hbt]
 have hB1 : Below w.heap.size w (w.alloc (.cells #[v] 104)) := (Below.refl _ w).alloc (Nat.le_refl _) _
 have hsh := hrow.shape
 have hc1 := hclo.one
 have hlen := hclo.len
 have hN0 : NewF w F F := NewF.refl w F
 refine (callsIn_wide (n := 5)).1 ?_
 refine callsIn_of_wp_marks Tryz.func52 rfl trivial ?_ rfl
 refine wpIn_wide.2 ?_
 simp only [Tryz.ntmps52, List.size_toArray, List.length_cons, List.length_nil, Nat.reduceAdd, Nat.reduceSub, Array.replicate_succ, Array.replicate_zero, List.push_toArray, List.append_toArray, List.nil_append, List.cons_append]
 go_wp2_with fail
 refine (backward_any v (by obtain ⟨a, c, h⟩ := hsh; exact ⟨a, _, c, h⟩) w).mono ?_
 rintro _ w' ⟨rfl, rfl⟩
 have hrow1 : RowG 1 1 (w.alloc (.cells #[v] 104)) v us.length fs := hrow.kept fun g hg => hB1.block g (hrow.lt g hg)
 have hb1 := hb.later hB1
 have hE1 := hE.later hB1
 have hFl := hE.lt
 go_wp2
 have hI : ∀ (zs : List Ent) (A B : World), (∃ F', EngF A e zs F' /\ NewF w F F' /\ Only F w A) -> Soft (w.alloc (.cells #[v] 104)).heap.size A B -> (∃ F', EngF B e zs F' /\ NewF w F F' /\ Only F w B) /\ ∀ k, (∃ xs' F', EngF B e xs' F' /\ k ∈ F') -> ∃ xs' F', EngF A e xs' F' /\ k ∈ F' := by
  rintro zs A B ⟨F', i1, i2, i3⟩ hs
  have hEB : EngF B e zs F' := i1.kept fun k hk => by
   obtain ⟨o, ho, hc⟩ := i1.cells k hk
   rw [ho]; exact hs.block k o ho (.inr hc)
  refine ⟨⟨F', hEB, i2, ⟨hs.os.trans i3.os, hs.tape.trans i3.tape, hs.output.trans i3.output, Nat.le_trans i3.size hs.size, fun k hk hn => ?_⟩⟩, ?_⟩
  ·have hA := i3.block k hk hn
   have hw : w.heap[k]? = some w.heap[k] := Array.getElem?_eq_some_iff.2 ⟨hk, rfl⟩
   rw [hw] at hA ⊢
   exact hs.block k _ hA (.inl (by simp; omega))
  ·rintro k ⟨xs', F2, h1, h2⟩
   replace h2 := h1.uniq hEB _ h2
   exact ⟨zs, F', i1, h2⟩
 refine wpIn_wide.1 (range_law (α := { i : Nat // i < us.length }) (gf := 124) (lb := #[ptrV w.heap.size]) rfl (enters_of Tryz.func124 (by kernel_rfl) rfl)
  (backward1 w.heap.size us.length v fs _ hrow1 (by omega) (World.alloc_heap_new w _) hc1) (Below.refl _ _) (fun _ => rfl)
  (fun W k => ∃ xs' F', EngF W e xs' F' /\ k ∈ F')
  (fun pre W => ∃ F', EngF W e ((pre.map (·.1)).foldl (undoI us) ys) F' /\ NewF w F F' /\ Only F w W)
  (fun _ _ _ => False)
  ?hF ?hOl (fun s A B h hs => hI _ A B h hs) (fun _ _ _ _ h _ => h) ?h0 ?hround ?hdone (fun _ _ _ _ _ _ h _ => h.elim))
 case hF =>
  rintro k hk ⟨xs', F', h1, h2⟩
  replace h2 := h1.uniq hE1 _ h2
  rcases List.mem_cons.1 hk with rfl | hk
  ·have := hFl _ h2; omega
  ·exact hd k h2 (by rw [hGe]; simp [List.mem_append, hk])
 case hOl =>
  rintro s A ⟨F', h1, _⟩ k ⟨xs', F2, h2, h3⟩
  exact h2.lt k h3
 case h0 => exact ⟨F, hE1, hN0, Only.of_below _ hB1⟩
 case hround =>
  rintro l' pre x W3 hl1 hl2 i0 hlen'
  gi_wp2
  refine ⟨Soft.refl _ _, Firm.refl _ _, ?_⟩
  intro W2 hs2
  obtain ⟨⟨F', i1, i2, i3⟩, -⟩ := hI _ _ _ i0 hs2
  obtain ⟨f, u, G1, hf, hu1, hcl, hG1⟩ := hclo.at x.1 x.2
  have hcl2 : CloF W2 bt f u G1 := hcl.kept fun k hk => i3.block k (hcl.lt k hk) fun hf => hd k hf (by rw [hGe]; simp [hG1 k hk])
  have hb2 : BatchF W2 bt e us G := hb.kept fun k hk => i3.block k (hGl k hk) fun hf => hd k hf hk
  have hd2 : Disj F' G := hd.new i2 hGl
  have hd3 : Disj F' G1 := fun k hk hg => hd2 k hk (by rw [hGe]; simp [hG1 k hg])
  have hcl3 := hcl2
  obtain ⟨bb, bp, bo, hfe, _⟩ := hcl3
  have hund := hide (undo_any bt e us G f u G1 _ F' W2 hb2 hcl2 i1 (hu u (List.mem_of_getElem? hu1)) hd2 hd3 bb bp bo hfe)
  have hgo : ∀ W5, (∃ F'', EngF W5 e (setE ((pre.map (·.1)).foldl (undoI us) ys) u.a u.l u.o) F'' /\ NewF W2 F' F'') -> Only F' W2 W5 -> Firm (w.alloc (.cells #[v] 104)).heap.size W2 W5 /\ KOwn (fun W k => ∃ xs' F', EngF W e xs' F' /\ k ∈ F') W2 W5 ∧
    ∃ F', EngF W5 e (((pre ++ [x]).map (·.1)).foldl (undoI us) ys) F' /\ NewF w F F' /\ Only F w W5 := by
   rintro W5 ⟨F'', h1, h2⟩ hO
   refine ⟨Firm.of_only hO fun k hk => .inr ?_, ⟨hO.size, fun k o hk ho hn => ?_⟩, F'', ?_, i2.trans h2 i3.size, i3.trans hO i2⟩
   ·obtain ⟨o, ho, hc⟩ := i1.cells k hk
    cases o with
    | cells c t f => exact ⟨_, _, _, ho⟩
    | _ => cases hc
   ·have hkl := (Array.getElem?_eq_some_iff.1 hk).1
    have hkF : k ∉ F' := fun h => hn ⟨_, F', i1, h⟩
    refine ⟨(hO.block k hkl hkF).trans hk, ?_⟩
    rintro ⟨xs', F3, h3, h4⟩
    replace h4 := h3.uniq h1 _ h4
    rcases h2 k h4 with h5 | h5
    ·exact hkF h5
    ·omega
   ·rw [List.map_append, List.foldl_append]
    simpa [undoI, hu1] using h1
  have hgo := hide hgo
  rw [hf, hfe]
  clear hb hE hrow hclo hrow1 hb1 hE1 hcl2 hb2 hcl hfe hf i0 i1 i2 i3 hI
  gi_wp2_with fail
  refine ⟨trivial, ?_⟩
  refine (CallsIn.inRound l' (callsIn_wide.2 hund.out)).mono ?_
  rintro e5 w5 ⟨h1, h2, rfl⟩
  gi_wp2
  exact hgo.out w5 h1 h2
 case hdone =>
  rintro D is W3 hD hS3 i0 hK
  have hJD := hide (hI _ _ _ i0 (Soft.putObj (.deferred none) hK hD rfl)).1
  rw [hS3, undo_down us us.length ys (Nat.le_refl _), List.take_length] at hJD
  gi_wp2
  refine ⟨by simp, .inl ⟨_, _, rfl, run_takeDeferred hK, ?_⟩⟩
  obtain ⟨F', h1, h2, h3⟩ := hJD.out
  exact ⟨_, results_none rfl _ _ _, ⟨F', h1, h2⟩, h3, rfl⟩
end Go.Proofs.YtglbamalagacgaaGreat
