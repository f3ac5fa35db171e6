import Derived.Test.YtglbamalagacgaaGreatA8
namespace Go.Proofs.YtglbamalagacgaaGreat
open Go.RowKit Go.Shelf
def EngF (w : World) (e : Value) (xs : List Ent) (F : List Nat) : Prop :=
 Sorted xs /\ (∀ x ∈ xs, okE x) /\ ∃ T p, e = .iface T (ptrV p) /\ ((T = 128 /\ ListF w p xs F) ∨ (T = 129 /\ TrieF w p xs F) ∨ (T = 130 /\ RangesF w p xs F))
theorem EngF.lt {w : World} {e : Value} {xs : List Ent} {F : List Nat} (h : EngF w e xs F) : ∀ k ∈ F, k < w.heap.size := by
 obtain ⟨_, _, T, p, _, (⟨_, h⟩ | ⟨_, h⟩ | ⟨_, h⟩)⟩ := h <;> exact h.lt
theorem EngF.cells {w : World} {e : Value} {xs : List Ent} {F : List Nat} (h : EngF w e xs F) : ∀ k ∈ F, ∃ o, w.heap[k]? = some o /\ o.isCells = true := by
 obtain ⟨_, _, T, p, _, (⟨_, h⟩ | ⟨_, h⟩ | ⟨_, h⟩)⟩ := h <;> exact h.cells
theorem EngF.kept {w w' : World} {e : Value} {xs : List Ent} {F : List Nat} (h : EngF w e xs F) (hk : ∀ k ∈ F, w'.heap[k]? = w.heap[k]?) : EngF w' e xs F := by
 obtain ⟨h1, h2, T, p, h3, (⟨h4, h⟩ | ⟨h4, h⟩ | ⟨h4, h⟩)⟩ := h
 ·exact ⟨h1, h2, T, p, h3, .inl ⟨h4, h.kept hk⟩⟩
 ·exact ⟨h1, h2, T, p, h3, .inr (.inl ⟨h4, h.kept hk⟩)⟩
 ·exact ⟨h1, h2, T, p, h3, .inr (.inr ⟨h4, h.kept hk⟩)⟩
theorem EngF.later {w w' : World} {e : Value} {xs : List Ent} {F : List Nat} (h : EngF w e xs F) (hB : Below w.heap.size w w') : EngF w' e xs F := h.kept fun k hk => hB.block k (h.lt k hk)
theorem EngF.sorted {w : World} {e : Value} {xs : List Ent} {F : List Nat} (h : EngF w e xs F) : Sorted xs := h.1
theorem EngF.ok {w : World} {e : Value} {xs : List Ent} {F : List Nat} (h : EngF w e xs F) : ∀ x ∈ xs, okE x := h.2.1
def kindE (e : Value) : Int := match e with
 | .iface T _ => if T = 128 then 1 else if T = 129 then 2 else 3
 | _ => 0
def needK (k : Int) (xs : List Ent) : Int := if k = 1 then xs.length else if k = 2 then trieN xs else xs.length + (strL xs).length
theorem needK_bd {k : Int} {xs : List Ent} (hs : Sorted xs) (hk : ∀ x ∈ xs, okE x) : 0 <= needK k xs /\ needK k xs <= 10000 := by
 have h1 := ok_len hs hk
 have h2 := trieN_bd xs
 have h3 : (strL xs).length <= 256 := strN_len xs 256
 unfold needK
 split
 ·omega
 ·split <;> omega
structure Meth (T p : Nat) (s : String) (f : Nat) : Prop where
 m : ∀ w, (method 342 T (ptrV p) s).run Tryz.prog w = .ok (f, ptrV p) w
 n : ∀ w, (nilAhead 342 T (ptrV p) s).run Tryz.prog w = .ok (some false) w
 c : ∀ args w, (callFunc f args).run Tryz.prog w = .ok (.enter f args) w
structure EngD (e : Value) (T p fl ft fc : Nat) : Prop where
 eq : e = .iface T (ptrV p)
 ml : Meth T p "Lay" fl
 mt : Meth T p "Take" ft
 mc : Meth T p "Cells" fc
 lay : ∀ w xs F a l n, EngF w e xs F -> okE ⟨a, l, n⟩ -> Calls Tryz.prog fl #[ptrV p, rteV a l n] w fun r w' => (∃ F', EngF w' e (putE xs a l n) F' /\ NewF w F F') /\ Only F w w' /\ r = .returned (.int .i64 (orZ (getE xs a l)))
 take : ∀ w xs F a l, EngF w e xs F -> isPfx a l = true -> Calls Tryz.prog ft #[ptrV p, pfxV a l] w fun r w' => (∃ F', EngF w' e (delE xs a l) F' /\ NewF w F F') /\ Only F w w' /\ r = .returned (.int .i64 (orZ (getE xs a l)))
 cells : ∀ w xs F, EngF w e xs F -> Calls Tryz.prog fc #[ptrV p] w fun r w' => Below w.heap.size w w' /\ r = .returned (.int .i64 (needK (kindE e) xs))
theorem ml_l (p : Nat) : Meth 128 p "Lay" 175 := ⟨fun _ => by kernel_rfl, fun _ => by kernel_rfl, fun _ _ => by kernel_rfl⟩
theorem ml_t (p : Nat) : Meth 128 p "Take" 176 := ⟨fun _ => by kernel_rfl, fun _ => by kernel_rfl, fun _ _ => by kernel_rfl⟩
theorem ml_c (p : Nat) : Meth 128 p "Cells" 173 := ⟨fun _ => by kernel_rfl, fun _ => by kernel_rfl, fun _ _ => by kernel_rfl⟩
theorem mt_l (p : Nat) : Meth 129 p "Lay" 192 := ⟨fun _ => by kernel_rfl, fun _ => by kernel_rfl, fun _ _ => by kernel_rfl⟩
theorem mt_t (p : Nat) : Meth 129 p "Take" 193 := ⟨fun _ => by kernel_rfl, fun _ => by kernel_rfl, fun _ _ => by kernel_rfl⟩
theorem mt_c (p : Nat) : Meth 129 p "Cells" 190 := ⟨fun _ => by kernel_rfl, fun _ => by kernel_rfl, fun _ _ => by kernel_rfl⟩
theorem mr_l (p : Nat) : Meth 130 p "Lay" 204 := ⟨fun _ => by kernel_rfl, fun _ => by kernel_rfl, fun _ _ => by kernel_rfl⟩
theorem mr_t (p : Nat) : Meth 130 p "Take" 205 := ⟨fun _ => by kernel_rfl, fun _ => by kernel_rfl, fun _ _ => by kernel_rfl⟩
theorem mr_c (p : Nat) : Meth 130 p "Cells" 202 := ⟨fun _ => by kernel_rfl, fun _ => by kernel_rfl, fun _ _ => by kernel_rfl⟩
theorem EngF.list {w : World} {p : Nat} {xs : List Ent} {F : List Nat} (h : EngF w (.iface 128 (ptrV p)) xs F) : Sorted xs /\ (∀ x ∈ xs, okE x) /\ ListF w p xs F := by
 obtain ⟨h1, h2, T, q, he, h⟩ := h
 cases he
 rcases h with ⟨_, h⟩ | ⟨h3, _⟩ | ⟨h3, _⟩
 ·exact ⟨h1, h2, h⟩
 ·exact absurd h3 (by decide)
 ·exact absurd h3 (by decide)
theorem EngF.trie {w : World} {p : Nat} {xs : List Ent} {F : List Nat} (h : EngF w (.iface 129 (ptrV p)) xs F) : Sorted xs /\ (∀ x ∈ xs, okE x) /\ TrieF w p xs F := by
 obtain ⟨h1, h2, T, q, he, h⟩ := h
 cases he
 rcases h with ⟨h3, _⟩ | ⟨_, h⟩ | ⟨h3, _⟩
 ·exact absurd h3 (by decide)
 ·exact ⟨h1, h2, h⟩
 ·exact absurd h3 (by decide)
theorem EngF.ranges {w : World} {p : Nat} {xs : List Ent} {F : List Nat} (h : EngF w (.iface 130 (ptrV p)) xs F) : Sorted xs /\ (∀ x ∈ xs, okE x) /\ RangesF w p xs F := by
 obtain ⟨h1, h2, T, q, he, h⟩ := h
 cases he
 rcases h with ⟨h3, _⟩ | ⟨h3, _⟩ | ⟨_, h⟩
 ·exact absurd h3 (by decide)
 ·exact absurd h3 (by decide)
 ·exact ⟨h1, h2, h⟩
theorem EngF.mkL {w : World} {p : Nat} {xs : List Ent} {F : List Nat} (h1 : Sorted xs) (h2 : ∀ x ∈ xs, okE x) (h : ListF w p xs F) : EngF w (.iface 128 (ptrV p)) xs F := ⟨h1, h2, _, _, rfl, .inl ⟨rfl, h⟩⟩
theorem EngF.mkT {w : World} {p : Nat} {xs : List Ent} {F : List Nat} (h1 : Sorted xs) (h2 : ∀ x ∈ xs, okE x) (h : TrieF w p xs F) : EngF w (.iface 129 (ptrV p)) xs F := ⟨h1, h2, _, _, rfl, .inr (.inl ⟨rfl, h⟩)⟩
theorem EngF.mkR {w : World} {p : Nat} {xs : List Ent} {F : List Nat} (h1 : Sorted xs) (h2 : ∀ x ∈ xs, okE x) (h : RangesF w p xs F) : EngF w (.iface 130 (ptrV p)) xs F := ⟨h1, h2, _, _, rfl, .inr (.inr ⟨rfl, h⟩)⟩
theorem engD_list (p : Nat) : EngD (.iface 128 (ptrV p)) 128 p 175 176 173 := by
 refine ⟨rfl, ml_l p, ml_t p, ml_c p, fun w xs F a l n h hr => ?_, fun w xs F a l h _ => ?_, fun w xs F h => ?_⟩
 ·obtain ⟨h1, h2, h3⟩ := h.list
  refine (lstLay_any p xs F a l n w h3 h2).mono ?_
  rintro _ w' ⟨⟨F', g1, g2⟩, g3, g4⟩
  exact ⟨⟨F', .mkL (putE_sorted h1) (ok_put h2 hr) g1, g2⟩, g3, g4⟩
 ·obtain ⟨h1, h2, h3⟩ := h.list
  refine (lstTake_any p xs F a l w h3).mono ?_
  rintro _ w' ⟨⟨F', g1, g2⟩, g3, g4⟩
  exact ⟨⟨F', .mkL (delE_sorted h1) (ok_del h2) g1, g2⟩, g3, g4⟩
 ·obtain ⟨h1, h2, h3⟩ := h.list
  refine (lstCells_any p xs F w h3).mono ?_
  rintro _ w' ⟨rfl, rfl⟩
  exact ⟨Below.refl _ _, rfl⟩
theorem engD_trie (p : Nat) : EngD (.iface 129 (ptrV p)) 129 p 192 193 190 := by
 refine ⟨rfl, mt_l p, mt_t p, mt_c p, fun w xs F a l n h hr => ?_, fun w xs F a l h hp => ?_, fun w xs F h => ?_⟩
 ·obtain ⟨h1, h2, h3⟩ := h.trie
  refine (trLay_any p xs F a l n w h3 h1 h2 hr).mono ?_
  rintro _ w' ⟨⟨F', g1, g2⟩, g3, g4⟩
  exact ⟨⟨F', .mkT (putE_sorted h1) (ok_put h2 hr) g1, g2⟩, g3, g4⟩
 ·obtain ⟨h1, h2, h3⟩ := h.trie
  refine (trTake_any p xs F a l w h3 h1 h2 hp).mono ?_
  rintro _ w' ⟨⟨F', g1, g2⟩, g3, g4⟩
  exact ⟨⟨F', .mkT (delE_sorted h1) (ok_del h2) g1, g2⟩, g3, g4⟩
 ·obtain ⟨h1, h2, h3⟩ := h.trie
  refine (trCells_any p xs F w h3 h1 h2).mono ?_
  rintro _ w' ⟨rfl, rfl⟩
  exact ⟨Below.refl _ _, rfl⟩
theorem engD_ranges (p : Nat) : EngD (.iface 130 (ptrV p)) 130 p 204 205 202 := by
 refine ⟨rfl, mr_l p, mr_t p, mr_c p, fun w xs F a l n h hr => ?_, fun w xs F a l h hp => ?_, fun w xs F h => ?_⟩
 ·obtain ⟨h1, h2, h3⟩ := h.ranges
  refine (rgsLay_any p xs F a l n w h3 h2 hr.1).mono ?_
  rintro _ w' ⟨⟨F', g1, g2⟩, g3, g4⟩
  exact ⟨⟨F', .mkR (putE_sorted h1) (ok_put h2 hr) g1, g2⟩, g3, g4⟩
 ·obtain ⟨h1, h2, h3⟩ := h.ranges
  refine (rgsTake_any p xs F a l w h3 hp).mono ?_
  rintro _ w' ⟨⟨F', g1, g2⟩, g3, g4⟩
  exact ⟨⟨F', .mkR (delE_sorted h1) (ok_del h2) g1, g2⟩, g3, g4⟩
 ·obtain ⟨h1, h2, h3⟩ := h.ranges
  exact rgsCells_any p xs F w h3 h2
theorem EngF.disp {w : World} {e : Value} {xs : List Ent} {F : List Nat} (h : EngF w e xs F) : ∃ T p fl ft fc, EngD e T p fl ft fc := by
 obtain ⟨_, _, T, p, rfl, (⟨rfl, _⟩ | ⟨rfl, _⟩ | ⟨rfl, _⟩)⟩ := h
 ·exact ⟨_, _, _, _, _, engD_list p⟩
 ·exact ⟨_, _, _, _, _, engD_trie p⟩
 ·exact ⟨_, _, _, _, _, engD_ranges p⟩
def setE (xs : List Ent) (a l n : Int) : List Ent := if n = 0 then delE xs a l else putE xs a l n
set_option maxHeartbeats 400000 in
theorem set_take (e : Value) (xs : List Ent) (F : List Nat) (a l : Int) (w : World) (hE : EngF w e xs F) (hp : isPfx a l = true) :
  Calls Tryz.prog 90 #[e, pfxV a l, .int .i64 0] w fun r w' => (∃ F', EngF w' e (delE xs a l) F' /\ NewF w F F') /\ Only F w w' /\ r = .returned (.int .i64 (orZ (getE xs a l))) := by
 obtain ⟨T, p, fl, ft, fc, D⟩ := hE.disp
 have hB1 : Below w.heap.size w (w.alloc (Obj.cells #[.int .i64 a, .int .i64 l] 65)) := (Below.refl _ w).alloc (Nat.le_refl _) _
 have htk := hide (D.take _ xs F a l (hE.later hB1) hp)
 have mt := D.mt.m
 have ct := D.mt.c
 have eq := D.eq
 have fin := hide (show ∀ w2, (∃ F', EngF w2 e (delE xs a l) F' /\ NewF (w.alloc (Obj.cells #[.int .i64 a, .int .i64 l] 65)) F F') -> Only F (w.alloc (Obj.cells #[.int .i64 a, .int .i64 l] 65)) w2 -> (∃ F', EngF w2 e (delE xs a l) F' /\ NewF w F F') /\ Only F w w2 from by
  rintro w2 ⟨F', h1, h2⟩ hO
  exact ⟨⟨F', h1, fun k hk => (h2 k hk).imp id (fun h => by have := hB1.size; omega)⟩, (Only.of_below _ hB1).trans hO (fun x hx => .inl hx)⟩)
 clear D hE hB1
 subst eq
 go_enter Tryz.func90, Tryz.ntmps90
 go_wp2_with fail
 refine htk.out.mono ?_
 rintro _ w2 ⟨h1, h2, rfl⟩
 have fin2 := hide (fin.out w2 h1 h2)
 clear h1 h2 fin htk mt ct
 go_wp2
 go_ret
 exact ⟨fin2.out.1, fin2.out.2, rfl⟩
set_option maxRecDepth 4000 in
set_option maxHeartbeats 400000 in
theorem set_lay (e : Value) (xs : List Ent) (F : List Nat) (a l n : Int) (w : World) (hE : EngF w e xs F) (hn : okE ⟨a, l, n⟩) :
  Calls Tryz.prog 90 #[e, pfxV a l, .int .i64 n] w fun r w' => (∃ F', EngF w' e (putE xs a l n) F' /\ NewF w F F') /\ Only F w w' /\ r = .returned (.int .i64 (orZ (getE xs a l))) := by
 obtain ⟨T, p, fl, ft, fc, D⟩ := hE.disp
 have hn0 : (n == 0) = false := by have h : 1 <= n := hn.2.1; simp; omega
 have ml := D.ml.m
 have nl := D.ml.n
 have cl := D.ml.c
 have eq := D.eq
 have Hlay := hide (fun W (hW : Below w.heap.size w W) => D.lay W xs F a l n (hE.later hW) hn)
 have hB1 : Below w.heap.size w (w.alloc (Obj.cells #[.int .i64 a, .int .i64 l] 65)).drew := ((Below.refl _ w).alloc (Nat.le_refl _) _).drew
 have hFl := hE.lt
 have hwF : w.heap.size ∉ F := fun h => by have := hFl _ h; omega
 have fin := hide (show ∀ w1 w2, Below w.heap.size w w1 -> (∃ F', EngF w2 e (putE xs a l n) F' /\ NewF w1 F F') -> Only F w1 w2 -> (∃ F', EngF w2 e (putE xs a l n) F' /\ NewF w F F') /\ Only F w w2 from by
  rintro w1 w2 hB1 ⟨F', h1, h2⟩ hO
  exact ⟨⟨F', h1, fun k hk => (h2 k hk).imp id (fun h => by have := hB1.size; omega)⟩, (Only.of_below _ hB1).trans hO (fun x hx => .inl hx)⟩)
 clear D hE hFl
 subst eq
 go_enter Tryz.func90, Tryz.ntmps90
 go_wp2
 go_region_held3 (fun w' => w'.cell? ⟨w.heap.size, 0, none⟩ = some (.int .i64 a) /\ w'.cell? ⟨w.heap.size, 1, none⟩ = some (.int .i64 l)) (go_keep)
  (first
   | (go_at_call 123; refine (route_any _ _ _ _).mono ?_; rintro _ w1 ⟨rfl, hb⟩; have hc := (bcell hb).1; (have hB2 : Below w.heap.size w w1 := hB1.trans (hb.mono (by simp))); (have hz1 : w.heap.size < w1.heap.size := by have := hb.size; simp at this; omega))
   | (refine (Hlay.out _ hB2).mono ?_; rintro _ w2 ⟨hF2, hO, rfl⟩; (have hc2 : ∀ o, w2.cell? ⟨w.heap.size, o, none⟩ = w1.cell? ⟨w.heap.size, o, none⟩ := fun o => hO.cell hz1 hwF)))
 all_goals
  have fin2 := hide (fin.out w1 w2 hB2 hF2 hO)
  clear hF2 hO hB1 hB2 hc hc2 hb fin Hlay
  go_wp2
  go_ret
  exact ⟨fin2.out.1, fin2.out.2, rfl⟩
theorem set_any (e : Value) (xs : List Ent) (F : List Nat) (a l n : Int) (w : World) (hE : EngF w e xs F) (hp : isPfx a l = true) (hn : n = 0 ∨ okE ⟨a, l, n⟩) :
  Calls Tryz.prog 90 #[e, pfxV a l, .int .i64 n] w fun r w' => (∃ F', EngF w' e (setE xs a l n) F' /\ NewF w F F') /\ Only F w w' /\ r = .returned (.int .i64 (orZ (getE xs a l))) := by
 by_cases h : n = 0
 ·subst h
  have := set_take e xs F a l w hE hp
  simpa [setE] using this
 ·have := set_lay e xs F a l n w hE (hn.resolve_left h)
  simpa [setE, h] using this
theorem ListF.uniq {w : World} {p : Nat} {xs ys : List Ent} {F G : List Nat} (h : ListF w p xs F) (k : ListF w p ys G) : F = G := by
 obtain ⟨st, Fs, h1, ⟨v, hS, rfl⟩, _, rfl⟩ := h
 obtain ⟨st', Fs', h1', ⟨v', hS', rfl⟩, _, rfl⟩ := k
 rw [h1] at h1'
 cases h1'
 have := hS.1.symm.trans hS'.1
 cases this
 rfl
theorem ptrO_inj {a b : Option Nat} (h : ptrO a = ptrO b) : a = b := by
 cases a with
 | none =>
  cases b with
  | none => rfl
  | some b => cases h
 | some a =>
  cases b with
  | none => cases h
  | some b => cases h; rfl
theorem TrM.uniq {w : World} {B B' : Nat -> Option Nat} {v v' : Nat -> Int} (h : TrM w B v) (h' : TrM w B' v') (h1 : B 1 = B' 1) : ∀ n c, c < n -> 1 <= c -> B c = B' c := by
 intro n
 induction n with
 | zero => intro c hc; omega
 | succ n ih =>
  intro c hc hc1
  by_cases e1 : c = 1
  ·rw [e1]; exact h1
  ·have hp := ih (c / 2) (by omega) (by omega)
   cases hb : B (c / 2) with
   | none =>
    have hb' := hp ▸ hb
    have u := h.up (c / 2) (by omega) hb
    have u' := h'.up (c / 2) (by omega) hb'
    rcases (show c = 2 * (c / 2) ∨ c = 2 * (c / 2) + 1 by omega) with e | e
    ·rw [e, u.1, u'.1]
    ·rw [e, u.2, u'.2]
   | some b =>
    have hb' := hp ▸ hb
    have q := (h.node _ b hb).symm.trans (h'.node _ b hb')
    simp only [Option.some.injEq, Obj.cells.injEq] at q
    have q1 := congrArg Array.toList q.1
    simp at q1
    rcases (show c = 2 * (c / 2) ∨ c = 2 * (c / 2) + 1 by omega) with e | e
    ·rw [e]; exact ptrO_inj q1.2.1
    ·rw [e]; exact ptrO_inj q1.2.2
theorem TrieF.uniq {w : World} {p : Nat} {xs ys : List Ent} {F G : List Nat} (h : TrieF w p xs F) (k : TrieF w p ys G) : ∀ x, x ∈ F -> x ∈ G := by
 obtain ⟨B, h1, h2, _, h4⟩ := h
 obtain ⟨B', k1, k2, _, k4⟩ := k
 intro x hx
 obtain ⟨c, hc⟩ := (h4 x).1 hx
 have := h1.uniq k1 (h2.trans k2.symm) (c + 1) c (by omega) (h1.dom c x hc).1
 exact (k4 x).2 ⟨c, by rw [<- this]; exact hc⟩
theorem RangesF.uniq {w : World} {p : Nat} {xs ys : List Ent} {F G : List Nat} (h : RangesF w p xs F) (k : RangesF w p ys G) : F = G := by
 obtain ⟨lp, sp, F1, F2, h1, rfl⟩ := h
 obtain ⟨lp', sp', G1, G2, k1, rfl⟩ := k
 have := h1.blk.symm.trans k1.blk
 cases this
 rw [h1.lst.uniq k1.lst]
 obtain ⟨v, hS, rfl⟩ := h1.str
 obtain ⟨v', hS', rfl⟩ := k1.str
 have := hS.1.symm.trans hS'.1
 cases this
 rfl
theorem EngF.uniq {w : World} {e : Value} {xs ys : List Ent} {F G : List Nat} (h : EngF w e xs F) (k : EngF w e ys G) : ∀ x, x ∈ F -> x ∈ G := by
 obtain ⟨_, _, T, p, rfl, (⟨rfl, h⟩ | ⟨rfl, h⟩ | ⟨rfl, h⟩)⟩ := h
 ·rw [h.uniq k.list.2.2]; exact fun _ h => h
 ·exact h.uniq k.trie.2.2
 ·rw [h.uniq k.ranges.2.2]; exact fun _ h => h
end Go.Proofs.YtglbamalagacgaaGreat

namespace Go.Proofs.YtglbamalagacgaaGreat
open Go.RowKit Go.Shelf
def RowG (e : TypeId) (sz : Nat) (w : World) (v : Value) (n : Nat) (cs : List Value) : Prop :=
 cs.length = n * sz /\ ((v = .slice none 0 0 /\ n = 0) ∨
  ∃ g cap sp, v = .slice (some ⟨g, 0, none⟩) n cap /\ w.heap[g]? = some (.cells (cs ++ sp).toArray e (0, 0)) /\ (cs ++ sp).length = cap * sz /\ n <= cap /\ cap <= maxLen)
theorem RowG.shape {e : TypeId} {sz : Nat} {w : World} {v : Value} {n : Nat} {cs : List Value} (h : RowG e sz w v n cs) : ∃ a c, v = .slice a n c := by
 rcases h.2 with ⟨rfl, rfl⟩ | ⟨g, cap, sp, rfl, _⟩
 ·exact ⟨_, _, rfl⟩
 ·exact ⟨_, _, rfl⟩
theorem RowG.lt {e : TypeId} {sz : Nat} {w : World} {v : Value} {n : Nat} {cs : List Value} (h : RowG e sz w v n cs) : ∀ g, v.ownBlock = some g -> g < w.heap.size := by
 intro g hg
 rcases h.2 with ⟨rfl, rfl⟩ | ⟨g', cap, sp, rfl, hg', _⟩
 ·cases hg
 ·cases hg; exact (Array.getElem?_eq_some_iff.1 hg').1
theorem RowG.kept {e : TypeId} {sz : Nat} {w w' : World} {v : Value} {n : Nat} {cs : List Value} (h : RowG e sz w v n cs) (hk : ∀ g, v.ownBlock = some g -> w'.heap[g]? = w.heap[g]?) : RowG e sz w' v n cs := by
 refine ⟨h.1, ?_⟩
 rcases h.2 with h | ⟨g, cap, sp, rfl, hg, r⟩
 ·exact .inl h
 ·exact .inr ⟨g, cap, sp, rfl, (hk g rfl).trans hg, r⟩
theorem RowG.nil (e : TypeId) (sz : Nat) (w : World) : RowG e sz w (.slice none 0 0) 0 [] := ⟨by simp, .inl ⟨rfl, rfl⟩⟩
theorem RowG.cell {e : TypeId} {sz : Nat} {w : World} {g n cap : Nat} {cs : List Value} (h : RowG e sz w (.slice (some ⟨g, 0, none⟩) n cap) n cs) {j : Nat} {v : Value} (hj : cs[j]? = some v) : w.cell? ⟨g, j, none⟩ = some v := by
 rcases h.2 with ⟨h, _⟩ | ⟨g', cap', sp, hv, hg, _⟩
 ·cases h
 ·cases hv
  have : j < cs.length := (List.getElem?_eq_some_iff.1 hj).1
  simp [World.cell?, hg, List.getElem?_append_left this, hj]
theorem run_appendG {P : Program} (w : World) (t ty e : TypeId) (i : TypeInfo) (z : Value) (sz bytes : Nat) (ht : P.underlying t = some (.slice e)) (hi : P.info? e = some i) (hz : i.zero = some z) (hsize : i.size = sz) (hby : i.bytes = bytes) (hzs : z.cells.size = sz) (hsz : 0 < sz) (hb24 : bytes <= 64)
  (v : Value) (n : Nat) (cs : List Value) (hrow : RowG e sz w v n cs) (a : Addr) (c : Nat) (news : List Value) (hl : news.length = sz) (hnews : ∀ j u, news[j]? = some u -> w.cell? (a.add j) = some u) (h1 : ∀ u ∈ news, u.oneCell' = true) (hn : n <= 1000000) :
  ∃ g cap w', (Builtin.append_ #[t, t] ty #[v, .slice (some a) 1 c]).run P w = .ok (.slice (some ⟨g, 0, none⟩) (n + 1) cap) w' /\ RowG e sz w' (.slice (some ⟨g, 0, none⟩) (n + 1) cap) (n + 1) (cs ++ news) /\ w.grownBy w' v.ownBlock /\ (some g = v.ownBlock ∨ w.heap.size <= g) := by
 subst hsize
 subst hby
 have hlen : (cs ++ news).length = (n + 1) * i.size := by rw [List.length_append, hrow.1, hl, Nat.add_mul, Nat.one_mul]
 have hM : (1000001 : Nat) <= maxLen := by unfold maxLen; omega
 have hfits : ∀ old, old < n + 1 -> Builtin.nextslicecap (n + 1) old * i.bytes <= 281474976710656 := fun old ho => growslice_fits ho (by
  calc (n + 1) * i.bytes <= 1000001 * 64 := Nat.mul_le_mul (by omega) hb24
   _ <= _ := by omega)
 have new : ∀ old (row : Option Nat), RowG e i.size (w.drew.alloc (.cells (cs.toArray ++ news.toArray ++ Builtin.zeroCells z.cells (grownCap w (n + 1) old e - (n + 1))) e)) (.slice (some ⟨w.heap.size, 0, none⟩) (n + 1) (grownCap w (n + 1) old e)) (n + 1) (cs ++ news) ∧
   w.grownBy (w.drew.alloc (.cells (cs.toArray ++ news.toArray ++ Builtin.zeroCells z.cells (grownCap w (n + 1) old e - (n + 1))) e)) row := by
  intro old row
  have hge := grownCap_ge w (n + 1) old e
  refine ⟨⟨hlen, .inr ⟨w.heap.size, _, (Builtin.zeroCells z.cells (grownCap w (n + 1) old e - (n + 1))).toList, rfl, ?_, ?_, hge, grownCap_le_maxLen w _ _ _ (by omega)⟩⟩, grownBy_below ((Below.refl _ w).drew.alloc (Nat.le_refl _) _) _⟩
  ·have : (cs ++ news ++ (Builtin.zeroCells z.cells (grownCap w (n + 1) old e - (n + 1))).toList).toArray = cs.toArray ++ news.toArray ++ Builtin.zeroCells z.cells (grownCap w (n + 1) old e - (n + 1)) := by
    apply Array.ext'; simp
   rw [this]
   exact heap_alloc_new w.drew _
  ·rw [List.length_append, hlen, Array.length_toList, size_zeroCells, hzs, <- Nat.add_mul]
   congr 1
   omega
 rcases hrow.2 with ⟨rfl, rfl⟩ | ⟨g, cap, sp, rfl, hg, hls, hnc, hcm⟩
 ·have hx : cs = [] := List.eq_nil_of_length_eq_zero (by simpa using hrow.1)
  subst hx
  have hr := run_append_nil (P := P) w t ty e i z ht hi hz a 1 c news (by rw [hl, Nat.one_mul]) hnews (by omega) (by omega) (by have := hfits 0 (by omega); rw [nextslicecap_zero (by omega)] at this; simpa using this)
  obtain ⟨h2, h3⟩ := new 0 (Value.ownBlock (.slice none 0 0))
  simp only [Nat.zero_add, List.nil_append, Array.empty_append] at h2 h3
  exact ⟨_, _, _, hr, h2, h3, .inr (Nat.le_refl _)⟩
 ·by_cases hroom : n + 1 <= cap
  ·have hcl : (n + 1) * i.size <= cap * i.size := Nat.mul_le_mul_right _ hroom
   rw [List.length_append, hrow.1] at hls
   rw [Nat.add_mul, Nat.one_mul] at hcl
   have hr := run_append_room (P := P) w t ty e i ht hi g n cap _ hg a 1 c news (by rw [hl, Nat.one_mul]) hnews h1 hroom (by rw [List.size_toArray, List.length_append, hrow.1, hl]; omega)
   refine ⟨g, cap, _, hr, ⟨hlen, .inr ⟨g, cap, sp.drop i.size, rfl, ?_, ?_, hroom, hcm⟩⟩, grownBy_setRow' g _, .inl rfl⟩
   ·have e1 : List.take (n * i.size) (cs ++ sp).toArray.toList ++ news ++ List.drop (n * i.size + news.length) (cs ++ sp).toArray.toList = cs ++ news ++ sp.drop i.size := by
     show List.take (n * i.size) (cs ++ sp) ++ news ++ List.drop (n * i.size + news.length) (cs ++ sp) = _
     rw [List.take_left' hrow.1, <- hrow.1, drop_past, hl]
    rw [e1]
    exact setRow_heap w g _ _ _ _ hg
   ·rw [List.length_append, hlen, List.length_drop, Nat.add_mul, Nat.one_mul]
    omega
  ·have hr := run_append_grow (P := P) w t ty e i z ht hi hz ⟨g, 0, none⟩ n cap cs hrow.1 (fun j v hj => by
     rw [Addr.add_lit]
     have : j < cs.length := (List.getElem?_eq_some_iff.1 hj).1
     simp only [World.cell?, hg]
     simp [List.getElem?_append_left this, hj]) a 1 c news (by rw [hl, Nat.one_mul]) hnews (by omega) (by omega) (hfits cap (by omega))
   obtain ⟨h2, h3⟩ := new cap (Value.ownBlock (.slice (some ⟨g, 0, none⟩) n cap))
   exact ⟨_, _, _, hr, h2, h3, .inr (Nat.le_refl _)⟩
end Go.Proofs.YtglbamalagacgaaGreat

namespace Go.Proofs.YtglbamalagacgaaGreat.Lg
open Go.RowKit Go.Shelf
abbrev Ent := Int × Int
def Ent.z : Ent := (0, 0)
abbrev entV (a l : Int) : Value := .agg #[.int .i64 a, .int .i64 l]
def Ent.cells (x : Ent) : List Value := [.int .i64 x.1, .int .i64 x.2]
def entCells (xs : List Ent) : List Value := xs.flatMap Ent.cells
theorem entCells_cons (x : Ent) (xs : List Ent) : entCells (x :: xs) = x.cells ++ entCells xs := rfl
theorem entCells_append (xs ys : List Ent) : entCells (xs ++ ys) = entCells xs ++ entCells ys := by simp [entCells]
theorem entCells_length (xs : List Ent) : (entCells xs).length = xs.length * 2 := by
 induction xs with
 | nil => rfl
 | cons x xs ih => rw [entCells_cons, List.length_append, ih]; simp [Ent.cells]; omega
theorem entCells_take (xs : List Ent) (i : Nat) : (entCells xs).take (i * 2) = entCells (xs.take i) := by
 induction i generalizing xs with
 | zero => simp [entCells]
 | succ i ih =>
  cases xs with
  | nil => simp [entCells]
  | cons x xs => rw [List.take_succ_cons, entCells_cons, entCells_cons, <- ih xs, show (i + 1) * 2 = i * 2 + 1 + 1 by omega]; rfl
theorem entCells_drop (xs : List Ent) (i : Nat) : (entCells xs).drop (i * 2) = entCells (xs.drop i) := by
 induction i generalizing xs with
 | zero => simp
 | succ i ih =>
  cases xs with
  | nil => simp [entCells]
  | cons x xs => rw [List.drop_succ_cons, entCells_cons, <- ih xs, show (i + 1) * 2 = i * 2 + 1 + 1 by omega]; rfl
theorem entCells_one (xs : List Ent) : ∀ v ∈ entCells xs, v.oneCell' = true := by
 intro v hv
 obtain ⟨x, _, hx⟩ := List.mem_flatMap.1 hv
 simp [Ent.cells] at hx
 rcases hx with rfl | rfl <;> rfl
theorem entInfo : ∃ i, Tryz.prog.info? 65 = some i /\ i.zero = some (entV 0 0) /\ i.size = 2 /\ i.bytes = 16 := by
 have h : (Tryz.prog.info? 65).map (fun i => (i.zero, i.size, i.bytes)) = some (some (entV 0 0), 2, 16) := by kernel_rfl
 cases hq : Tryz.prog.info? 65 with
 | none => simp [hq] at h
 | some i => simp [hq] at h; exact ⟨i, rfl, h.1, h.2.1, h.2.2⟩
theorem part_news {w : World} {g : Nat} {cur : List Value} {xs : List Ent} {t : TypeId} {fz : Nat × Nat} {sp : List Value} (hg : w.heap[g]? = some (.cells cur.toArray t fz)) (hc : cur = entCells xs ++ sp) (i : Nat) :
  ∀ j v, (entCells (xs.drop i))[j]? = some v -> w.cell? ((⟨g, i * 2, none⟩ : Addr).add j) = some v := by
 intro j v hj
 subst hc
 rw [Addr.add_lit]
 have hj2 : j < (entCells (xs.drop i)).length := (List.getElem?_eq_some_iff.1 hj).1
 have hd : (entCells (xs.drop i)).length = (xs.length - i) * 2 := by rw [entCells_length, List.length_drop]
 have hl := entCells_length xs
 rw [<- entCells_drop, List.getElem?_drop] at hj
 simp only [World.cell?, hg]
 simp [List.getElem?_append_left (show i * 2 + j < (entCells xs).length by omega), hj]
theorem zeroCells_length (n : Nat) : (Builtin.zeroCells (entV 0 0).cells n).toList.length = n * 2 := by
 have : (entV 0 0).cells.size = 2 := rfl
 rw [Array.length_toList, size_zeroCells, this]
theorem del_append (w : World) (g i cap : Nat) (xs : List Ent) (sp : List Value) (hi : i < xs.length) (hg : w.heap[g]? = some (.cells (entCells xs ++ sp).toArray 65 (0, 0))) (hl : (entCells xs ++ sp).length = cap * 2) (_hnc : xs.length <= cap)
  (ad : Addr) (had : i + 1 < xs.length -> ad = ⟨g, (i + 1) * 2, none⟩) (ty : TypeId) (sc : Nat) :
  (Builtin.append_ #[120, 120] ty #[.slice (some ⟨g, 0, none⟩) i cap, .slice (some ad) (xs.length - (i + 1)) sc]).run Tryz.prog w =
   .ok (.slice (some ⟨g, 0, none⟩) (xs.length - 1) cap) (w.setRow g (entCells (xs.take i ++ xs.drop (i + 1)) ++ (entCells (xs.drop (xs.length - 1)) ++ sp)).toArray) := by
 obtain ⟨inf, hinf, hz, hs, hb⟩ := entInfo
 have hlx := entCells_length xs
 rw [List.length_append, hlx] at hl
 have hd : (entCells (xs.drop (i + 1))).length = (xs.length - (i + 1)) * 2 := by rw [entCells_length, List.length_drop]
 have := run_append_room (P := Tryz.prog) w 120 ty 65 inf Tryz.underlying120 hinf g i cap _ hg ad (xs.length - (i + 1)) sc (entCells (xs.drop (i + 1))) (by rw [hd, hs])
  (fun j v hj => by
   have hj1 : j < (entCells (xs.drop (i + 1))).length := (List.getElem?_eq_some_iff.1 hj).1
   rw [had (by omega)]
   exact part_news hg rfl (i + 1) j v hj)
  (entCells_one _) (by omega) (by rw [hs, hd, List.size_toArray, List.length_append, hlx]; omega)
 rw [this, hs, show i + (xs.length - (i + 1)) = xs.length - 1 by omega]
 have e : List.take (i * 2) (entCells xs ++ sp).toArray.toList ++ entCells (xs.drop (i + 1)) ++ List.drop (i * 2 + (entCells (xs.drop (i + 1))).length) (entCells xs ++ sp).toArray.toList = entCells (xs.take i ++ xs.drop (i + 1)) ++ (entCells (xs.drop (xs.length - 1)) ++ sp) := by
  show List.take (i * 2) (entCells xs ++ sp) ++ entCells (xs.drop (i + 1)) ++ List.drop (i * 2 + (entCells (xs.drop (i + 1))).length) (entCells xs ++ sp) = _
  rw [List.take_append_of_le_length (by omega), entCells_take, hd, show i * 2 + (xs.length - (i + 1)) * 2 = (xs.length - 1) * 2 by omega, List.drop_append_of_le_length (by omega), entCells_drop, entCells_append]
 rw [e]
theorem zero_one : (Builtin.zeroCells (entV 0 0).cells 1).toList = Ent.z.cells := by simp [Builtin.zeroCells, Value.cells, Ent.cells, Ent.z, List.range_succ]
theorem del_clear (w : World) (g n : Nat) (ys : List Ent) (y : List Value) (sp : List Value) (hg : w.heap[g]? = some (.cells (entCells ys ++ (y ++ sp)).toArray 65 (0, 0))) (hy : y.length = 2) (hn : n = ys.length) (ty : TypeId) (c : Nat) :
  (Builtin.clear_ #[120] ty #[.slice (some ⟨g, n * 2, none⟩) 1 c]).run Tryz.prog w = .ok (.tuple #[]) (w.setRow g (entCells ys ++ (Ent.z.cells ++ sp)).toArray) := by
 subst hn
 have hlx := entCells_length ys
 have hz3 : Ent.z.cells.length = 2 := rfl
 have := run_clearS (P := Tryz.prog) (w := w) 120 ty 65 (entV 0 0) Tryz.underlying120 (fun w => by obtain ⟨i, hi, hz, _⟩ := entInfo; simp [zeroValue, typeInfo, hi, hz]) g (ys.length * 2) 1 c (by omega) _ 65 Ent.z.cells hg zero_one
  (by rw [List.size_toArray, List.length_append, List.length_append, hlx, hy, hz3]; omega) (by intro v hv; simp [Ent.cells] at hv; rcases hv with rfl | rfl <;> rfl)
 rw [this]
 have e : List.take (ys.length * 2) (entCells ys ++ (y ++ sp)).toArray.toList ++ Ent.z.cells ++ List.drop (ys.length * 2 + Ent.z.cells.length) (entCells ys ++ (y ++ sp)).toArray.toList = entCells ys ++ (Ent.z.cells ++ sp) := by
  show List.take (ys.length * 2) (entCells ys ++ (y ++ sp)) ++ Ent.z.cells ++ List.drop (ys.length * 2 + Ent.z.cells.length) (entCells ys ++ (y ++ sp)) = _
  rw [List.take_left' hlx, <- hlx, drop_past, hz3, <- hy, List.drop_left, List.append_assoc]
 rw [e]
set_option maxHeartbeats 400000 in
set_option maxRecDepth 100000 in
theorem delete_row (w : World) (g i cap : Nat) (xs : List Ent) (sp : List Value) (hi : i < xs.length) (hn : xs.length <= 1000000) (hnc : xs.length <= cap) (hcm : cap <= maxLen)
  (hg : w.heap[g]? = some (.cells (entCells xs ++ sp).toArray 65 (0, 0))) (hl : (entCells xs ++ sp).length = cap * 2) :
  Calls Tryz.prog 135 #[.slice (some ⟨g, 0, none⟩) xs.length cap, .int .i64 i, .int .i64 ((i : Int) + 1)] w fun e w1 =>
   e = .returned (.slice (some ⟨g, 0, none⟩) (xs.length - 1) cap) /\ w1 = w.drew.setRow g (entCells (xs.take i ++ xs.drop (i + 1)) ++ (Ent.z.cells ++ sp)).toArray := by
 have hap := fun ad had ty sc => del_append w.drew g i cap xs sp hi hg hl hnc ad had ty sc
 obtain ⟨W1, hW1⟩ : ∃ W1, W1 = w.drew.setRow g (entCells (xs.take i ++ xs.drop (i + 1)) ++ (entCells (xs.drop (xs.length - 1)) ++ sp)).toArray := ⟨_, rfl⟩
 rw [<- hW1] at hap
 have hg1 : W1.heap[g]? = some (.cells (entCells (xs.take i ++ xs.drop (i + 1)) ++ (entCells (xs.drop (xs.length - 1)) ++ sp)).toArray 65 (0, 0)) := by rw [hW1]; exact setRow_heap w.drew g _ _ _ _ hg
 have hcl := fun ty c => del_clear W1 g (xs.length - 1) (xs.take i ++ xs.drop (i + 1)) _ sp hg1 (by rw [entCells_length, List.length_drop]; omega) (by simp; omega) ty c
 have hfin : Hid (W1.setRow g (entCells (xs.take i ++ xs.drop (i + 1)) ++ (Ent.z.cells ++ sp)).toArray = w.drew.setRow g (entCells (xs.take i ++ xs.drop (i + 1)) ++ (Ent.z.cells ++ sp)).toArray) := by unfold Hid; rw [hW1, setRow_setRow]
 unfold maxLen at hcm
 generalize hN : xs.length = n at *
 have hb0 : (0 : Int) <= (i : Int) := by omega
 have hb1 : (i : Int) <= (cap : Int) := by omega
 have hb5 : (0 : Int) <= (i : Int) + 1 := by omega
 have hb6 : (i : Int) + 1 <= (n : Int) := by omega
 have htn : ((i : Int) + 1).toNat = i + 1 := by omega
 have hb7 : ((i : Int) == (i : Int) + 1) = false := by simp; omega
 have hcl' := fun ty => hcl ty (cap - (n - 1))
 have hb8 : ¬ (cap = n - 1) := by omega
 have hb9 : n - (n - 1) = 1 := by omega
 have hb10 : (n : Int) - 1 <= (n : Int) := by omega
 by_cases hcj : cap = i + 1
 ·obtain rfl : n = i + 1 := by omega
  subst hcj
  have hd : xs.drop (i + 1) = [] := List.drop_eq_nil_iff.2 (by omega)
  have hx : entCells xs ++ sp = entCells (xs.take i) ++ (entCells (xs.drop i) ++ sp) := by rw [<- List.append_assoc, <- entCells_append, List.take_append_drop]
  rw [hx] at hg
  have hc2 := fun ty => del_clear w.drew g i (xs.take i) _ sp hg (by rw [entCells_length, List.length_drop]; omega) (by rw [List.length_take]; omega) ty 1
  rw [hd, List.append_nil]
  have hb11 : (i : Int) <= (i : Int) + 1 := by omega
  clear hN hW1 hg1 hg hl hap hcl hcl' hb1 hb6 hb8 hb9 hb10 hd hx hfin
  go_enter Tryz.func135, Tryz.ntmps135
  go_wp2
  go_region
  go_wp2
  go_ret
  exact ⟨rfl, rfl⟩
 ·have hq := hide fun ty sc => hap ⟨g, (i + 1) * 2, none⟩ (fun _ => rfl) ty sc
  clear hN hW1 hg1 hg hl hap hcl
  go_enter Tryz.func135, Tryz.ntmps135
  go_wp2
  go_region_law (refine step_appendB rfl (.tmp 22) (.tmp 25) 120 120 rfl (.slice (some ⟨g, 0, none⟩) i cap) (.slice (some ⟨g, (i + 1) * 2, none⟩) (n - (i + 1)) (cap - (i + 1))) (by simp [Act.eval, Act.put]) (by simp [Act.eval, Act.put]) (.slice (some ⟨g, 0, none⟩) (n - 1) cap) W1 (hq.out _ _) ?_)
  go_wp2
  go_ret
  exact ⟨rfl, hfin.out⟩
end Go.Proofs.YtglbamalagacgaaGreat.Lg
