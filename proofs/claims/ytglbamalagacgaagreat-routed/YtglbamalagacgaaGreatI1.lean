import Derived.Test.YtglbamalagacgaaGreatA5
namespace Go.Proofs.YtglbamalagacgaaGreat
open Go.RowKit Go.Shelf
attribute [local go_sem] Oper.semAt_some
abbrev encPN {p : Ent -> Prop} (x : { x : Ent // p x }) : Array Value := #[pfxV x.1.a x.1.l, .int .i64 x.1.n]
set_option maxHeartbeats 1000000 in
theorem stoFrom1 (p : Ent -> Prop) (st bs bk : Nat) (xs : List Ent) (F : List Nat) (b m : Int) (w0 : World) (hS : StoreF w0 st xs F) (hp : ∀ x ∈ xs, p x)
  (hbs : w0.cell? ⟨bs, 0, none⟩ = some (ptrV st)) (hk0 : w0.cell? ⟨bk, 0, none⟩ = some (.int .i64 b)) (hk1 : w0.cell? ⟨bk, 1, none⟩ = some (.int .i64 m)) :
  SeqF 182 #[ptrV bs, ptrV bk] (encPN (p := p)) F (fun ys => ys.map (·.1) = fromE xs b m) (fun pre => pre.map (·.1) <+: fromE xs b m) xs.length w0 := by
 intro l Own J Jx W hW hOF _ hJ hJx hY h0
 have hFc := hS.cells
 have hFl := hS.lt
 obtain ⟨v, hS0, hFv⟩ := hS
 have lbs := World.block_lt_of_cell? w0 _ hbs
 have lbk := World.block_lt_of_cell? w0 _ hk0
 simp only at lbs lbk
 have a0 := (hW.cell (p := ⟨bs, 0, none⟩) lbs).trans hbs
 have a1 := (hW.cell (p := ⟨bk, 0, none⟩) lbk).trans hk0
 have a2 := (hW.cell (p := ⟨bk, 1, none⟩) lbk).trans hk1
 have hSW := hS0.later hW
 refine callsIn_of_wp Tryz.func182 rfl trivial ?_ rfl
 simp only [Tryz.ntmps182, List.size_toArray, List.length_cons, List.length_nil, Nat.reduceAdd, Nat.reduceSub, Array.replicate_succ, Array.replicate_zero, List.push_toArray, List.append_toArray, List.nil_append, List.cons_append]
 gi_wp2_with fail
 refine ⟨trivial, (callsIn_wide.2 (find_any st v xs b m _ hSW)).mono ?_⟩
 rintro r w1 ⟨hB, i, hpl, rfl⟩
 have hfr := place_from hpl
 have hi := hpl.1
 have hlim := hS0.2.2.2.2
 have b0 := (hB.cell (p := ⟨bs, 0, none⟩) (by have := hW.size; show bs < _; omega)).trans a0
 have hS1 := hSW.later hB
 have c1 := hS1.c1
 obtain ⟨hJ1, hO1⟩ := hJ _ _ _ h0 (Soft.of_below hB)
 have hsafe : Safe Own F w1 w1 := fun k hk => ⟨fun h => hOF k hk (hO1 k h), rfl⟩
 have hFc1 : ∀ k ∈ F, ∃ o, w1.heap[k]? = some o /\ o.isCells = true := fun k hk => by
  obtain ⟨o, ho, hc⟩ := hFc k hk
  exact ⟨o, ((hB.block k (by have := hFl k hk; have := hW.size; omega)).trans (hW.block k (hFl k hk))).trans ho, hc⟩
 by_cases hil : i < xs.length
 ·obtain ⟨g, cap, hv⟩ : ∃ g cap, v = .slice (some ⟨g, 0, none⟩) xs.length cap := by
   rcases hS1.2.1 with ⟨_, rfl⟩ | ⟨g, cap, sp, rfl, _⟩
   ·simp at hil
   ·exact ⟨g, cap, rfl⟩
  subst hv
  have hx : EntsAt w1 g xs := RowAt.ents (cap := cap) (n := xs.length) hS1.2.1
  have hgF : g ∈ F := by rw [hFv]; simp [Value.ownBlock]
  clear hFv
  have hnc : xs.length <= cap := by
   rcases hS1.2.1 with ⟨h, _⟩ | ⟨g', cap', sp, h, _, _, h2, _⟩
   ·cases h
   ·cases h; exact h2
  have hcm : cap <= 9223372036854775807 := by
   rcases hS1.2.1 with ⟨h, _⟩ | ⟨g', cap', sp, h, _, _, _, h2⟩
   ·cases h
   ·cases h; unfold maxLen at h2; omega
  have hci : ¬ (cap = i) := by omega
  have i0 : (0 : Int) <= (i : Int) := by omega
  have i1 : (i : Int) <= (xs.length : Int) := by omega
  have HY := hide hY
  have HX := hide hx
  have HF := hide hFc1
  have HJ := hide hJ
  have HS := hide hsafe
  clear hY hx hS0 hSW hS1 hpl a0 a1 a2 hFc1 hFc hFl hJ hsafe hO1 hOF
  generalize hN : xs.length = N at *
  have HN := hide hN
  clear hN
  gi_wp2
  gi_loopw [21] (fun c wr => ∃ k : Nat, k <= N - i /\ c = .int .i64 k /\ (∃ ys : List { x : Ent // p x }, ys.map (·.1) = (xs.drop i).take k /\ J ys wr) /\ Hid (Safe Own F w1 wr)) (fun c _ => (N - i) - (intOf c).toNat)
  case atStart => exact ⟨0, Nat.zero_le _, rfl, ⟨[], by simp, hJ1⟩, HS⟩
  case round =>
   obtain ⟨k, hk, rfl, ⟨ys, hys, hJs⟩, hKF⟩ := hrel
   by_cases hlt : k < N - i
   ·obtain ⟨x0, x1, x2⟩ := HX.out (i + k) (by rw [HN.out]; omega)
    have hxm : xs[i + k]?.getD Ent.z ∈ xs := by
     rw [getD_mem (by rw [HN.out]; omega)]
     exact List.getElem_mem _
    have hpx := hp _ hxm
    have htk : (xs.drop i).take (k + 1) = (xs.drop i).take k ++ [xs[i + k]?.getD Ent.z] := by
     rw [List.take_succ_eq_append_getElem (by rw [List.length_drop, HN.out]; omega), getD_mem (by rw [HN.out]; omega), List.getElem_drop]
    have hgb := (hKF.out g hgF).2
    have y0 : wr.cell? ⟨g, i * 3 + k * 3, none⟩ = some (.int .i64 (xs[i + k]?.getD Ent.z).a) := by rw [<- Nat.add_mul]; exact (World.cell?_of_block (a := ⟨g, (i + k) * 3, none⟩) hgb).trans x0
    have y1 : wr.cell? ⟨g, i * 3 + k * 3 + 1, none⟩ = some (.int .i64 (xs[i + k]?.getD Ent.z).l) := by rw [<- Nat.add_mul]; exact (World.cell?_of_block (a := ⟨g, (i + k) * 3 + 1, none⟩) hgb).trans x1
    have y2 : wr.cell? ⟨g, i * 3 + k * 3 + 2, none⟩ = some (.int .i64 (xs[i + k]?.getD Ent.z).n) := by rw [<- Nat.add_mul]; exact (World.cell?_of_block (a := ⟨g, (i + k) * 3 + 2, none⟩) hgb).trans x2
    have hlen : ys.length < N := by have := congrArg List.length hys; rw [List.length_map, List.length_take, List.length_drop, HN.out] at this; omega
    have Htk := hide htk
    have Hys := hide hys
    have Hxm := hide hxm
    clear htk hys hxm x0 x1 x2
    generalize xs[i + k]?.getD Ent.z = y at *
    have hBa : Below wr.heap.size wr (wr.alloc (Obj.cells #[.int .i64 y.a, .int .i64 y.l, .int .i64 y.n] 199)) := (Below.refl _ wr).alloc (Nat.le_refl _) _
    obtain ⟨hJa, hOa⟩ := HJ.out _ _ _ hJs (Soft.of_below hBa)
    have hSa := hide (hKF.out.soft HF.out (Soft.of_below (B := 0) hBa) hOa)
    obtain ⟨fn, tmps, assign, body, hy, hR⟩ := HY.out ys ⟨y, hpx⟩ _ hJa hlen
    clear hJa hOa

    have j0 : (0 : Int) <= (k : Int) := by omega
    have j1 : (k : Int) < ((N - i : Nat) : Int) := by omega
    gi_wp2
    refine hR.mono ?_
    rintro e W3 (⟨rfl, hJ3, hk3, _⟩ | ⟨rfl, hJx3, _⟩)
    ·have hKa := hide (hSa.out.own HF.out hk3)
     clear hR hy hk3 hBa hgb y0 y1 y2 hKF
     gi_wp2
     go_roundw
     case rel => exact ⟨k + 1, by omega, by go_num, ⟨ys ++ [⟨y, hpx⟩], by rw [List.map_append, Hys.out, Htk.out]; rfl, hJ3⟩, hKa⟩
     case measure => simp [intOf]; omega
    ·clear hR hy hBa hgb y0 y1 y2 hKF
     gi_wp2
     refine bodyPost_ret (results_none rfl _ _ _) rfl ?_
     exact ⟨⟨_, rfl⟩, .inr ⟨ys ++ [⟨y, hpx⟩], by rw [hfr, List.map_append, Hys.out]; show List.take k (List.drop i xs) ++ [y] <+: _; rw [<- Htk.out]; exact List.take_prefix _ _, hJx3⟩⟩
   ·obtain rfl : k = N - i := by omega
    have fin : Hid ((∃ ys : List { x : Ent // p x }, ys.map (·.1) = fromE xs b m /\ J ys wr) ∨ (∃ pre : List { x : Ent // p x }, pre.map (·.1) <+: fromE xs b m /\ Jx pre wr)) :=
     .inl ⟨ys, by rw [hys, hfr, List.take_of_length_le (by rw [List.length_drop, HN.out]; omega)], hJs⟩
    clear hys hJs hKF hfr
    gi_wp2
    go_end0
    exact ⟨⟨_, rfl⟩, fin.out⟩
 ·have hnil : fromE xs b m = [] := by rw [hfr]; exact List.drop_eq_nil_iff.2 (by omega)
  have fin : Hid ((∃ ys : List { x : Ent // p x }, ys.map (·.1) = fromE xs b m /\ J ys w1) ∨ (∃ pre : List { x : Ent // p x }, pre.map (·.1) <+: fromE xs b m /\ Jx pre w1)) := .inl ⟨[], hnil.symm, hJ1⟩
  obtain rfl : i = xs.length := by omega
  rcases hS1.2.1 with ⟨rfl, rfl⟩ | ⟨g, cap, sp, rfl, hgg, hl, hnc, hcm⟩
  ·clear hY hJ1 hS0 hSW hS1 hpl hfr hnil a0 a1 a2 hFc1 hFc hFl hJ hsafe hO1 hOF hFv
   gi_wp2
   gi_loopw [21] (fun c wr => c = .int .i64 0 /\ wr = w1) (fun _ _ => 0)
   case atStart => exact ⟨rfl, rfl⟩
   case round =>
    obtain ⟨rfl, rfl⟩ := hrel
    gi_wp2
    go_end0
    exact ⟨⟨_, rfl⟩, fin.out⟩
  ·have i0 : (0 : Int) <= (xs.length : Int) := by omega
   unfold maxLen at hcm
   clear hY hJ1 hS0 hSW hS1 hpl hfr hnil a0 a1 a2 hgg hl hFc1 hFc hFl hJ hsafe hO1 hOF hFv
   gi_wp2
   all_goals
    gi_loopw [21] (fun c wr => c = .int .i64 0 /\ wr = w1) (fun _ _ => 0)
    case atStart => exact ⟨rfl, rfl⟩
    case round =>
     obtain ⟨rfl, rfl⟩ := hrel
     gi_wp2
     go_end0
     exact ⟨⟨_, rfl⟩, fin.out⟩
end Go.Proofs.YtglbamalagacgaaGreat

namespace Go.Proofs.YtglbamalagacgaaGreat
open Go.RowKit Go.Shelf
attribute [local go_sem] Oper.semAt_some
structure MadeSeq (w w' : World) (st : Nat) (b m : Int) : Prop where
 below : Below w.heap.size w w'
 size : w'.heap.size = w.heap.size + 2
 c0 : w'.cell? ⟨w.heap.size, 0, none⟩ = some (ptrV st)
 c1 : w'.cell? ⟨w.heap.size + 1, 0, none⟩ = some (.int .i64 b)
 c2 : w'.cell? ⟨w.heap.size + 1, 1, none⟩ = some (.int .i64 m)
theorem MadeSeq.mk' (w : World) (st : Nat) (b m : Int) (t t' : TypeId) : MadeSeq w ((w.alloc (.cells #[ptrV st] t)).alloc (.cells #[.int .i64 b, .int .i64 m] t')) st b m :=
 ⟨((Below.refl _ w).alloc (Nat.le_refl _) _).alloc (by simp) _, by simp, by simp [go_sem], by simp [go_sem], by simp [go_sem]⟩
set_option maxHeartbeats 400000 in
theorem stoFrom_any (st : Nat) (b m : Int) (w : World) :
  Calls Tryz.prog 179 #[ptrV st, pfxV b m] w fun r w' => MadeSeq w w' st b m /\ r = .returned (.func (.func 182) #[] #[ptrV w.heap.size, ptrV (w.heap.size + 1)]) := by
 go_enter Tryz.func179, Tryz.ntmps179
 go_wp2
 go_ret
 exact ⟨MadeSeq.mk' _ _ _ _ _ _, rfl⟩
set_option maxHeartbeats 400000 in
theorem lstFrom_any (lp : Nat) (b m : Int) (w : World) :
  Calls Tryz.prog 174 #[ptrV lp, pfxV b m] w fun r w' => MadeSeq w w' lp b m /\ r = .returned (.func (.func 178) #[] #[ptrV w.heap.size, ptrV (w.heap.size + 1)]) := by
 go_enter Tryz.func174, Tryz.ntmps174
 go_wp2
 go_ret
 exact ⟨MadeSeq.mk' _ _ _ _ _ _, rfl⟩
theorem merge_round {n l : Nat} {f : FuncId} {tmps : Array Value} {assign body : Code} {w : World} {A B : World -> Prop}
  (h : RoundIn Fence.wide n Tryz.prog l f tmps assign body w fun e W' => (e = .returned (.bool true) /\ A W') ∨ (e = .returned (.bool false) /\ B W')) :
  RoundIn Fence.wide n Tryz.prog l f tmps assign body w fun e W' => ∃ b : Bool, e = .returned (.bool b) /\ Hid ((b = true /\ A W') ∨ (b = false /\ B W')) :=
 h.mono fun e W' h => by
  rcases h with ⟨rfl, h⟩ | ⟨rfl, h⟩
  ·exact ⟨true, rfl, .inl ⟨rfl, h⟩⟩
  ·exact ⟨false, rfl, .inr ⟨rfl, h⟩⟩
theorem RoundIn.inRnd {n n' l : Nat} {f : FuncId} {tmps : Array Value} {assign body : Code} {w : World} {R : Ending -> World -> Prop} (l' : Nat)
  (h : RoundIn Fence.wide n Tryz.prog l f tmps assign body w R) : RoundIn (Fence.wide.inRound l') n' Tryz.prog l f tmps assign body w R := ⟨h.1, fun c cs _ => h.2 c cs (room_wide _)⟩
abbrev encR {p : Ent -> Prop} (x : { x : Ent // p x }) : Array Value := #[rteV x.1.a x.1.l x.1.n]
set_option maxHeartbeats 1000000 in
theorem lstFrom1 (p : Ent -> Prop) (lp bl bk : Nat) (xs : List Ent) (F : List Nat) (b m : Int) (w0 : World) (hL : ListF w0 lp xs F) (hp : ∀ x ∈ xs, p x)
  (hbl : w0.cell? ⟨bl, 0, none⟩ = some (ptrV lp)) (hk0 : w0.cell? ⟨bk, 0, none⟩ = some (.int .i64 b)) (hk1 : w0.cell? ⟨bk, 1, none⟩ = some (.int .i64 m)) :
  SeqF 178 #[ptrV bl, ptrV bk] (encR (p := p)) F (fun ys => ys.map (·.1) = fromE xs b m) (fun pre => pre.map (·.1) <+: fromE xs b m) xs.length w0 := by
 intro l Own J Jx W hW hOF hOl hJ hJx hY h0
 have hFc := hL.cells
 have hFl := hL.lt
 obtain ⟨st, Fs, hlp, hSt, hnF, hFe⟩ := hL
 have lbl := World.block_lt_of_cell? w0 _ hbl
 have lbk := World.block_lt_of_cell? w0 _ hk0
 have llp := (Array.getElem?_eq_some_iff.1 hlp).1
 simp only at lbl lbk
 have hsz := hW.size
 have a0 := (hW.cell (p := ⟨bl, 0, none⟩) lbl).trans hbl
 have a1 := (hW.cell (p := ⟨bk, 0, none⟩) lbk).trans hk0
 have a2 := (hW.cell (p := ⟨bk, 1, none⟩) lbk).trans hk1
 have a3 : W.cell? ⟨lp, 0, none⟩ = some (ptrV st) := (hW.cell (p := ⟨lp, 0, none⟩) llp).trans (by simp [World.cell?, hlp])
 have l1 : bl < W.heap.size := by omega
 have l2 : bk < W.heap.size := by omega
 have l3 : lp < W.heap.size := by omega
 have m1 : bl < W.heap.size + 1 := by omega
 have m2 : bk < W.heap.size + 1 := by omega
 have m3 : lp < W.heap.size + 1 := by omega
 refine callsIn_of_wp_marks Tryz.func178 rfl trivial ?_ rfl
 refine wpIn_wide.2 ?_
 simp only [Tryz.ntmps178, List.size_toArray, List.length_cons, List.length_nil, Nat.reduceAdd, Nat.reduceSub, Array.replicate_succ, Array.replicate_zero, List.push_toArray, List.append_toArray, List.nil_append, List.cons_append]
 have HY := hide hY
 have HJ := hide hJ
 have HJx := hide hJx
 have HO := hide hOF
 have HOl := hide hOl
 clear hY hJ hJx hOF hOl
 go_wp2
 go_region_held3 (fun w' => w'.cell? ⟨bl, 0, none⟩ = some (ptrV lp) /\ w'.cell? ⟨lp, 0, none⟩ = some (ptrV st) /\ w'.cell? ⟨bk, 0, none⟩ = some (.int .i64 b) /\ w'.cell? ⟨bk, 1, none⟩ = some (.int .i64 m)) (go_keep)
  (first
   | (go_at_call 179; refine (stoFrom_any _ _ _ _).mono ?_; rintro _ w2 ⟨hM, rfl⟩; have hc := (bcell hM.below).1))
 have hB2 : Below W.heap.size W w2 := ((Below.refl _ W).alloc (Nat.le_refl _) _).drew.trans (hM.below.mono (by simp))
 obtain ⟨hJ2, hO2⟩ := HJ.out _ _ _ h0 (Soft.of_below hB2)
 have hS2 : StoreF w2 st xs Fs := hSt.kept fun k hk => (hB2.block k (by have := hSt.lt k hk; omega)).trans (hW.block k (hSt.lt k hk))
 have hsub : ∀ k ∈ Fs, k ∈ F := fun k hk => by rw [hFe]; simp [hk]
 have hFc2 : ∀ k ∈ F, ∃ o, w2.heap[k]? = some o /\ o.isCells = true := fun k hk => by
  obtain ⟨o, ho, hc⟩ := hFc k hk
  exact ⟨o, ((hB2.block k (by have := hFl k hk; omega)).trans (hW.block k (hFl k hk))).trans ho, hc⟩
 have hsafe : Safe Own F w2 w2 := fun k hk => ⟨fun h => HO.out k hk (hO2 k h), rfl⟩
 have hyb : w2.cell? ⟨W.heap.size, 0, none⟩ = some (.func (.yield l) #[] #[]) := (hM.below.cell (p := ⟨W.heap.size, 0, none⟩) (by simp)).trans (by simp [go_sem])
 have hyo : ¬ Own w2 W.heap.size := fun h => by have := HOl.out _ _ h0 _ (hO2 _ h); omega
 have c0 := hM.c0
 have c1 := hM.c1
 have c2 := hM.c2
 simp only [World.size_drew, World.size_alloc] at c0 c1 c2
 go_wp2
 refine wpIn_wide.1 (range_law (α := { x : Ent // p x }) (gf := 182) (lb := #[ptrV (W.heap.size + 1), ptrV (W.heap.size + 1 + 1)]) rfl (enters_of Tryz.func182 (by kernel_rfl) rfl)
  (stoFrom1 p st (W.heap.size + 1) (W.heap.size + 1 + 1) xs Fs b m w2 hS2 hp c0 c1 c2) (Below.refl _ _) (fun _ => rfl) Own
  (fun pre W' => J pre W' /\ W'.cell? ⟨W.heap.size, 0, none⟩ = some (.func (.yield l) #[] #[]) /\ ¬ Own W' W.heap.size /\ Safe Own F w2 W')
  (fun c pre W' => c = .ret /\ Jx pre W')
  (fun k hk => (hsafe k (hsub k hk)).1) (fun s A h => HOl.out s A h.1) ?hI ?hIx ⟨hJ2, hyb, hyo, hsafe⟩ ?hround ?hdone ?hstop)
 case hI =>
  rintro s A B ⟨h1, h2, h3, h4⟩ hs
  obtain ⟨h5, h6⟩ := HJ.out s A B h1 (hs.mono hB2.size)
  exact ⟨⟨h5, hs.cell h2, fun h => h3 (h6 _ h), h4.soft hFc2 hs h6⟩, h6⟩
 case hIx =>
  rintro c s A B ⟨h1, h2⟩ hs
  exact ⟨h1, HJx.out s A B h2 (hs.mono hB2.size)⟩
 case hround =>
  rintro l' pre x W3 hl1 hl2 ⟨i1, i2, i3, i4⟩ hlen
  have hBq : Below W3.heap.size W3 (W3.alloc (Obj.cells #[.int .i64 x.1.a, .int .i64 x.1.l] 65)) := (Below.refl _ W3).alloc (Nat.le_refl _) _
  have q0 : (W3.alloc (Obj.cells #[.int .i64 x.1.a, .int .i64 x.1.l] 65)).cell? ⟨W3.heap.size, 0, none⟩ = some (.int .i64 x.1.a) := by simp
  have q1 : (W3.alloc (Obj.cells #[.int .i64 x.1.a, .int .i64 x.1.l] 65)).cell? ⟨W3.heap.size, 1, none⟩ = some (.int .i64 x.1.l) := by simp
  gi_wp2
  refine ⟨Soft.of_below hBq, Firm.of_below hBq, ?_⟩
  intro W4 hs4
  have r0 := hs4.cell q0
  have r1 := hs4.cell q1
  have ry := hs4.cell ((hBq.cell (p := ⟨W.heap.size, 0, none⟩) (World.block_lt_of_cell? W3 _ i2)).trans i2)
  have hs34 : Soft w2.heap.size W3 W4 := (Soft.of_below hBq).trans hs4
  obtain ⟨hJ4, hO4⟩ := HJ.out _ _ _ i1 (hs34.mono hB2.size)
  have hS4 := i4.soft hFc2 hs34 hO4
  have hyo4 : ¬ Own W4 W.heap.size := fun h => i3 (hO4 _ h)
  have hyl := World.block_lt_of_cell? W4 _ ry
  have H1 := hide hS4
  have H2 := hide hyo4
  clear hs4 hs34 q0 q1 hBq i4 i3 i1 i2 hM hsafe hS2 hJ2 hyb hyo c0 c1 c2 a0 a1 a2 a3 hS4 hyo4 hO4
  have hmx : Tryz.prog.follows .mixedOrders = true := by kernel_rfl
  gi_wp2
  gi_region_with_o (first
   | (refine ⟨trivial, ?_⟩; gi_at_call 123; refine (CallsIn.inRound l' (callsIn_wide.2 (route_any _ _ _ _))).mono ?_; rintro e w5 ⟨rfl, hb5⟩; (have hB5 : Below W4.heap.size W4 w5 := (Below.refl _ W4).drew.trans hb5); (obtain ⟨hJ5, hO5⟩ := HJ.out _ _ _ hJ4 (Soft.of_below hB5)); (have ry5 := (hB5.cell (p := ⟨W.heap.size, 0, none⟩) hyl).trans ry); (obtain ⟨fn, tmps, assign, body, hy, hR0⟩ := HY.out pre x w5 hJ5 hlen); (have hR := hide (merge_round hR0)); clear hR0)
   | (refine RoundIn.mono (RoundIn.inRnd l' hR.out) ?_; rintro e W6 ⟨bb, rfl, h6⟩))
  all_goals
   have hO45 : KOwn Own W4 w5 := KOwn.of_soft (B := 0) (Soft.of_below hB5) hO5
   have F45 : Firm w2.heap.size W4 w5 := Firm.of_below hB5
   clear hR hy hJ5 ry5
   rcases h6.out with ⟨rfl, hJ6, hK6, hF6⟩ | ⟨rfl, hJx6, hF6⟩
   ·have hK46 := hO45.trans hK6
    have hy6 : W6.cell? ⟨W.heap.size, 0, none⟩ = some (.func (.yield l) #[] #[]) /\ ¬ Own W6 W.heap.size := by
     obtain ⟨o, ho, hoc⟩ : ∃ o, W4.heap[W.heap.size]? = some o /\ o.isCells = true := by
      unfold World.cell? at ry
      cases h : W4.heap[W.heap.size]? with
      | none => rw [h] at ry; cases ry
      | some o =>
       rw [h] at ry
       cases o with
       | cells c t f => exact ⟨_, rfl, rfl⟩
       | _ => cases ry
     obtain ⟨h7, h8⟩ := hK46.2 _ _ ho hoc H2.out
     exact ⟨(World.cell?_of_block (w := W4) (a := ⟨W.heap.size, 0, none⟩) (h7.trans ho.symm)).trans ry, h8⟩
    have fin := hide (show Firm w2.heap.size W4 W6 /\ KOwn Own W4 W6 /\ J (pre ++ [x]) W6 /\ W6.cell? ⟨W.heap.size, 0, none⟩ = some (.func (.yield l) #[] #[]) /\ ¬ Own W6 W.heap.size /\ Safe Own F w2 W6 from
     ⟨F45.trans (hF6.mono hB2.size), hK46, hJ6, hy6.1, hy6.2, H1.out.own hFc2 hK46⟩)
    clear hK46 hy6 hJ6 hK6 hF6 hO45 F45 h6 hO5 hB5 hb5 ry r0 r1 hJ4
    gi_wp2
    exact fin.out
   ·have fin := hide (show Firm w2.heap.size W4 W6 /\ Jx (pre ++ [x]) W6 from ⟨F45.trans (hF6.mono hB2.size), hJx6⟩)
    clear hJx6 hF6 hO45 F45 h6 hO5 hB5 hb5 ry r0 r1 hJ4
    gi_wp2
    exact ⟨fin.out.1, rfl, fin.out.2⟩
 case hdone =>
  rintro D ys W3 hD hS3 ⟨i1, _⟩ hK
  have hJD := hide (HJ.out _ _ _ i1 (Soft.putObj (.deferred none) hK (by have := hB2.size; omega) rfl)).1
  gi_wp2
  refine ⟨by simp, .inl ⟨_, _, rfl, run_takeDeferred hK, ?_⟩⟩
  exact ⟨_, results_none rfl _ _ _, ⟨_, rfl⟩, .inl ⟨ys, hS3, hJD.out⟩⟩
 case hstop =>
  rintro D c pre W3 hD hS3 ⟨rfl, i1⟩ hK
  have hJD := hide (HJx.out _ _ _ i1 (Soft.putObj (.deferred none) hK (by have := hB2.size; omega) rfl))
  gi_wp2
  refine ⟨by simp, .inl ⟨_, _, rfl, run_takeDeferred hK, ?_⟩⟩
  exact ⟨_, results_none rfl _ _ _, ⟨_, rfl⟩, .inr ⟨pre, hS3, hJD.out⟩⟩
end Go.Proofs.YtglbamalagacgaaGreat
