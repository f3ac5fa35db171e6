import Derived.Test.YtkihifodifkieaaRgs
namespace Go.Proofs.Ytkihifodifkieaa
open Go.RowKit

def RangesF (w : World) (p : Nat) (xs : List Ent) (F : List Nat) : Prop := ∃ lp sp F1 F2, RgW w p lp sp xs (strL xs) F1 F2 ∧ F = p :: (F1 ++ F2)
theorem RangesF.lt {w : World} {p : Nat} {xs : List Ent} {F : List Nat} (h : RangesF w p xs F) : ∀ k ∈ F, k < w.heap.size := by
  obtain ⟨lp, sp, F1, F2, h, rfl⟩ := h
  intro k hk
  rcases List.mem_cons.1 hk with rfl | hk
  · exact h.lt
  · rcases List.mem_append.1 hk with hk | hk
    · exact h.lst.lt k hk
    · exact h.str.lt k hk
theorem RangesF.cells {w : World} {p : Nat} {xs : List Ent} {F : List Nat} (h : RangesF w p xs F) : ∀ k ∈ F, ∃ o, w.heap[k]? = some o ∧ o.isCells = true := by
  obtain ⟨lp, sp, F1, F2, h, rfl⟩ := h
  intro k hk
  rcases List.mem_cons.1 hk with rfl | hk
  · exact ⟨_, h.blk, rfl⟩
  · rcases List.mem_append.1 hk with hk | hk
    · exact h.lst.cells k hk
    · exact h.str.cells k hk
theorem RangesF.kept {w w' : World} {p : Nat} {xs : List Ent} {F : List Nat} (h : RangesF w p xs F) (hk : ∀ k ∈ F, w'.heap[k]? = w.heap[k]?) : RangesF w' p xs F := by
  obtain ⟨lp, sp, F1, F2, h, rfl⟩ := h
  exact ⟨lp, sp, F1, F2, ⟨(hk p (by simp)).trans h.blk, h.lst.kept fun k h1 => hk k (by simp [h1]), h.str.kept fun k h1 => hk k (by simp [h1]), h.d1, h.d2, h.d3⟩, rfl⟩
theorem RangesF.later {w w' : World} {p : Nat} {xs : List Ent} {F : List Nat} (h : RangesF w p xs F) (hB : Below w.heap.size w w') : RangesF w' p xs F := h.kept fun k hk => hB.block k (h.lt k hk)
theorem RangesF.sorted {w : World} {p : Nat} {xs : List Ent} {F : List Nat} (h : RangesF w p xs F) : Sorted xs := by
  obtain ⟨lp, sp, F1, F2, h, rfl⟩ := h
  exact h.lst.sorted

theorem strL_sorted (xs : List Ent) : R.Sorted (strL xs) := strN_sorted xs 256
theorem strL_out (xs : List Ent) : ∀ k, k < 0 ∨ 256 ≤ k → R.getR (strL xs) k = none := fun k hk => by
  rw [strL_get]
  rcases hk with hk | hk
  · exact strR_neg xs hk
  · exact strR_big xs hk

-- the list has turned, then the stretches
theorem RangesF.turned {w w1 w2 : World} {p lp sp : Nat} {xs xs' : List Ent} {F1 F1' F2 F2' : List Nat} {ys : List R.Ent} {a l : Int} (h : RgW w p lp sp xs (strL xs) F1 F2) (hN1 : NewF w F1 F1') (hO1 : Only F1 w w1)
    (hoff : ∀ b m, ¬ (b = a ∧ m = l) → getE xs' b m = getE xs b m) (hl0 : 0 ≤ l) (h2 : RgW w2 p lp sp xs' ys F1' F2') (hN2 : NewF w1 F2 F2') (hO2 : Only F2 w1 w2)
    (hg : ∀ k, R.getR ys k = if k ≤ a + wid l then strR xs' k else R.getR (strL xs) k) :
    (∃ F', RangesF w2 p xs' F' ∧ NewF w (p :: (F1 ++ F2)) F') ∧ Only (p :: (F1 ++ F2)) w w2 := by
  have hys : ys = strL xs' := strL_eq h2.str.sorted fun k => by
    rw [hg]
    split
    · rfl
    · rw [strL_get, strR_off (a := a) (l := l) hoff hl0 (by omega)]
  rw [hys] at h2
  refine ⟨⟨_, ⟨lp, sp, F1', F2', h2, rfl⟩, fun k hk => ?_⟩, ?_⟩
  · rcases List.mem_cons.1 hk with rfl | hk
    · simp
    · rcases List.mem_append.1 hk with hk | hk
      · rcases hN1 k hk with h3 | h3
        · simp [h3]
        · exact .inr h3
      · rcases hN2 k hk with h3 | h3
        · simp [h3]
        · exact .inr (by have := hO1.size; omega)
  · exact (hO1.mono (G := p :: (F1 ++ F2)) (fun x hx _ => by simp [hx])).trans hO2 (fun x hx => .inl (by simp [hx]))

-- the list has turned
theorem RgW.list {w w1 : World} {p lp sp : Nat} {xs xs' : List Ent} {F1 F1' F2 : List Nat} {ys : List R.Ent} (h : RgW w p lp sp xs ys F1 F2) (hL : ListF w1 lp xs' F1') (hN : NewF w F1 F1') (hO : Only F1 w w1) : RgW w1 p lp sp xs' ys F1' F2 := by
  have hs := h.str.lt
  refine ⟨(hO.block p h.lt h.d1).trans h.blk, hL, h.str.kept fun k hk => hO.block k (hs k hk) (fun h1 => h.d3 k h1 hk), fun hk => ?_, h.d2, fun k hk hk' => ?_⟩
  · rcases hN p hk with h1 | h1
    · exact h.d1 h1
    · have := h.lt; omega
  · rcases hN k hk with h1 | h1
    · exact h.d3 k h1 hk'
    · have := hs k hk'; omega

theorem put_off {xs : List Ent} {a l n : Int} (hs : Sorted xs) : ∀ b m, ¬ (b = a ∧ m = l) → getE (putE xs a l n) b m = getE xs b m := fun b m h => by
  rw [getE_put hs, if_neg (by omega)]
theorem del_off {xs : List Ent} {a l : Int} (hs : Sorted xs) : ∀ b m, ¬ (b = a ∧ m = l) → getE (delE xs a l) b m = getE xs b m := fun b m h => by
  rw [getE_del hs, if_neg (by omega)]

theorem getE_in {xs : List Ent} {a l n : Int} (h : getE xs a l = some n) : (⟨a, l, n⟩ : Ent) ∈ xs := by
  induction xs with
  | nil => cases h
  | cons x xs ih =>
    rw [getE] at h
    split at h
    · rename_i he
      cases x
      simp only at he h
      cases h
      simp [he.1, he.2]
    · simp [ih h]

set_option maxHeartbeats 400000 in
theorem rgsLay_any (p : Nat) (xs : List Ent) (F : List Nat) (a l n : Int) (w : World) (hR : RangesF w p xs F) (hk : ∀ x ∈ xs, okE x) (hp : isPfx a l = true) :
    Calls Try.prog 113 #[ptrV p, rteV a l n] w fun r w' => (∃ F', RangesF w' p (putE xs a l n) F' ∧ NewF w F F') ∧ Only F w w' ∧ r = .returned (.int .i64 (orZ (getE xs a l))) := by
  have hs := hR.sorted
  obtain ⟨lp, sp, F1, F2, h, rfl⟩ := hR
  have hB1 : Below w.heap.size w (w.alloc (.cells #[.int .i64 a, .int .i64 l, .int .i64 n] 90)).drew := ((Below.refl _ w).alloc (Nat.le_refl _) _).drew
  have h1 := h.later hB1
  have c0 : w.cell? ⟨p, 0, none⟩ = some (ptrV lp) := by simp [World.cell?, h.blk]
  have hpl := h.lt
  have hpl1 : p < w.heap.size + 1 := by omega
  have hwF : w.heap.size ∉ F1 := fun hh => by have := h.lst.lt _ hh; omega
  have hpF := h.d1
  have hly := hide (lstLay_any lp xs F1 a l n _ h1.lst hk)
  have H := hide h
  have H1 := hide h1
  obtain ⟨l0, _⟩ := (isPfx_iff a l).1 hp
  clear h h1
  go_enter Try.func113, Try.ntmps113
  go_wp2
  go_region_held3 (fun w' => w'.cell? ⟨p, 0, none⟩ = some (ptrV lp) ∧ w'.cell? ⟨w.heap.size, 0, none⟩ = some (.int .i64 a) ∧ w'.cell? ⟨w.heap.size, 1, none⟩ = some (.int .i64 l) ∧ w'.cell? ⟨w.heap.size, 2, none⟩ = some (.int .i64 n)) (go_keep)
    (first
      | (go_at_call 89; refine hly.out.mono ?_; rintro _ w2 ⟨hF2, hO2, rfl⟩; (have hc1 : ∀ o, w2.cell? ⟨p, o, none⟩ = (w.alloc (.cells #[.int .i64 a, .int .i64 l, .int .i64 n] 90)).drew.cell? ⟨p, o, none⟩ := fun o => hO2.cell (by simp; omega) hpF); (have hc2 : ∀ o, w2.cell? ⟨w.heap.size, o, none⟩ = (w.alloc (.cells #[.int .i64 a, .int .i64 l, .int .i64 n] 90)).drew.cell? ⟨w.heap.size, o, none⟩ := fun o => hO2.cell (by simp) hwF)))
  obtain ⟨F1', h21, h22⟩ := hF2
  have k0 : w2.cell? ⟨w.heap.size, 0, none⟩ = some (.int .i64 a) := (hc2 0).trans (by simp [go_sem])
  have k1 : w2.cell? ⟨w.heap.size, 1, none⟩ = some (.int .i64 l) := (hc2 1).trans (by simp [go_sem])
  have k2 : w2.cell? ⟨w.heap.size, 2, none⟩ = some (.int .i64 n) := (hc2 2).trans (by simp [go_sem])
  have hR2 := H1.out.list h21 h22 hO2
  have hN1 : NewF w F1 F1' := fun k hk => (h22 k hk).imp id (fun h => by have := hB1.size; omega)
  have hO1 : Only F1 w w2 := (Only.of_below _ hB1).trans hO2 (fun x hx => .inl hx)
  have HR2 := hide hR2
  have HN1 := hide hN1
  have HO1 := hide hO1
  clear hc1 hc2 h21 h22 hO2 hR2 hN1 hO1 hly H1 hB1
  have hof := hide (of_any a l n w2)
  go_wp2_with fail
  refine hof.out.mono ?_
  rintro _ w3 ⟨rfl, hB3⟩
  have hR3 := HR2.out.later hB3
  have hoff := put_off (a := a) (l := l) (n := n) hs
  have hrd := hide (redraw_any p lp sp (putE xs a l n) (strL xs) F1' F2 a l w3 hR3 hp (fun k hk => by rw [strL_get, strR_off hoff l0 (.inl hk)]) (strL_out xs))
  clear k0 k1 k2 hof hR3
  go_wp2_with fail
  refine hrd.out.mono ?_
  rintro _ w4 ⟨⟨x, rfl⟩, ys, F2', h41, h42, h43, h44⟩
  have fin := hide (RangesF.turned H.out HN1.out (HO1.out.trans (Only.of_below [] hB3) (by simp)) hoff l0 h41 h42 h43 h44)
  clear h41 h42 h43 h44 hrd hB3 hoff
  go_wp2
  go_ret
  exact ⟨fin.out.1, fin.out.2, rfl⟩

set_option maxHeartbeats 400000 in
theorem rgsTake_any (p : Nat) (xs : List Ent) (F : List Nat) (a l : Int) (w : World) (hR : RangesF w p xs F) (hp : isPfx a l = true) :
    Calls Try.prog 114 #[ptrV p, pfxV a l] w fun r w' => (∃ F', RangesF w' p (delE xs a l) F' ∧ NewF w F F') ∧ Only F w w' ∧ r = .returned (.int .i64 (orZ (getE xs a l))) := by
  have hs := hR.sorted
  obtain ⟨lp, sp, F1, F2, h, rfl⟩ := hR
  have hB1 : Below w.heap.size w (w.alloc (.cells #[.int .i64 a, .int .i64 l] 54)).drew := ((Below.refl _ w).alloc (Nat.le_refl _) _).drew
  have h1 := h.later hB1
  have c0 : w.cell? ⟨p, 0, none⟩ = some (ptrV lp) := by simp [World.cell?, h.blk]
  have hpl := h.lt
  have hpl1 : p < w.heap.size + 1 := by omega
  have hwF : w.heap.size ∉ F1 := fun hh => by have := h.lst.lt _ hh; omega
  have hpF := h.d1
  have hly := hide (lstTake_any lp xs F1 a l _ h1.lst)
  have H := hide h
  have H1 := hide h1
  obtain ⟨l0, _⟩ := (isPfx_iff a l).1 hp
  clear h h1
  go_enter Try.func114, Try.ntmps114
  go_wp2
  go_region_held3 (fun w' => w'.cell? ⟨p, 0, none⟩ = some (ptrV lp) ∧ w'.cell? ⟨w.heap.size, 0, none⟩ = some (.int .i64 a) ∧ w'.cell? ⟨w.heap.size, 1, none⟩ = some (.int .i64 l)) (go_keep)
    (first
      | (go_at_call 90; refine hly.out.mono ?_; rintro _ w2 ⟨hF2, hO2, rfl⟩; (have hc1 : ∀ o, w2.cell? ⟨p, o, none⟩ = (w.alloc (.cells #[.int .i64 a, .int .i64 l] 54)).drew.cell? ⟨p, o, none⟩ := fun o => hO2.cell (by simp; omega) hpF); (have hc2 : ∀ o, w2.cell? ⟨w.heap.size, o, none⟩ = (w.alloc (.cells #[.int .i64 a, .int .i64 l] 54)).drew.cell? ⟨w.heap.size, o, none⟩ := fun o => hO2.cell (by simp) hwF)))
  obtain ⟨F1', h21, h22⟩ := hF2
  have k0 : w2.cell? ⟨w.heap.size, 0, none⟩ = some (.int .i64 a) := (hc2 0).trans (by simp [go_sem])
  have k1 : w2.cell? ⟨w.heap.size, 1, none⟩ = some (.int .i64 l) := (hc2 1).trans (by simp [go_sem])
  have hR2 := H1.out.list h21 h22 hO2
  have hN1 : NewF w F1 F1' := fun k hk => (h22 k hk).imp id (fun h => by have := hB1.size; omega)
  have hO1 : Only F1 w w2 := (Only.of_below _ hB1).trans hO2 (fun x hx => .inl hx)
  have hoff := del_off (a := a) (l := l) hs
  have hrd := hide (redraw_any p lp sp (delE xs a l) (strL xs) F1' F2 a l w2 hR2 hp (fun k hk => by rw [strL_get, strR_off hoff l0 (.inl hk)]) (strL_out xs))
  have HN1 := hide hN1
  have HO1 := hide hO1
  clear hc1 hc2 h21 h22 hO2 hR2 hN1 hO1 hly H1 hB1
  go_wp2_with fail
  refine hrd.out.mono ?_
  rintro _ w4 ⟨⟨x, rfl⟩, ys, F2', h41, h42, h43, h44⟩
  have fin := hide (RangesF.turned H.out HN1.out HO1.out hoff l0 h41 h42 h43 h44)
  clear h41 h42 h43 h44 hrd hoff
  go_wp2
  go_ret
  exact ⟨fin.out.1, fin.out.2, rfl⟩

set_option maxHeartbeats 400000 in
theorem rgsCells_any (p : Nat) (xs : List Ent) (F : List Nat) (w : World) (hR : RangesF w p xs F) (hk : ∀ x ∈ xs, okE x) :
    Calls Try.prog 111 #[ptrV p] w fun r w' => Below w.heap.size w w' ∧ r = .returned (.int .i64 ((xs.length : Int) + ((strL xs).length : Int))) := by
  have hlen := ok_len hR.sorted hk
  have hlen2 := strN_len xs 256
  have hlen3 : (strL xs).length ≤ 256 := hlen2
  obtain ⟨lp, sp, F1, F2, h, rfl⟩ := hR
  have c0 : w.cell? ⟨p, 0, none⟩ = some (ptrV lp) := by simp [World.cell?, h.blk]
  have c1 : w.cell? ⟨p, 1, none⟩ = some (ptrV sp) := by simp [World.cell?, h.blk]
  have hpl := h.lt
  have hBd : Below w.heap.size w w.drew := (Below.refl _ w).drew
  have h1 := h.later hBd
  have hcl := hide (lstCells_any lp xs F1 w.drew h1.lst)
  have hln := hide (R.len_F sp (strL xs) F2 w.drew h1.str)
  clear h h1 hlen2
  generalize (strL xs).length = n2 at *
  generalize xs.length = n1 at *
  have hww : IntKind.i64.wrap ((n1 : Int) + (n2 : Int)) = (n1 : Int) + (n2 : Int) := by rw [IntKind.wrap_i64]; omega
  go_enter Try.func111, Try.ntmps111
  go_wp2
  go_region_held3 (fun w' => w' = w.drew) (go_keep)
    (first
      | (go_at_call 87; refine hcl.out.mono ?_; rintro _ w2 ⟨rfl, rfl⟩)
      | (go_at_call 115; refine hln.out.mono ?_; rintro _ w2 ⟨rfl, rfl⟩))
  go_wp2
  go_ret
  exact ⟨(by repeat (first | exact Below.refl _ _ | refine below_drewN ?_ _ | refine Below.drew ?_ | refine Below.trans ?_ (Below.mono (by assumption) (by first | omega | (simp; omega) | simp)) | refine Below.alloc ?_ (by first | omega | (simp; omega) | simp) _ | refine Below.setCell ?_ (by first | omega | (simp; omega) | simp) _)), rfl⟩

set_option maxHeartbeats 400000 in
theorem newRStore_any (w : World) :
    Calls Try.prog 37 #[R.cmpIV] w fun r w' => w' = w.alloc (.cells #[R.cmpIV, .slice none 0 0] 106) ∧ r = .returned (ptrV w.heap.size) := by
  go_enter Try.func37, Try.ntmps37
  go_wp2
  go_ret
  exact ⟨rfl, rfl⟩

set_option maxHeartbeats 400000 in
theorem newRanges_any (w : World) :
    Calls Try.prog 27 #[] w fun r w' => Below w.heap.size w w' ∧ ∃ p F, RangesF w' p [] F ∧ (∀ k ∈ F, w.heap.size ≤ k) ∧ r = .returned (ptrV p) := by
  have hnl := hide (newList_any w)
  go_enter Try.func27, Try.ntmps27
  go_wp2_with fail
  refine hnl.out.mono ?_
  rintro _ w1 ⟨hB1, lp, F1, hL1, hF1, rfl⟩
  have hns := hide (newRStore_any w1)
  go_wp2_with fail
  refine hns.out.mono ?_
  rintro _ w2 ⟨rfl, rfl⟩
  have hB2 : Below w1.heap.size w1 (w1.alloc (.cells #[R.cmpIV, .slice none 0 0] 106)) := (Below.refl _ w1).alloc (Nat.le_refl _) _
  have hB3 : Below w1.heap.size w1 ((w1.alloc (.cells #[R.cmpIV, .slice none 0 0] 106)).alloc (.cells #[ptrV lp, ptrV w1.heap.size] 92)) := hB2.alloc (by simp) _
  have hfs := hide (first_any ((w1.alloc (.cells #[R.cmpIV, .slice none 0 0] 106)).alloc (.cells #[ptrV lp, ptrV w1.heap.size] 92)))
  have hR3 : RgW ((w1.alloc (.cells #[R.cmpIV, .slice none 0 0] 106)).alloc (.cells #[ptrV lp, ptrV w1.heap.size] 92)) (w1.heap.size + 1) lp w1.heap.size [] [] F1 [w1.heap.size] := by
    refine ⟨?_, hL1.later hB3, ⟨.slice none 0 0, ⟨?_, .inl ⟨rfl, rfl⟩, by simp [Value.ownBlock], List.Pairwise.nil, by simp⟩, rfl⟩, ?_, by simp, ?_⟩
    · have := World.alloc_heap_new (w1.alloc (.cells #[R.cmpIV, .slice none 0 0] 106)) (.cells #[ptrV lp, ptrV w1.heap.size] 92)
      rwa [World.size_alloc] at this
    · exact (Below.heap_alloc _ _ _ (by simp)).trans (World.alloc_heap_new w1 _)
    · intro hh; have := hL1.lt _ hh; omega
    · intro k hk hk'; simp at hk'; have := hL1.lt k hk; omega
  have hlt := hL1.lt
  clear hnl hns
  go_wp2_with fail
  refine hfs.out.mono ?_
  rintro _ w4 ⟨rfl, hB4⟩
  have hR4 := hR3.later hB4
  have hrd := hide (redraw_any (w1.heap.size + 1) lp w1.heap.size [] [] F1 [w1.heap.size] 0 0 w4 hR4 (by simp [isPfx]) (fun k hk => by rw [strR_neg [] hk]; rfl) (fun k _ => rfl))
  have hB5 : Below w1.heap.size w1 w4 := hB3.trans (hB4.mono hB3.size)
  clear hR3 hR4 hfs hB4 hB3 hB2
  go_wp2_with fail
  refine hrd.out.mono ?_
  rintro _ w6 ⟨⟨x, rfl⟩, ys, F2', h61, h62, h63, h64⟩
  have hys : ys = strL [] := strL_eq h61.str.sorted fun k => by
    rw [h64]
    split
    · rfl
    · rename_i hk
      have : ¬ k ≤ 256 := hk
      rw [strR_big [] (by omega)]; rfl
  rw [hys] at h61
  have fin := hide (show Below w.heap.size w w6 ∧ ∃ p F, RangesF w6 p [] F ∧ (∀ k ∈ F, w.heap.size ≤ k) ∧ Ending.returned (ptrV (w1.heap.size + 1)) = .returned (ptrV p) from by
    have hs1 := hB1.size
    have hs5 := hB5.size
    refine ⟨?_, w1.heap.size + 1, _, ⟨lp, w1.heap.size, F1, F2', h61, rfl⟩, ?_, rfl⟩
    · have hB6 : Below w.heap.size w w4 := hB1.trans (hB5.mono hs1)
      have hO := (Only.of_below [] hB6)
      refine ⟨h63.os.trans hB6.os, h63.tape.trans hB6.tape, h63.output.trans hB6.output, Nat.le_trans hB6.size h63.size, fun k hk => (h63.block k (by have := hB6.size; omega) (by simp; omega)).trans (hB6.block k hk)⟩
    · intro k hk
      rcases List.mem_cons.1 hk with rfl | hk
      · omega
      · rcases List.mem_append.1 hk with hk | hk
        · exact hF1 k hk
        · rcases h62 k hk with h1 | h1
          · simp at h1; omega
          · omega)
  clear h61 h62 h63 h64 hrd hB5 hys hL1 hF1 hB1 hlt
  go_wp2
  go_ret
  exact fin.out

end Go.Proofs.Ytkihifodifkieaa
