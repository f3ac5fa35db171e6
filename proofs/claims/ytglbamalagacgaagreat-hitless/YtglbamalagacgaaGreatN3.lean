import Derived.Test.YtglbamalagacgaaGreatL3
import Derived.Test.YtglbamalagacgaaGreatN2
namespace Go.Proofs.YtglbamalagacgaaGreat
open Go.RowKit Go.Shelf

attribute [local go_sem] Oper.semAt_some

def TS.fresh (cf : Cfg) : TS := ⟨[], cf.e, cf.b, cf.c, cf.l, none, 0, 0⟩
def OpenTS (cf : Cfg) (w : World) (r : Ending) (w' : World) : Prop :=
  ∃ bk t A, r = .returned (.tuple #[ptrV bk, .bool true]) ∧ w'.cell? ⟨bk, 4, none⟩ = some (ptrV t) ∧ TT w' t (TS.fresh cf) A ∧ Below w.heap.size w w' ∧ w.heap.size ≤ bk ∧ (∀ k ∈ A, w.heap.size ≤ k) ∧ bk ∉ A
theorem new_ts (w : World) (cf : Cfg) (h : isCfg cf) : Calls Tryz.prog 31 #[cfgV cf] w fun r w' => ∃ t A, r = .returned (.tuple #[ptrV t, .int .i64 0]) ∧ Below w.heap.size w w' ∧ TT w' t (TS.fresh cf) A ∧ ∀ k ∈ A, w.heap.size ≤ k :=
  (new_yes w cf h).mono (by
    rintro r w' ⟨t, e, F, h1, h2, h3, h4, h5⟩
    obtain ⟨d1, d2, d3, d4, d5, d6, d7, d8⟩ := h
    exact ⟨t, t :: (F ++ []), h1, h2, ⟨⟨List.Pairwise.nil, by simp [TS.fresh], d1, d2, d3, d4, d5, d6, d7, d8, fun m hm => by cases hm⟩, e, .pointer none, F, [], h3, rfl⟩, fun k hk => by
      simp only [List.mem_cons, List.mem_append, List.not_mem_nil, or_false] at hk
      rcases hk with rfl | hk
      · exact h4
      · exact h5 k hk⟩)

set_option maxHeartbeats 1000000 in
theorem opened_ts (cf : Cfg) (w : World) (h : isCfg cf) : Calls Tryz.prog 13 #[cfgV cf] w (OpenTS cf w) := by
  have hB1 : Below w.heap.size w (w.alloc (.cells #[.int .i64 cf.e, .int .i64 cf.b, .int .i64 cf.c, .int .i64 cf.l] 23)) := (Below.refl _ w).alloc (Nat.le_refl _) _
  have HB1 := hide hB1
  have hcall := hide (new_ts (w.alloc (.cells #[.int .i64 cf.e, .int .i64 cf.b, .int .i64 cf.c, .int .i64 cf.l] 23)) cf h)
  obtain ⟨M, hM, hM0, hmk⟩ := makeRow
  obtain ⟨e, b, ch, lg⟩ := cf
  obtain ⟨d1, d2, d3, d4, d5, d6, d7, d8⟩ := h
  simp only at d1 d2 d3 d4 d5 d6 d7 d8
  clear hB1
  go_enter Tryz.func13, Tryz.ntmps13
  go_wp2_with fail
  refine hcall.out.mono ?_
  rintro _ w2 ⟨t, F, rfl, hb2, hT, hF⟩
  have c0 : w2.cell? ⟨w.heap.size, 0, none⟩ = some (.int .i64 e) := (hb2.cell (p := ⟨w.heap.size, 0, none⟩) (by simp)).trans (by simp)
  have c1 : w2.cell? ⟨w.heap.size, 1, none⟩ = some (.int .i64 b) := (hb2.cell (p := ⟨w.heap.size, 1, none⟩) (by simp)).trans (by simp)
  have c2 : w2.cell? ⟨w.heap.size, 2, none⟩ = some (.int .i64 ch) := (hb2.cell (p := ⟨w.heap.size, 2, none⟩) (by simp)).trans (by simp)
  have c3 : w2.cell? ⟨w.heap.size, 3, none⟩ = some (.int .i64 lg) := (hb2.cell (p := ⟨w.heap.size, 3, none⟩) (by simp)).trans (by simp)
  have hsz : w.heap.size < w2.heap.size := by have := hb2.size; simp at this; omega
  have fin := hide (HB1.out.trans (hb2.mono HB1.out.size))
  clear hb2 hcall
  go_wp2
  have fin2 := hide (show OpenTS ⟨e, b, ch, lg⟩ w (.returned (.tuple #[ptrV (w2.heap.size + 1), .bool true])) ((w2.alloc (.cells M 3)).alloc (.cells #[.int .i64 e, .int .i64 b, .int .i64 ch, .int .i64 lg, ptrV t, .slice (some ⟨w2.heap.size, 0, none⟩) 2304 2304] 43)).drew from by
    have hB2 : Below w2.heap.size w2 ((w2.alloc (.cells M 3)).alloc (.cells #[.int .i64 e, .int .i64 b, .int .i64 ch, .int .i64 lg, ptrV t, .slice (some ⟨w2.heap.size, 0, none⟩) 2304 2304] 43)).drew := (((Below.refl _ w2).alloc (Nat.le_refl _) _).alloc (by simp) _).drew
    have hl := hT.lt
    have hws := fin.out.size
    refine ⟨w2.heap.size + 1, t, F, rfl, ?_, hT.later hB2, fin.out.trans (hB2.mono hws), by omega, fun k hk => by have := hF k hk; simp at this; omega, fun h => by have := hl _ h; omega⟩
    have := World.alloc_heap_new (w2.alloc (.cells M 3)) (.cells #[.int .i64 e, .int .i64 b, .int .i64 ch, .int .i64 lg, ptrV t, .slice (some ⟨w2.heap.size, 0, none⟩) 2304 2304] 43)
    rw [World.size_alloc] at this
    have h2 : ((w2.alloc (.cells M 3)).alloc (.cells #[.int .i64 e, .int .i64 b, .int .i64 ch, .int .i64 lg, ptrV t, .slice (some ⟨w2.heap.size, 0, none⟩) 2304 2304] 43)).drew.heap[w2.heap.size + 1]? = _ := this
    simp only [World.cell?, h2]
    rfl)
  clear hT hF hM hM0
  go_region
  go_wp2
  go_ret2
  exact fin2.out

theorem ChgsAt.away {w1 : World} {v : Value} {cs : List Chg} {A : List Nat} (hv : ChgsAt w1 v cs) (h : ∀ k ∈ A, w1.heap.size ≤ k) : Apart v A := by
  intro B n cap he hn hF
  obtain ⟨a, cap', h1, h2, h3⟩ := hv
  rw [he] at h1
  cases h1
  obtain ⟨A', h4, h5, _⟩ := h3 0 cs[0] (List.getElem?_eq_getElem hn)
  cases h4
  have := h _ hF
  omega
-- THE TWO TABLES BETWEEN TWO STEPS; w1: the world that they began in
structure Duo (w1 w : World) (b1 b2 t1 t2 : Nat) (s d : TS) (A1 A2 : List Nat) : Prop where
  P : Pair w t1 t2 s d A1 A2
  S : Same s d
  k1 : w.cell? ⟨b1, 4, none⟩ = some (ptrV t1)
  k2 : w.cell? ⟨b2, 4, none⟩ = some (ptrV t2)
  n1 : b1 ∉ A1 ++ A2
  n2 : b2 ∉ A1 ++ A2
  below : Below w1.heap.size w1 w
  b3 : ∀ k ∈ A1 ++ A2, w1.heap.size ≤ k
section
variable {w1 w w' : World} {b1 b2 t1 t2 : Nat} {s d s' d' : TS} {A1 A2 A1' A2' : List Nat}
theorem Duo.lt (h : Duo w1 w b1 b2 t1 t2 s d A1 A2) : b1 < w.heap.size ∧ b2 < w.heap.size := ⟨World.block_lt_of_cell? w _ h.k1, World.block_lt_of_cell? w _ h.k2⟩
theorem Duo.later (h : Duo w1 w b1 b2 t1 t2 s d A1 A2) (hB : Below w.heap.size w w') : Duo w1 w' b1 b2 t1 t2 s d A1 A2 :=
  ⟨h.P.later hB, h.S, (hB.cell (p := ⟨b1, 4, none⟩) h.lt.1).trans h.k1, (hB.cell (p := ⟨b2, 4, none⟩) h.lt.2).trans h.k2, h.n1, h.n2, h.below.trans (hB.mono h.below.size), h.b3⟩
theorem Duo.turn (h : Duo w1 w b1 b2 t1 t2 s d A1 A2) (hP : Pair w' t1 t2 s' d' A1' A2') (hS : Same s' d') (n1 : NewF w A1 A1') (n2 : NewF w A2 A2') (hO : Only (A1 ++ A2) w w') : Duo w1 w' b1 b2 t1 t2 s' d' A1' A2' := by
  have hn : ∀ k ∈ A1' ++ A2', k ∈ A1 ++ A2 ∨ w.heap.size ≤ k := fun k hk => by
    rcases List.mem_append.1 hk with h1 | h1
    · exact (n1 k h1).imp (fun h => List.mem_append.2 (.inl h)) id
    · exact (n2 k h1).imp (fun h => List.mem_append.2 (.inr h)) id
  have hl := h.lt
  have hz := h.below.size
  refine ⟨hP, hS, (hO.cell hl.1 h.n1).trans h.k1, (hO.cell hl.2 h.n2).trans h.k2, fun hm => (hn _ hm).elim h.n1 fun h1 => by omega, fun hm => (hn _ hm).elim h.n2 fun h1 => by omega, below_only h.below hO h.b3 (Nat.le_refl _), fun k hk => (hn k hk).elim (h.b3 k) fun h1 => by omega⟩
theorem Duo.fst {v : Value} {r : Ending} (h : Duo w1 w b1 b2 t1 t2 s d A1 A2) (hp : TurnP w t1 A1 v s' r w') (hx : s'.xs = s.xs) (hb : s'.b = s.b) : r = .returned v ∧ ∃ A1', Duo w1 w' b1 b2 t1 t2 s' d A1' A2 := by
  obtain ⟨h1, A1', h2, h3, h4⟩ := h.P.fst hp
  exact ⟨h1, A1', h.turn h2 ⟨hx.trans h.S.xs, hb.trans h.S.b1, h.S.b2⟩ h3 (NewF.refl _ _) (h4.mono fun x hx _ => by simp [hx])⟩
theorem Duo.alk {r : Ending} (h : Duo w1 w b1 b2 t1 t2 s d A1 A2) (hp : AlkP w t1 t2 A1 A2 r w') : r = .returned (.bool true) ∧ ∃ s' d' A1' A2', Duo w1 w' b1 b2 t1 t2 s' d' A1' A2' := by
  obtain ⟨h1, s', d', A1', A2', h2, h3, h4, h5, h6⟩ := hp
  exact ⟨h1, s', d', A1', A2', h.turn h2 h3 h4 h5 h6⟩
end

end Go.Proofs.YtglbamalagacgaaGreat
