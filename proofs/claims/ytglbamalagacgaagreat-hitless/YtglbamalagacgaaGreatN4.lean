import Derived.Test.YtglbamalagacgaaGreatN3
import Derived.Deep.RegionHeld3
namespace Go.Proofs.YtglbamalagacgaaGreat
open Go.RowKit Go.Shelf

attribute [local go_sem] Oper.semAt_some

-- a call of Hitless's script: what it leaves; b: books and the step's block stay as they were
def HitP (w1 w : World) (b1 b2 t1 t2 o : Nat) (R : Value → Prop) (r : Ending) (w' : World) : Prop := ∃ v, r = .returned v ∧ R v ∧ (∃ s' d' A1' A2', Duo w1 w' b1 b2 t1 t2 s' d' A1' A2') ∧ (∀ i, w'.cell? ⟨b1, i, none⟩ = w.cell? ⟨b1, i, none⟩) ∧ (∀ i, w'.cell? ⟨b2, i, none⟩ = w.cell? ⟨b2, i, none⟩) ∧ (∀ i, w'.cell? ⟨o, i, none⟩ = w.cell? ⟨o, i, none⟩) ∧ w.heap.size ≤ w'.heap.size
section
variable {w1 w : World} {b1 b2 t1 t2 o : Nat} {s d : TS} {A1 A2 : List Nat}
theorem Duo.hit {v : Value} {s' : TS} {f : Nat} {args : Array Value} (h : Duo w1 w b1 b2 t1 t2 s d A1 A2) (ho : o < w.heap.size) (hn : o ∉ A1 ++ A2) (hc : Calls Tryz.prog f args w (TurnP w t1 A1 v s')) (hx : s'.xs = s.xs) (hb : s'.b = s.b) : Calls Tryz.prog f args w (HitP w1 w b1 b2 t1 t2 o fun u => u = v) := by
  refine hc.mono fun r w' hp => ?_
  obtain ⟨h1, A1', h2⟩ := h.fst hp hx hb
  obtain ⟨_, _, _, _, hO⟩ := hp
  have k : ∀ b, b < w.heap.size → b ∉ A1 ++ A2 → ∀ i, w'.cell? ⟨b, i, none⟩ = w.cell? ⟨b, i, none⟩ := fun b hl hb i => hO.cell hl fun h => hb (List.mem_append.2 (.inl h))
  exact ⟨v, h1, rfl, ⟨_, _, _, _, h2⟩, k b1 h.lt.1 h.n1, k b2 h.lt.2 h.n2, k o ho hn, hO.size⟩
theorem Duo.hit2 {f : Nat} {args : Array Value} (h : Duo w1 w b1 b2 t1 t2 s d A1 A2) (ho : o < w.heap.size) (hn : o ∉ A1 ++ A2) (hc : Calls Tryz.prog f args w (AlkP w t1 t2 A1 A2)) : Calls Tryz.prog f args w (HitP w1 w b1 b2 t1 t2 o fun u => u = .bool true) := by
  refine hc.mono fun r w' hp => ?_
  obtain ⟨h1, s', d', A1', A2', h2⟩ := h.alk hp
  obtain ⟨_, _, _, _, _, _, _, _, _, hO⟩ := hp
  have k : ∀ b, b < w.heap.size → b ∉ A1 ++ A2 → ∀ i, w'.cell? ⟨b, i, none⟩ = w.cell? ⟨b, i, none⟩ := fun b hl hb i => hO.cell hl hb
  exact ⟨_, h1, rfl, ⟨_, _, _, _, h2⟩, k b1 h.lt.1 h.n1, k b2 h.lt.2 h.n2, k o ho hn, hO.size⟩
end

theorem Duo.start {w W0 w2 w3 w5 : World} {b1 b2 t1 t2 : Nat} {A1 A2 : List Nat} {cf cf2 : Cfg} {u : Value} (hB0 : Below w.heap.size w W0) (hz : W0.heap.size = w.heap.size + 1) (kb1 : w2.cell? ⟨b1, 4, none⟩ = some (ptrV t1)) (hT1 : TT w2 t1 (TS.fresh cf) A1) (hb2 : Below W0.heap.size W0 w2) (g1 : W0.heap.size ≤ b1) (g2 : ∀ k ∈ A1, W0.heap.size ≤ k) (g3 : b1 ∉ A1) (hb3 : Below w2.heap.size w2 w3)
    (kb2 : w5.cell? ⟨b2, 4, none⟩ = some (ptrV t2)) (hT2 : TT w5 t2 (TS.fresh cf2) A2) (hb5 : Below (w3.setCell ⟨w.heap.size, 0, none⟩ u).heap.size (w3.setCell ⟨w.heap.size, 0, none⟩ u) w5) (e1 : (w3.setCell ⟨w.heap.size, 0, none⟩ u).heap.size ≤ b2) (e2 : ∀ k ∈ A2, (w3.setCell ⟨w.heap.size, 0, none⟩ u).heap.size ≤ k) (e3 : b2 ∉ A2) (c1 : cf.b = 400) (c2 : cf2.b = 400) :
    Duo w w5 b1 b2 t1 t2 (TS.fresh cf) (TS.fresh cf2) A1 A2 := by
  have hs : (w3.setCell ⟨w.heap.size, 0, none⟩ u).heap.size = w3.heap.size := by simp [World.setCell]
  rw [hs] at e1 e2
  have z1 := hb2.size
  have z2 := hb3.size
  have z3 := hb5.size
  rw [hs] at z3
  have hl1 := World.block_lt_of_cell? w2 _ kb1
  simp only at hl1
  have hA1 := hT1.lt
  have hk : ∀ k, W0.heap.size ≤ k → k < w2.heap.size → w5.heap[k]? = w2.heap[k]? := fun k h1 h2 => ((hb5.block k (by rw [hs]; omega)).trans (Below.heap_setCell _ _ _ _ (by show k ≠ w.heap.size; omega))).trans (hb3.block k h2)
  refine ⟨⟨hT1.kept fun k hk' => hk k (g2 k hk') (hA1 k hk'), hT2, fun k h1 h2 => by have := hA1 k h1; have := e2 k h2; omega⟩, ⟨rfl, c1, c2⟩, ?_, kb2, fun hm => ?_, fun hm => ?_, ?_, fun k hm => ?_⟩
  · simp only [World.cell?, hk b1 g1 hl1]; exact kb1
  · rcases List.mem_append.1 hm with h1 | h1
    · exact g3 h1
    · have := e2 _ h1; omega
  · rcases List.mem_append.1 hm with h1 | h1
    · have := hA1 _ h1; omega
    · exact e3 h1
  · refine (hB0.trans (hb2.mono (by omega))).trans ((hb3.mono (by omega)).trans ?_)
    have h4 : Below w.heap.size w3 (w3.setCell ⟨w.heap.size, 0, none⟩ u) := Below.setCell (Below.refl _ w3) (show w.heap.size ≤ (⟨w.heap.size, 0, none⟩ : Addr).block from Nat.le_refl _) u
    exact h4.trans (hb5.mono (by rw [hs]; omega))
  · rcases List.mem_append.1 hm with h1 | h1
    · have := g2 _ h1; omega
    · have := e2 _ h1; omega

set_option maxHeartbeats 4000000 in
set_option maxRecDepth 4000 in
theorem hitless_any (cf : Cfg) (v : Value) (kt : Int) (hkt : -9223372036854775808 ≤ kt ∧ kt ≤ 9223372036854775807) (ss : List Stp) (w : World) (hs : StepsAt w v ss) :
    Calls Tryz.prog 9 #[cfgV cf, .int .i64 kt, v] w fun r w' => r = .returned (.bool true) ∧ Below w.heap.size w w' := by
  obtain ⟨va, vc, hve, hml, _⟩ := id hs
  have Hs := hide hs
  subst hve
  obtain ⟨e, b, ch, lg⟩ := cf
  obtain ⟨W0, hW0⟩ : ∃ W0, W0 = w.alloc (.cells #[.int .i64 e, .int .i64 400, .int .i64 ch, .int .i64 lg] 23) := ⟨_, rfl⟩
  have hB0 : Below w.heap.size w W0 := by rw [hW0]; exact (Below.refl _ w).alloc (Nat.le_refl _) _
  have q0 : W0.heap[w.heap.size]? = some (.cells #[.int .i64 e, .int .i64 400, .int .i64 ch, .int .i64 lg] 23) := by rw [hW0]; exact World.alloc_heap_new w _
  have hz0 : W0.heap.size = w.heap.size + 1 := by rw [hW0]; simp
  unfold maxLen at hml
  have HB0 := hide hB0
  clear hs hB0
  by_cases hcf : isCfg ⟨e, 400, ch, lg⟩
  · have hcall := hide (opened_ts ⟨e, 400, ch, lg⟩ W0 hcf)
    have hpk := hide (fun W => pick_any W kt hkt)
    have HW0 := hide hW0
    rw [hW0] at hcall
    clear hW0
    go_enter Tryz.func9, Tryz.ntmps9
    go_wp2_with fail
    refine hcall.out.mono ?_
    rintro _ w2 hop
    rw [← HW0.out] at hop
    obtain ⟨b1, t1, A1, rfl, kb1, hT1, hb2, g1, g2, g3⟩ := hop
    clear hcall
    go_wp2_with fail
    refine (hpk.out _).mono ?_
    rintro _ w3 ⟨⟨p, rfl, hp0, hp3⟩, hb3⟩
    have q3 := (hb3.block w.heap.size (by have := hb2.size; omega)).trans ((hb2.block w.heap.size (by omega)).trans q0)
    have c0 : w3.cell? ⟨w.heap.size, 0, none⟩ = some (.int .i64 e) := by simp [World.cell?, q3]
    have c1 : w3.cell? ⟨w.heap.size, 1, none⟩ = some (.int .i64 400) := by simp [World.cell?, q3]
    have c2 : w3.cell? ⟨w.heap.size, 2, none⟩ = some (.int .i64 ch) := by simp [World.cell?, q3]
    have c3 : w3.cell? ⟨w.heap.size, 3, none⟩ = some (.int .i64 lg) := by simp [World.cell?, q3]
    have cf0 : w3.frozen? ⟨w.heap.size, 0, none⟩ = false := by simp [World.frozen?, q3]
    have hwp : IntKind.i64.wrap (1 + p) = 1 + p := by rw [IntKind.wrap_i64]; omega
    have hcf2 : isCfg ⟨1 + p, 400, ch, lg⟩ := by
      obtain ⟨_, _, h3, h4, h5, h6, h7, h8⟩ := hcf
      exact ⟨by show 1 ≤ 1 + p; omega, by show 1 + p ≤ 3; omega, h3, h4, h5, h6, h7, h8⟩
    have hcall := hide (opened_ts ⟨1 + p, 400, ch, lg⟩ (w3.setCell ⟨w.heap.size, 0, none⟩ (.int .i64 (1 + p))) hcf2)
    have HD := hide (fun w5 b2 t2 A2 h1 h2 h3 h4 h5 h6 => Duo.start (w5 := w5) (b2 := b2) (t2 := t2) (A2 := A2) (cf2 := ⟨1 + p, 400, ch, lg⟩) (u := .int .i64 (1 + p)) HB0.out hz0 kb1 hT1 hb2 g1 g2 g3 hb3 h1 h2 h3 h4 h5 h6 rfl rfl)
    have zc : w.heap.size < w3.heap.size := by have := hb2.size; have := hb3.size; omega
    clear hb2 hb3 hT1 g1 g2 g3 kb1 hcf hcf2 q0 q3
    go_wp2_with fail
    refine hcall.out.mono ?_
    rintro _ w5 ⟨b2, t2, A2, rfl, kb2, hT2, hb5, f1, f2, f3⟩
    have D := HD.out w5 b2 t2 A2 kb2 hT2 hb5 f1 f2 f3
    have D0 := hide D
    clear HD D hcall kb2 hT2 hb5 f1 f2 f3 c0 c1 c2 c3 cf0
    go_wp2
    go_loopw [8, 10] (fun s8 sl wr => ∃ (i : Nat) (s d : TS) (A1 A2 : List Nat), s8 = .bool true ∧ i ≤ ss.length ∧ sl = .int .i64 (i : Int) ∧ Hid (Duo w wr b1 b2 t1 t2 s d A1 A2)) (fun _ s _ => ss.length - (intOf s).toNat)
    case atStart => exact ⟨0, _, _, A1, A2, rfl, Nat.zero_le _, rfl, D0⟩
    case round =>
      clear D0
      obtain ⟨i, s, d, A1, A2, rfl, hi, rfl, HD⟩ := hrel
      by_cases hlt : i < ss.length
      · obtain ⟨x, hx⟩ : ∃ x, ss[i]? = some x := ⟨_, List.getElem?_eq_getElem hlt⟩
        obtain ⟨va', vc', hve, _, hst⟩ := Hs.out
        obtain ⟨A, hA0, hA, hcs, a0, a1, a2, a3, a4⟩ := hst i x hx
        cases hve
        subst hA0
        have hk : ∀ j, (⟨(A.add (i * 5)).block, (A.add (i * 5)).off + j, none⟩ : Addr).block < w.heap.size := fun j => by simpa [addB] using hA
        obtain ⟨xk, xa, xl, xn, xv, xcs⟩ := x
        simp only at hcs a0 a1 a2 a3 a4
        have j0 : (0 : Int) ≤ (i : Int) := by omega
        have j1 : (i : Int) < (ss.length : Int) := by omega
        have hwr : IntKind.i64.wrap ((i : Int) + 1) = (i : Int) + 1 := by rw [IntKind.wrap_i64]; omega
        have hbl := HD.out.below
        replace a0 := (hbl.cell (p := A.add (i * 5)) (by simpa [addB] using hA)).trans a0
        replace a1 := (hbl.cell (p := ⟨(A.add (i * 5)).block, (A.add (i * 5)).off + 1, none⟩) (hk 1)).trans a1
        replace a2 := (hbl.cell (p := ⟨(A.add (i * 5)).block, (A.add (i * 5)).off + 2, none⟩) (hk 2)).trans a2
        replace a3 := (hbl.cell (p := ⟨(A.add (i * 5)).block, (A.add (i * 5)).off + 3, none⟩) (hk 3)).trans a3
        replace a4 := (hbl.cell (p := ⟨(A.add (i * 5)).block, (A.add (i * 5)).off + 4, none⟩) (hk 4)).trans a4
        obtain ⟨ya, yc, rfl⟩ : ∃ ya yc, xv = .slice ya xcs.length yc := by obtain ⟨p, q, h, _⟩ := hcs; exact ⟨p, q, h⟩
        have Hcs := hide hcs
        have hBA : Below wr.heap.size wr (wr.alloc (.cells #[.int .i64 xk, .int .i64 xa, .int .i64 xl, .int .i64 xn, .slice ya xcs.length yc] 35)) := (Below.refl _ wr).alloc (Nat.le_refl _) _
        have DA := HD.out.later hBA
        have hno : wr.heap.size ∉ A1 ++ A2 := fun hm => by
          rcases List.mem_append.1 hm with h1 | h1
          · have := HD.out.P.T1.lt _ h1; omega
          · have := HD.out.P.T2.lt _ h1; omega
        have next := hide (show ∀ W, (∃ s' d' A1' A2', Duo w W b1 b2 t1 t2 s' d' A1' A2') → ∃ (i' : Nat) (s d : TS) (A1 A2 : List Nat), i' ≤ ss.length ∧ Value.int .i64 ((i : Int) + 1) = .int .i64 (i' : Int) ∧ Hid (Duo w W b1 b2 t1 t2 s d A1 A2) from fun W ⟨s', d', A1', A2', hD⟩ => ⟨i + 1, s', d', A1', A2', by omega, by simp, hD⟩)
        have hlb := HD.out.lt
        have x1 := HD.out.k1
        have x2 := HD.out.k2
        have HDA := hide DA
        have HNO := hide hno
        clear hst hx hcs hbl hk hBA DA hno HD
        by_cases k5 : xk = 5
        · subst k5
          have hmo := move_ok HDA.out.P.T1.ok xn
          have hmv := hide ((HDA.out.later (Below.refl _ (wr.alloc (.cells #[.int .i64 5, .int .i64 xa, .int .i64 xl, .int .i64 xn, .slice ya xcs.length yc] 35))).drew).hit (o := wr.heap.size) (by simp) HNO.out ((HDA.out.later (Below.refl _ (wr.alloc (.cells #[.int .i64 5, .int .i64 xa, .int .i64 xl, .int .i64 xn, .slice ya xcs.length yc] 35))).drew).P.T1.move xn) hmo.2.1 hmo.2.2.2.1)
          clear hmo HDA HNO
          go_wp2
          go_region_held3 (fun w' => w'.cell? ⟨b1, 4, none⟩ = some (ptrV t1) ∧ w'.cell? ⟨wr.heap.size, 3, none⟩ = some (.int .i64 xn)) (go_keep)
            (first | (go_at_call 24; refine hmv.out.mono ?_; rintro _ w6 ⟨_, rfl, rfl, hD6, r1, r2, r3, r4⟩; (have u1 : ∀ o, w6.cell? ⟨b1, o, none⟩ = (wr.alloc (.cells #[.int .i64 5, .int .i64 xa, .int .i64 xl, .int .i64 xn, .slice ya xcs.length yc] 35)).cell? ⟨b1, o, none⟩ := r1); (have u3 : ∀ o, w6.cell? ⟨wr.heap.size, o, none⟩ = (wr.alloc (.cells #[.int .i64 5, .int .i64 xa, .int .i64 xl, .int .i64 xn, .slice ya xcs.length yc] 35)).cell? ⟨wr.heap.size, o, none⟩ := r3)))
          have nx := hide (next.out _ hD6)
          clear hD6 r1 r2 r3 u1 u3 hmv next
          go_wp2
          obtain ⟨i', s', d', A1', A2', v1, v2, v3⟩ := nx.out
          exact ⟨⟨i', s', d', A1', A2', rfl, v1, v2, v3⟩, by show ss.length - ((i : Int) + 1).toNat < ss.length - (i : Int).toNat; omega⟩
        by_cases k6 : xk = 6
        · subst k6
          have hmo := step_ok HDA.out.P.T1.ok
          have hmv := hide (HDA.out.hit (o := wr.heap.size) (by simp) HNO.out HDA.out.P.T1.step hmo.xs hmo.b)
          clear hmo HDA HNO k5
          go_wp2_with fail
          refine hmv.out.mono ?_
          rintro _ w6 ⟨_, rfl, rfl, hD6, -⟩
          have nx := hide (next.out _ hD6)
          clear hD6 hmv next
          go_wp2
          obtain ⟨i', s', d', A1', A2', v1, v2, v3⟩ := nx.out
          exact ⟨⟨i', s', d', A1', A2', rfl, v1, v2, v3⟩, by show ss.length - ((i : Int) + 1).toNat < ss.length - (i : Int).toNat; omega⟩
        by_cases k7 : xk = 7
        · subst k7
          have hmo := abort_ok HDA.out.P.T1.ok
          have hmv := hide (HDA.out.hit (o := wr.heap.size) (by simp) HNO.out HDA.out.P.T1.abort hmo.2.1 hmo.2.2.2.1)
          clear hmo HDA HNO k5 k6
          go_wp2_with fail
          refine hmv.out.mono ?_
          rintro _ w6 ⟨_, rfl, rfl, hD6, -⟩
          have nx := hide (next.out _ hD6)
          clear hD6 hmv next
          go_wp2
          obtain ⟨i', s', d', A1', A2', v1, v2, v3⟩ := nx.out
          exact ⟨⟨i', s', d', A1', A2', rfl, v1, v2, v3⟩, by show ss.length - ((i : Int) + 1).toNat < ss.length - (i : Int).toNat; omega⟩
        have n5 : (xk == 5) = false := by simpa using k5
        have n6 : (xk == 6) = false := by simpa using k6
        have n7 : (xk == 7) = false := by simpa using k7
        by_cases hkk : xk = 1 ∨ xk = 2 ∨ xk = 3 ∨ xk = 9 ∨ xk = 10
        · have hfw := hide (few_any (wr.alloc (.cells #[.int .i64 xk, .int .i64 xa, .int .i64 xl, .int .i64 xn, .slice ya xcs.length yc] 35)) b2 t2 d A2 HDA.out.k2 HDA.out.P.T2)
          rw [← HDA.out.S.xs] at hfw
          have hlen : s.xs.length ≤ 20 ∨ ¬ s.xs.length ≤ 20 := by omega
          have key := hide (show ∀ w6, Below (wr.alloc (.cells #[.int .i64 xk, .int .i64 xa, .int .i64 xl, .int .i64 xn, .slice ya xcs.length yc] 35)).heap.size (wr.alloc (.cells #[.int .i64 xk, .int .i64 xa, .int .i64 xl, .int .i64 xn, .slice ya xcs.length yc] 35)) w6 → (xk = 1 ∨ xk = 3 → s.xs.length ≤ 20) → Calls Tryz.prog 27 #[ptrV t1, ptrV t2, stepV xk xa xl xn (.slice ya xcs.length yc)] w6.drew (HitP w w6.drew b1 b2 t1 t2 wr.heap.size fun u => u = .bool true) from fun w6 hb6 hf => by
            have D6 := HDA.out.later hb6.drew
            refine D6.hit2 (by have := hb6.size; simp at this; simp; omega) HNO.out ?_
            have hch := Hcs.out.later D6.below
            exact alike_any w6.drew t1 t2 s d A1 A2 D6.P D6.S xk xa xl xn _ xcs hch (ChgsAt.away Hcs.out fun k hk => D6.b3 k (List.mem_append.2 (.inl hk))) (ChgsAt.away Hcs.out fun k hk => D6.b3 k (List.mem_append.2 (.inr hk))) hkk hf)
          have HL := hide (show ∀ w6, Below (wr.alloc (.cells #[.int .i64 xk, .int .i64 xa, .int .i64 xl, .int .i64 xn, .slice ya xcs.length yc] 35)).heap.size (wr.alloc (.cells #[.int .i64 xk, .int .i64 xa, .int .i64 xl, .int .i64 xn, .slice ya xcs.length yc] 35)) w6 → (∀ o, w6.cell? ⟨b1, o, none⟩ = wr.cell? ⟨b1, o, none⟩) ∧ (∀ o, w6.cell? ⟨b2, o, none⟩ = wr.cell? ⟨b2, o, none⟩) ∧ w6.heap[wr.heap.size]? = some (.cells #[.int .i64 xk, .int .i64 xa, .int .i64 xl, .int .i64 xn, .slice ya xcs.length yc] 35) ∧ wr.heap.size < w6.heap.size ∧ Duo w w6 b1 b2 t1 t2 s d A1 A2 from fun w6 hb6 => by
            have hz := hb6.size
            simp at hz
            exact ⟨fun o => (hb6.cell (p := ⟨b1, o, none⟩) (by simp; omega)).trans (((Below.refl _ wr).alloc (Nat.le_refl _) _).cell (p := ⟨b1, o, none⟩) hlb.1), fun o => (hb6.cell (p := ⟨b2, o, none⟩) (by simp; omega)).trans (((Below.refl _ wr).alloc (Nat.le_refl _) _).cell (p := ⟨b2, o, none⟩) hlb.2), (hb6.block _ (by simp)).trans (World.alloc_heap_new wr _), by omega, HDA.out.later hb6⟩)
          clear HDA HNO Hcs
          rcases hkk with rfl | rfl | rfl | rfl | rfl
          · rcases hlen with hlen | hlen
            · rw [decide_eq_true hlen] at hfw
              have hal := hide (fun w6 hb6 => key.out w6 hb6 (fun _ => hlen))
              clear key
              go_wp2_with fail
              refine hfw.out.mono ?_
              rintro _ w6 ⟨rfl, hb6⟩
              obtain ⟨y1, y2, y3, y4, y5⟩ := HL.out w6 hb6
              have hcal := hide (hal.out w6 hb6)
              have m1 := (y1 4).trans x1
              have m2 := (y2 4).trans x2
              have s0 : w6.cell? ⟨wr.heap.size, 0, none⟩ = some (.int .i64 1) := by simp [World.cell?, y3]
              have s1 : w6.cell? ⟨wr.heap.size, 1, none⟩ = some (.int .i64 xa) := by simp [World.cell?, y3]
              have s2 : w6.cell? ⟨wr.heap.size, 2, none⟩ = some (.int .i64 xl) := by simp [World.cell?, y3]
              have s3 : w6.cell? ⟨wr.heap.size, 3, none⟩ = some (.int .i64 xn) := by simp [World.cell?, y3]
              have s4 : w6.cell? ⟨wr.heap.size, 4, none⟩ = some (.slice ya xcs.length yc) := by simp [World.cell?, y3]
              clear hfw hb6 y1 y2 y3 y5 HL hal
              go_wp2
              go_region_held3 (fun w' => w'.cell? ⟨b1, 4, none⟩ = some (ptrV t1) ∧ w'.cell? ⟨b2, 4, none⟩ = some (ptrV t2) ∧ w'.cell? ⟨wr.heap.size, 0, none⟩ = some (.int .i64 1) ∧ w'.cell? ⟨wr.heap.size, 1, none⟩ = some (.int .i64 xa) ∧ w'.cell? ⟨wr.heap.size, 2, none⟩ = some (.int .i64 xl) ∧ w'.cell? ⟨wr.heap.size, 3, none⟩ = some (.int .i64 xn) ∧ w'.cell? ⟨wr.heap.size, 4, none⟩ = some (.slice ya xcs.length yc)) (go_keep)
                (first | (go_at_call 27; refine hcal.out.mono ?_; rintro _ w7 ⟨_, rfl, rfl, hD7, r1, r2, r3, r4⟩; (have u1 : ∀ o, w7.cell? ⟨b1, o, none⟩ = w6.cell? ⟨b1, o, none⟩ := r1); (have u2 : ∀ o, w7.cell? ⟨b2, o, none⟩ = w6.cell? ⟨b2, o, none⟩ := r2); (have u3 : ∀ o, w7.cell? ⟨wr.heap.size, o, none⟩ = w6.cell? ⟨wr.heap.size, o, none⟩ := r3)))
              have nx := hide (next.out _ hD7)
              clear hD7 r1 r2 r3 u1 u2 u3 hcal next
              go_wp2
              obtain ⟨i', s', d', A1', A2', v1, v2, v3⟩ := nx.out
              exact ⟨⟨i', s', d', A1', A2', rfl, v1, v2, v3⟩, by show ss.length - ((i : Int) + 1).toNat < ss.length - (i : Int).toNat; omega⟩
            · rw [decide_eq_false hlen] at hfw
              clear key
              go_wp2_with fail
              refine hfw.out.mono ?_
              rintro _ w6 ⟨rfl, hb6⟩
              obtain ⟨y1, y2, y3, y4, y5⟩ := HL.out w6 hb6
              have s0 : w6.cell? ⟨wr.heap.size, 0, none⟩ = some (.int .i64 1) := by simp [World.cell?, y3]
              have nx := hide (next.out _ ⟨_, _, _, _, y5⟩)
              clear hfw hb6 y1 y2 y3 y5 HL next
              go_wp2
              obtain ⟨i', s', d', A1', A2', v1, v2, v3⟩ := nx.out
              exact ⟨⟨i', s', d', A1', A2', rfl, v1, v2, v3⟩, by show ss.length - ((i : Int) + 1).toNat < ss.length - (i : Int).toNat; omega⟩
          · rcases hlen with hlen | hlen
            · rw [decide_eq_true hlen] at hfw
              have hal := hide (fun w6 hb6 => key.out w6 hb6 (fun h => by omega))
              clear key
              go_wp2_with fail
              refine hfw.out.mono ?_
              rintro _ w6 ⟨rfl, hb6⟩
              obtain ⟨y1, y2, y3, y4, y5⟩ := HL.out w6 hb6
              have hcal := hide (hal.out w6 hb6)
              have m1 := (y1 4).trans x1
              have m2 := (y2 4).trans x2
              have s0 : w6.cell? ⟨wr.heap.size, 0, none⟩ = some (.int .i64 2) := by simp [World.cell?, y3]
              have s1 : w6.cell? ⟨wr.heap.size, 1, none⟩ = some (.int .i64 xa) := by simp [World.cell?, y3]
              have s2 : w6.cell? ⟨wr.heap.size, 2, none⟩ = some (.int .i64 xl) := by simp [World.cell?, y3]
              have s3 : w6.cell? ⟨wr.heap.size, 3, none⟩ = some (.int .i64 xn) := by simp [World.cell?, y3]
              have s4 : w6.cell? ⟨wr.heap.size, 4, none⟩ = some (.slice ya xcs.length yc) := by simp [World.cell?, y3]
              clear hfw hb6 y1 y2 y3 y5 HL hal
              go_wp2
              go_region_held3 (fun w' => w'.cell? ⟨b1, 4, none⟩ = some (ptrV t1) ∧ w'.cell? ⟨b2, 4, none⟩ = some (ptrV t2) ∧ w'.cell? ⟨wr.heap.size, 0, none⟩ = some (.int .i64 2) ∧ w'.cell? ⟨wr.heap.size, 1, none⟩ = some (.int .i64 xa) ∧ w'.cell? ⟨wr.heap.size, 2, none⟩ = some (.int .i64 xl) ∧ w'.cell? ⟨wr.heap.size, 3, none⟩ = some (.int .i64 xn) ∧ w'.cell? ⟨wr.heap.size, 4, none⟩ = some (.slice ya xcs.length yc)) (go_keep)
                (first | (go_at_call 27; refine hcal.out.mono ?_; rintro _ w7 ⟨_, rfl, rfl, hD7, r1, r2, r3, r4⟩; (have u1 : ∀ o, w7.cell? ⟨b1, o, none⟩ = w6.cell? ⟨b1, o, none⟩ := r1); (have u2 : ∀ o, w7.cell? ⟨b2, o, none⟩ = w6.cell? ⟨b2, o, none⟩ := r2); (have u3 : ∀ o, w7.cell? ⟨wr.heap.size, o, none⟩ = w6.cell? ⟨wr.heap.size, o, none⟩ := r3)))
              have nx := hide (next.out _ hD7)
              clear hD7 r1 r2 r3 u1 u2 u3 hcal next
              go_wp2
              obtain ⟨i', s', d', A1', A2', v1, v2, v3⟩ := nx.out
              exact ⟨⟨i', s', d', A1', A2', rfl, v1, v2, v3⟩, by show ss.length - ((i : Int) + 1).toNat < ss.length - (i : Int).toNat; omega⟩
            · rw [decide_eq_false hlen] at hfw
              have hal := hide (fun w6 hb6 => key.out w6 hb6 (fun h => by omega))
              clear key
              go_wp2_with fail
              refine hfw.out.mono ?_
              rintro _ w6 ⟨rfl, hb6⟩
              obtain ⟨y1, y2, y3, y4, y5⟩ := HL.out w6 hb6
              have hcal := hide (hal.out w6 hb6)
              have m1 := (y1 4).trans x1
              have m2 := (y2 4).trans x2
              have s0 : w6.cell? ⟨wr.heap.size, 0, none⟩ = some (.int .i64 2) := by simp [World.cell?, y3]
              have s1 : w6.cell? ⟨wr.heap.size, 1, none⟩ = some (.int .i64 xa) := by simp [World.cell?, y3]
              have s2 : w6.cell? ⟨wr.heap.size, 2, none⟩ = some (.int .i64 xl) := by simp [World.cell?, y3]
              have s3 : w6.cell? ⟨wr.heap.size, 3, none⟩ = some (.int .i64 xn) := by simp [World.cell?, y3]
              have s4 : w6.cell? ⟨wr.heap.size, 4, none⟩ = some (.slice ya xcs.length yc) := by simp [World.cell?, y3]
              clear hfw hb6 y1 y2 y3 y5 HL hal
              go_wp2
              go_region_held3 (fun w' => w'.cell? ⟨b1, 4, none⟩ = some (ptrV t1) ∧ w'.cell? ⟨b2, 4, none⟩ = some (ptrV t2) ∧ w'.cell? ⟨wr.heap.size, 0, none⟩ = some (.int .i64 2) ∧ w'.cell? ⟨wr.heap.size, 1, none⟩ = some (.int .i64 xa) ∧ w'.cell? ⟨wr.heap.size, 2, none⟩ = some (.int .i64 xl) ∧ w'.cell? ⟨wr.heap.size, 3, none⟩ = some (.int .i64 xn) ∧ w'.cell? ⟨wr.heap.size, 4, none⟩ = some (.slice ya xcs.length yc)) (go_keep)
                (first | (go_at_call 27; refine hcal.out.mono ?_; rintro _ w7 ⟨_, rfl, rfl, hD7, r1, r2, r3, r4⟩; (have u1 : ∀ o, w7.cell? ⟨b1, o, none⟩ = w6.cell? ⟨b1, o, none⟩ := r1); (have u2 : ∀ o, w7.cell? ⟨b2, o, none⟩ = w6.cell? ⟨b2, o, none⟩ := r2); (have u3 : ∀ o, w7.cell? ⟨wr.heap.size, o, none⟩ = w6.cell? ⟨wr.heap.size, o, none⟩ := r3)))
              have nx := hide (next.out _ hD7)
              clear hD7 r1 r2 r3 u1 u2 u3 hcal next
              go_wp2
              obtain ⟨i', s', d', A1', A2', v1, v2, v3⟩ := nx.out
              exact ⟨⟨i', s', d', A1', A2', rfl, v1, v2, v3⟩, by show ss.length - ((i : Int) + 1).toNat < ss.length - (i : Int).toNat; omega⟩
          · rcases hlen with hlen | hlen
            · rw [decide_eq_true hlen] at hfw
              have hal := hide (fun w6 hb6 => key.out w6 hb6 (fun _ => hlen))
              clear key
              go_wp2_with fail
              refine hfw.out.mono ?_
              rintro _ w6 ⟨rfl, hb6⟩
              obtain ⟨y1, y2, y3, y4, y5⟩ := HL.out w6 hb6
              have hcal := hide (hal.out w6 hb6)
              have m1 := (y1 4).trans x1
              have m2 := (y2 4).trans x2
              have s0 : w6.cell? ⟨wr.heap.size, 0, none⟩ = some (.int .i64 3) := by simp [World.cell?, y3]
              have s1 : w6.cell? ⟨wr.heap.size, 1, none⟩ = some (.int .i64 xa) := by simp [World.cell?, y3]
              have s2 : w6.cell? ⟨wr.heap.size, 2, none⟩ = some (.int .i64 xl) := by simp [World.cell?, y3]
              have s3 : w6.cell? ⟨wr.heap.size, 3, none⟩ = some (.int .i64 xn) := by simp [World.cell?, y3]
              have s4 : w6.cell? ⟨wr.heap.size, 4, none⟩ = some (.slice ya xcs.length yc) := by simp [World.cell?, y3]
              clear hfw hb6 y1 y2 y3 y5 HL hal
              go_wp2
              go_region_held3 (fun w' => w'.cell? ⟨b1, 4, none⟩ = some (ptrV t1) ∧ w'.cell? ⟨b2, 4, none⟩ = some (ptrV t2) ∧ w'.cell? ⟨wr.heap.size, 0, none⟩ = some (.int .i64 3) ∧ w'.cell? ⟨wr.heap.size, 1, none⟩ = some (.int .i64 xa) ∧ w'.cell? ⟨wr.heap.size, 2, none⟩ = some (.int .i64 xl) ∧ w'.cell? ⟨wr.heap.size, 3, none⟩ = some (.int .i64 xn) ∧ w'.cell? ⟨wr.heap.size, 4, none⟩ = some (.slice ya xcs.length yc)) (go_keep)
                (first | (go_at_call 27; refine hcal.out.mono ?_; rintro _ w7 ⟨_, rfl, rfl, hD7, r1, r2, r3, r4⟩; (have u1 : ∀ o, w7.cell? ⟨b1, o, none⟩ = w6.cell? ⟨b1, o, none⟩ := r1); (have u2 : ∀ o, w7.cell? ⟨b2, o, none⟩ = w6.cell? ⟨b2, o, none⟩ := r2); (have u3 : ∀ o, w7.cell? ⟨wr.heap.size, o, none⟩ = w6.cell? ⟨wr.heap.size, o, none⟩ := r3)))
              have nx := hide (next.out _ hD7)
              clear hD7 r1 r2 r3 u1 u2 u3 hcal next
              go_wp2
              obtain ⟨i', s', d', A1', A2', v1, v2, v3⟩ := nx.out
              exact ⟨⟨i', s', d', A1', A2', rfl, v1, v2, v3⟩, by show ss.length - ((i : Int) + 1).toNat < ss.length - (i : Int).toNat; omega⟩
            · rw [decide_eq_false hlen] at hfw
              clear key
              go_wp2_with fail
              refine hfw.out.mono ?_
              rintro _ w6 ⟨rfl, hb6⟩
              obtain ⟨y1, y2, y3, y4, y5⟩ := HL.out w6 hb6
              have s0 : w6.cell? ⟨wr.heap.size, 0, none⟩ = some (.int .i64 3) := by simp [World.cell?, y3]
              have nx := hide (next.out _ ⟨_, _, _, _, y5⟩)
              clear hfw hb6 y1 y2 y3 y5 HL next
              go_wp2
              obtain ⟨i', s', d', A1', A2', v1, v2, v3⟩ := nx.out
              exact ⟨⟨i', s', d', A1', A2', rfl, v1, v2, v3⟩, by show ss.length - ((i : Int) + 1).toNat < ss.length - (i : Int).toNat; omega⟩
          · rcases hlen with hlen | hlen
            · rw [decide_eq_true hlen] at hfw
              have hal := hide (fun w6 hb6 => key.out w6 hb6 (fun h => by omega))
              clear key
              go_wp2_with fail
              refine hfw.out.mono ?_
              rintro _ w6 ⟨rfl, hb6⟩
              obtain ⟨y1, y2, y3, y4, y5⟩ := HL.out w6 hb6
              have hcal := hide (hal.out w6 hb6)
              have m1 := (y1 4).trans x1
              have m2 := (y2 4).trans x2
              have s0 : w6.cell? ⟨wr.heap.size, 0, none⟩ = some (.int .i64 9) := by simp [World.cell?, y3]
              have s1 : w6.cell? ⟨wr.heap.size, 1, none⟩ = some (.int .i64 xa) := by simp [World.cell?, y3]
              have s2 : w6.cell? ⟨wr.heap.size, 2, none⟩ = some (.int .i64 xl) := by simp [World.cell?, y3]
              have s3 : w6.cell? ⟨wr.heap.size, 3, none⟩ = some (.int .i64 xn) := by simp [World.cell?, y3]
              have s4 : w6.cell? ⟨wr.heap.size, 4, none⟩ = some (.slice ya xcs.length yc) := by simp [World.cell?, y3]
              clear hfw hb6 y1 y2 y3 y5 HL hal
              go_wp2
              go_region_held3 (fun w' => w'.cell? ⟨b1, 4, none⟩ = some (ptrV t1) ∧ w'.cell? ⟨b2, 4, none⟩ = some (ptrV t2) ∧ w'.cell? ⟨wr.heap.size, 0, none⟩ = some (.int .i64 9) ∧ w'.cell? ⟨wr.heap.size, 1, none⟩ = some (.int .i64 xa) ∧ w'.cell? ⟨wr.heap.size, 2, none⟩ = some (.int .i64 xl) ∧ w'.cell? ⟨wr.heap.size, 3, none⟩ = some (.int .i64 xn) ∧ w'.cell? ⟨wr.heap.size, 4, none⟩ = some (.slice ya xcs.length yc)) (go_keep)
                (first | (go_at_call 27; refine hcal.out.mono ?_; rintro _ w7 ⟨_, rfl, rfl, hD7, r1, r2, r3, r4⟩; (have u1 : ∀ o, w7.cell? ⟨b1, o, none⟩ = w6.cell? ⟨b1, o, none⟩ := r1); (have u2 : ∀ o, w7.cell? ⟨b2, o, none⟩ = w6.cell? ⟨b2, o, none⟩ := r2); (have u3 : ∀ o, w7.cell? ⟨wr.heap.size, o, none⟩ = w6.cell? ⟨wr.heap.size, o, none⟩ := r3)))
              have nx := hide (next.out _ hD7)
              clear hD7 r1 r2 r3 u1 u2 u3 hcal next
              go_wp2
              obtain ⟨i', s', d', A1', A2', v1, v2, v3⟩ := nx.out
              exact ⟨⟨i', s', d', A1', A2', rfl, v1, v2, v3⟩, by show ss.length - ((i : Int) + 1).toNat < ss.length - (i : Int).toNat; omega⟩
            · rw [decide_eq_false hlen] at hfw
              have hal := hide (fun w6 hb6 => key.out w6 hb6 (fun h => by omega))
              clear key
              go_wp2_with fail
              refine hfw.out.mono ?_
              rintro _ w6 ⟨rfl, hb6⟩
              obtain ⟨y1, y2, y3, y4, y5⟩ := HL.out w6 hb6
              have hcal := hide (hal.out w6 hb6)
              have m1 := (y1 4).trans x1
              have m2 := (y2 4).trans x2
              have s0 : w6.cell? ⟨wr.heap.size, 0, none⟩ = some (.int .i64 9) := by simp [World.cell?, y3]
              have s1 : w6.cell? ⟨wr.heap.size, 1, none⟩ = some (.int .i64 xa) := by simp [World.cell?, y3]
              have s2 : w6.cell? ⟨wr.heap.size, 2, none⟩ = some (.int .i64 xl) := by simp [World.cell?, y3]
              have s3 : w6.cell? ⟨wr.heap.size, 3, none⟩ = some (.int .i64 xn) := by simp [World.cell?, y3]
              have s4 : w6.cell? ⟨wr.heap.size, 4, none⟩ = some (.slice ya xcs.length yc) := by simp [World.cell?, y3]
              clear hfw hb6 y1 y2 y3 y5 HL hal
              go_wp2
              go_region_held3 (fun w' => w'.cell? ⟨b1, 4, none⟩ = some (ptrV t1) ∧ w'.cell? ⟨b2, 4, none⟩ = some (ptrV t2) ∧ w'.cell? ⟨wr.heap.size, 0, none⟩ = some (.int .i64 9) ∧ w'.cell? ⟨wr.heap.size, 1, none⟩ = some (.int .i64 xa) ∧ w'.cell? ⟨wr.heap.size, 2, none⟩ = some (.int .i64 xl) ∧ w'.cell? ⟨wr.heap.size, 3, none⟩ = some (.int .i64 xn) ∧ w'.cell? ⟨wr.heap.size, 4, none⟩ = some (.slice ya xcs.length yc)) (go_keep)
                (first | (go_at_call 27; refine hcal.out.mono ?_; rintro _ w7 ⟨_, rfl, rfl, hD7, r1, r2, r3, r4⟩; (have u1 : ∀ o, w7.cell? ⟨b1, o, none⟩ = w6.cell? ⟨b1, o, none⟩ := r1); (have u2 : ∀ o, w7.cell? ⟨b2, o, none⟩ = w6.cell? ⟨b2, o, none⟩ := r2); (have u3 : ∀ o, w7.cell? ⟨wr.heap.size, o, none⟩ = w6.cell? ⟨wr.heap.size, o, none⟩ := r3)))
              have nx := hide (next.out _ hD7)
              clear hD7 r1 r2 r3 u1 u2 u3 hcal next
              go_wp2
              obtain ⟨i', s', d', A1', A2', v1, v2, v3⟩ := nx.out
              exact ⟨⟨i', s', d', A1', A2', rfl, v1, v2, v3⟩, by show ss.length - ((i : Int) + 1).toNat < ss.length - (i : Int).toNat; omega⟩
          · rcases hlen with hlen | hlen
            · rw [decide_eq_true hlen] at hfw
              have hal := hide (fun w6 hb6 => key.out w6 hb6 (fun h => by omega))
              clear key
              go_wp2_with fail
              refine hfw.out.mono ?_
              rintro _ w6 ⟨rfl, hb6⟩
              obtain ⟨y1, y2, y3, y4, y5⟩ := HL.out w6 hb6
              have hcal := hide (hal.out w6 hb6)
              have m1 := (y1 4).trans x1
              have m2 := (y2 4).trans x2
              have s0 : w6.cell? ⟨wr.heap.size, 0, none⟩ = some (.int .i64 10) := by simp [World.cell?, y3]
              have s1 : w6.cell? ⟨wr.heap.size, 1, none⟩ = some (.int .i64 xa) := by simp [World.cell?, y3]
              have s2 : w6.cell? ⟨wr.heap.size, 2, none⟩ = some (.int .i64 xl) := by simp [World.cell?, y3]
              have s3 : w6.cell? ⟨wr.heap.size, 3, none⟩ = some (.int .i64 xn) := by simp [World.cell?, y3]
              have s4 : w6.cell? ⟨wr.heap.size, 4, none⟩ = some (.slice ya xcs.length yc) := by simp [World.cell?, y3]
              clear hfw hb6 y1 y2 y3 y5 HL hal
              go_wp2
              go_region_held3 (fun w' => w'.cell? ⟨b1, 4, none⟩ = some (ptrV t1) ∧ w'.cell? ⟨b2, 4, none⟩ = some (ptrV t2) ∧ w'.cell? ⟨wr.heap.size, 0, none⟩ = some (.int .i64 10) ∧ w'.cell? ⟨wr.heap.size, 1, none⟩ = some (.int .i64 xa) ∧ w'.cell? ⟨wr.heap.size, 2, none⟩ = some (.int .i64 xl) ∧ w'.cell? ⟨wr.heap.size, 3, none⟩ = some (.int .i64 xn) ∧ w'.cell? ⟨wr.heap.size, 4, none⟩ = some (.slice ya xcs.length yc)) (go_keep)
                (first | (go_at_call 27; refine hcal.out.mono ?_; rintro _ w7 ⟨_, rfl, rfl, hD7, r1, r2, r3, r4⟩; (have u1 : ∀ o, w7.cell? ⟨b1, o, none⟩ = w6.cell? ⟨b1, o, none⟩ := r1); (have u2 : ∀ o, w7.cell? ⟨b2, o, none⟩ = w6.cell? ⟨b2, o, none⟩ := r2); (have u3 : ∀ o, w7.cell? ⟨wr.heap.size, o, none⟩ = w6.cell? ⟨wr.heap.size, o, none⟩ := r3)))
              have nx := hide (next.out _ hD7)
              clear hD7 r1 r2 r3 u1 u2 u3 hcal next
              go_wp2
              obtain ⟨i', s', d', A1', A2', v1, v2, v3⟩ := nx.out
              exact ⟨⟨i', s', d', A1', A2', rfl, v1, v2, v3⟩, by show ss.length - ((i : Int) + 1).toNat < ss.length - (i : Int).toNat; omega⟩
            · rw [decide_eq_false hlen] at hfw
              have hal := hide (fun w6 hb6 => key.out w6 hb6 (fun h => by omega))
              clear key
              go_wp2_with fail
              refine hfw.out.mono ?_
              rintro _ w6 ⟨rfl, hb6⟩
              obtain ⟨y1, y2, y3, y4, y5⟩ := HL.out w6 hb6
              have hcal := hide (hal.out w6 hb6)
              have m1 := (y1 4).trans x1
              have m2 := (y2 4).trans x2
              have s0 : w6.cell? ⟨wr.heap.size, 0, none⟩ = some (.int .i64 10) := by simp [World.cell?, y3]
              have s1 : w6.cell? ⟨wr.heap.size, 1, none⟩ = some (.int .i64 xa) := by simp [World.cell?, y3]
              have s2 : w6.cell? ⟨wr.heap.size, 2, none⟩ = some (.int .i64 xl) := by simp [World.cell?, y3]
              have s3 : w6.cell? ⟨wr.heap.size, 3, none⟩ = some (.int .i64 xn) := by simp [World.cell?, y3]
              have s4 : w6.cell? ⟨wr.heap.size, 4, none⟩ = some (.slice ya xcs.length yc) := by simp [World.cell?, y3]
              clear hfw hb6 y1 y2 y3 y5 HL hal
              go_wp2
              go_region_held3 (fun w' => w'.cell? ⟨b1, 4, none⟩ = some (ptrV t1) ∧ w'.cell? ⟨b2, 4, none⟩ = some (ptrV t2) ∧ w'.cell? ⟨wr.heap.size, 0, none⟩ = some (.int .i64 10) ∧ w'.cell? ⟨wr.heap.size, 1, none⟩ = some (.int .i64 xa) ∧ w'.cell? ⟨wr.heap.size, 2, none⟩ = some (.int .i64 xl) ∧ w'.cell? ⟨wr.heap.size, 3, none⟩ = some (.int .i64 xn) ∧ w'.cell? ⟨wr.heap.size, 4, none⟩ = some (.slice ya xcs.length yc)) (go_keep)
                (first | (go_at_call 27; refine hcal.out.mono ?_; rintro _ w7 ⟨_, rfl, rfl, hD7, r1, r2, r3, r4⟩; (have u1 : ∀ o, w7.cell? ⟨b1, o, none⟩ = w6.cell? ⟨b1, o, none⟩ := r1); (have u2 : ∀ o, w7.cell? ⟨b2, o, none⟩ = w6.cell? ⟨b2, o, none⟩ := r2); (have u3 : ∀ o, w7.cell? ⟨wr.heap.size, o, none⟩ = w6.cell? ⟨wr.heap.size, o, none⟩ := r3)))
              have nx := hide (next.out _ hD7)
              clear hD7 r1 r2 r3 u1 u2 u3 hcal next
              go_wp2
              obtain ⟨i', s', d', A1', A2', v1, v2, v3⟩ := nx.out
              exact ⟨⟨i', s', d', A1', A2', rfl, v1, v2, v3⟩, by show ss.length - ((i : Int) + 1).toNat < ss.length - (i : Int).toNat; omega⟩
        · have n1 : (xk == 1) = false := by simp; omega
          have n2 : (xk == 2) = false := by simp; omega
          have n3 : (xk == 3) = false := by simp; omega
          have n9 : (xk == 9) = false := by simp; omega
          have n10 : (xk == 10) = false := by simp; omega
          have nx := hide (next.out _ ⟨_, _, _, _, HDA.out⟩)
          clear HDA HNO k5 k6 k7 hkk next
          go_wp2
          obtain ⟨i', s', d', A1', A2', v1, v2, v3⟩ := nx.out
          exact ⟨⟨i', s', d', A1', A2', rfl, v1, v2, v3⟩, by show ss.length - ((i : Int) + 1).toNat < ss.length - (i : Int).toNat; omega⟩
      · obtain rfl : i = ss.length := by omega
        have hp1 := hide (HD.out.P.T1.page 0 0 32)
        have hx := HD.out.S.xs
        have hpe : pagE 0 0 32 = 0 := by decide
        have Hp2 := hide (fun W hW => (HD.out.later (w' := W) hW).P.T2.page 0 0 32)
        rw [← hx] at Hp2
        rw [hpe] at hp1 Hp2
        have hyl : (pagL s.xs 0 0 32).length ≤ 1000000 := by
          unfold pagL
          rw [if_pos hpe, List.length_take]
          have : (32 : Int).toNat = 32 := rfl
          omega
        generalize pagL s.xs 0 0 32 = ys at *
        obtain ⟨l1, l2⟩ := HD.out.lt
        have x1 := HD.out.k1
        have HX2 := hide (show ∀ W, Below wr.heap.size wr W → W.cell? ⟨b2, 4, none⟩ = some (ptrV t2) ∧ b2 < W.heap.size from fun W hW => ⟨(HD.out.later hW).k2, (HD.out.later hW).lt.2⟩)
        have fin := hide (show ∀ W, Below wr.heap.size wr W → Below w.heap.size w W from fun W hW => (HD.out.later hW).below)
        clear HD hx hpe Hs
        go_wp2_with fail
        refine hp1.out.mono ?_
        rintro _ w6 ⟨v6, rfl, hr6, hb6, -⟩
        obtain ⟨y1, y2⟩ := HX2.out w6 hb6
        have hp2 := hide (Hp2.out w6 hb6)
        obtain ⟨ua, uc, rfl⟩ := hr6.shape
        have HR6 := hide hr6
        have HB6 := hide hb6
        clear hp1 hr6 hb6 Hp2 HX2 x1
        go_wp2_with fail
        refine hp2.out.mono ?_
        rintro _ w7 ⟨v7, rfl, hr7, hb7, -⟩
        have hr6 := HR6.out.kept (w' := w7) fun g hg => hb7.block g (HR6.out.lt g hg)
        have hsm := hide (sameRoutes_any w7 _ _ ys hr6 hr7 hyl)
        obtain ⟨ub, ud, rfl⟩ := hr7.shape
        have HB7 := hide (HB6.out.trans (hb7.mono HB6.out.size))
        clear hp2 hb7 hr6 hr7 HR6 HB6 y1 y2
        go_wp2_with fail
        refine hsm.out.mono ?_
        rintro _ w8 ⟨rfl, hb8⟩
        have fin2 := hide (fin.out w8 (HB7.out.trans (hb8.mono HB7.out.size)))
        clear hsm hb8
        go_wp2
        go_ret
        exact ⟨rfl, fin2.out⟩
  · have hcall := hide (opened_no tab3 tab3_news ⟨e, 400, ch, lg⟩ W0 hcf)
    have HW0 := hide hW0
    rw [hW0] at hcall
    clear hW0
    go_enter Tryz.func9, Tryz.ntmps9
    go_wp2_with fail
    refine hcall.out.mono ?_
    rintro _ w2 ⟨rfl, hb2⟩
    rw [← HW0.out] at hb2
    have fin := hide (HB0.out.trans (hb2.mono HB0.out.size))
    clear hcall hb2
    go_wp2
    go_ret
    exact ⟨rfl, fin.out⟩

end Go.Proofs.YtglbamalagacgaaGreat
