import Derived.Test.YtkihifodifkieaaTri
namespace Go.Proofs.Ytkihifodifkieaa
open Go.RowKit

def ExB (B : Nat → Option Nat) (v : Nat → Int) : Prop := ∀ c, 2 ≤ c → ((B c).isSome = true ↔ nd v c)
def TrieF (w : World) (p : Nat) (xs : List Ent) (F : List Nat) : Prop := ∃ B, TrM w B (vE xs) ∧ B 1 = some p ∧ ExB B (vE xs) ∧ FpB B F
theorem TrieF.lt {w : World} {p : Nat} {xs : List Ent} {F : List Nat} (h : TrieF w p xs F) : ∀ k ∈ F, k < w.heap.size := by
  obtain ⟨B, h1, h2, h3, hF⟩ := h
  intro k hk
  obtain ⟨c, hc⟩ := (hF k).1 hk
  exact h1.lt hc
theorem TrieF.cells {w : World} {p : Nat} {xs : List Ent} {F : List Nat} (h : TrieF w p xs F) : ∀ k ∈ F, ∃ o, w.heap[k]? = some o ∧ o.isCells = true := by
  obtain ⟨B, h1, h2, h3, hF⟩ := h
  intro k hk
  obtain ⟨c, hc⟩ := (hF k).1 hk
  exact ⟨_, h1.node c k hc, rfl⟩
theorem TrieF.kept {w w' : World} {p : Nat} {xs : List Ent} {F : List Nat} (h : TrieF w p xs F) (hk : ∀ k ∈ F, w'.heap[k]? = w.heap[k]?) : TrieF w' p xs F := by
  obtain ⟨B, h1, h2, h3, hF⟩ := h
  exact ⟨B, h1.kept fun c b hb => hk b ((hF b).2 ⟨c, hb⟩), h2, h3, hF⟩
theorem TrieF.later {w w' : World} {p : Nat} {xs : List Ent} {F : List Nat} (h : TrieF w p xs F) (hB : Below w.heap.size w w') : TrieF w' p xs F := h.kept fun k hk => hB.block k (h.lt k hk)

theorem TrM.above {w : World} {B : Nat → Option Nat} {v : Nat → Int} (h : TrM w B v) {c : Nat} (hc : 1 ≤ c) : ∀ (j x : Nat), x / 2 ^ j = c → (B x).isSome = true → (B c).isSome = true
  | 0, x, hx, hb => by simp at hx; rwa [hx] at hb
  | j + 1, x, hx, hb => by
    have h1 : x / 2 ^ j / 2 = c := by rw [Nat.div_div_eq_div_mul, ← Nat.pow_succ]; exact hx
    have h2 := h.above (c := x / 2 ^ j) (by omega) j x rfl hb
    cases hn : B c with
    | some b => rfl
    | none =>
      have := h.up c hc hn
      rcases (show x / 2 ^ j = 2 * c ∨ x / 2 ^ j = 2 * c + 1 by omega) with e | e
      · rw [e, this.1] at h2; cases h2
      · rw [e, this.2] at h2; cases h2
theorem TrM.setV {w : World} {B : Nat → Option Nat} {v : Nat → Int} (h : TrM w B v) {c b : Nat} (hb : B c = some b) (n : Int) : TrM (w.setCell ⟨b, 0, none⟩ (.int .i64 n)) B (updV v c n) := by
  refine ⟨fun d k hd => ?_, h.inj, h.dom, h.up, fun d hd => ?_⟩
  · by_cases e : d = c
    · subst e
      rw [hb] at hd
      cases hd
      rw [setCell_eq_setRow _ b 0 _ (tyC d) (0, 0) _ (h.node d b hb), setRow_heap _ b _ _ _ _ (h.node d b hb)]
      simp [updV]
    · have hk : k ≠ b := fun e' => e (h.inj d c b (e' ▸ hd) hb)
      rw [Deep.blk_setCell_other _ _ _ _ hk, h.node d k hd]
      simp [updV, e]
  · have e : d ≠ c := fun e => by rw [e, hb] at hd; cases hd
    simp [updV, e, h.off d hd]

-- Lay, on its way down
def LyI (W0 wr : World) (B : Nat → Option Nat) (F : List Nat) (v : Nat → Int) (A i nb : Nat) : Prop :=
  ∃ B', TrM wr B' v ∧ B' (pcn A i) = some nb ∧ Only F W0 wr ∧ ∀ d, B' d = B d ∨ (B d = none ∧ anc d (pcn A i) ∧ ∃ k, B' d = some k ∧ W0.heap.size ≤ k)

theorem LyI.step {W0 wr w2 : World} {B : Nat → Option Nat} {F : List Nat} {v : Nat → Int} {A i nb s : Nat} (hF : FpB B F) {B' : Nat → Option Nat} (hi : i < 8) (h2 : B' (pcn A i) = some nb) (h3 : Only F W0 wr) (h4 : ∀ d, B' d = B d ∨ (B d = none ∧ anc d (pcn A i) ∧ ∃ k, B' d = some k ∧ W0.heap.size ≤ k))
    (hs : pcn A (i + 1) = 2 * pcn A i + s) {r : Ending} (hp : HalfP wr B' v (pcn A i) nb s r w2) : ∃ nb', r = .returned (ptrV nb') ∧ LyI W0 w2 B F v A (i + 1) nb' := by
  obtain ⟨B2, nb', g1, g2, rfl, g4, g5, g6⟩ := hp
  have hnb : nb ∈ F ∨ W0.heap.size ≤ nb := by
    rcases h4 (pcn A i) with e | ⟨_, _, k, e, hk⟩
    · exact .inl ((hF _).2 ⟨_, by rw [← e]; exact h2⟩)
    · rw [h2] at e; cases e; exact .inr hk
  have hup : anc (pcn A i) (pcn A (i + 1)) := pcn_anc A (by omega) (by omega)
  refine ⟨nb', rfl, B2, g1, by rw [hs]; exact g2, h3.trans g4 (fun x hx => by simp at hx; subst hx; exact hnb), fun d => ?_⟩
  by_cases hd : d = 2 * pcn A i + s
  · subst hd
    rcases g6 with g6 | ⟨g6, g7⟩
    · rcases h4 (2 * pcn A i + s) with e | ⟨e1, e2, k, e3, e4⟩
      · exact .inl (by rw [g2, ← g6, e])
      · exact .inr ⟨e1, hs ▸ anc_refl _, nb', g2, by rw [g6] at e3; cases e3; exact e4⟩
    · refine .inr ⟨?_, hs ▸ anc_refl _, nb', g2, by have := h3.size; omega⟩
      rcases h4 (2 * pcn A i + s) with e | ⟨e1, _⟩
      · rw [← e]; exact g6
      · exact e1
  · rw [g5 d hd]
    rcases h4 d with e | ⟨e1, e2, k, e3, e4⟩
    · exact .inl e
    · exact .inr ⟨e1, anc_trans e2 hup, k, e3, e4⟩

theorem LyI.done {w W0 wr : World} {p : Nat} {B : Nat → Option Nat} {F : List Nat} {xs ys : List Ent} {A l nb : Nat} {n : Int} (hB0 : Below w.heap.size w W0) (hF : FpB B F) (hp : B 1 = some p) (hx : ExB B (vE xs)) (h : LyI W0 wr B F (vE xs) A l nb) (hn : n ≠ 0) (hv : vE ys = updV (vE xs) (pcn A l) n) :
    (∃ F', TrieF (wr.setCell ⟨nb, 0, none⟩ (.int .i64 n)) p ys F' ∧ NewF w F F') ∧ Only F w (wr.setCell ⟨nb, 0, none⟩ (.int .i64 n)) := by
  obtain ⟨B', h1, h2, h3, h4⟩ := h
  have hs := h1.setV h2 n
  rw [← hv] at hs
  have hnb : nb ∈ F ∨ W0.heap.size ≤ nb := by
    rcases h4 (pcn A l) with e | ⟨_, _, k, e, hk⟩
    · exact .inl ((hF _).2 ⟨_, by rw [← e]; exact h2⟩)
    · rw [h2] at e; cases e; exact .inr hk
  obtain ⟨F2, hF2⟩ := fp_ex hs
  refine ⟨⟨F2, ⟨B', hs, ?_, fun c hc => ?_, hF2⟩, fun k hk => ?_⟩, ?_⟩
  · rcases h4 1 with e | ⟨e, _⟩
    · rw [e]; exact hp
    · rw [hp] at e; cases e
  · rw [hv]
    by_cases ha : anc c (pcn A l)
    · obtain ⟨j, hj⟩ := ha
      exact ⟨fun _ => nd_on ⟨j, hj⟩ hn, fun _ => h1.above (by omega) j _ hj (by rw [h2]; rfl)⟩
    · rw [nd_off ha]
      rcases h4 c with e | ⟨_, e, _⟩
      · rw [e]; exact hx c hc
      · exact absurd e ha
  · obtain ⟨c, hc⟩ := (hF2 k).1 hk
    rcases h4 c with e | ⟨_, _, k', e, hk'⟩
    · exact .inl ((hF k).2 ⟨c, by rw [← e]; exact hc⟩)
    · rw [hc] at e; cases e; exact .inr (by have := hB0.size; omega)
  · have hO : Only [nb] wr (wr.setCell ⟨nb, 0, none⟩ (.int .i64 n)) := ⟨rfl, rfl, rfl, by simp, fun k hk hk' => Deep.blk_setCell_other _ _ _ _ (by simpa using hk')⟩
    exact ((Only.of_below F hB0).trans h3 (fun x hx => .inl hx)).trans hO (fun x hx => by simp at hx; subst hx; exact hnb.imp id (fun h => by have := hB0.size; omega))

set_option maxHeartbeats 800000 in
theorem trLay_any (p : Nat) (xs : List Ent) (F : List Nat) (a l n : Int) (w : World) (hT : TrieF w p xs F) (hsx : Sorted xs) (hk : ∀ x ∈ xs, okE x) (hr : okE ⟨a, l, n⟩) :
    Calls Try.prog 104 #[ptrV p, rteV a l n] w fun r w' => (∃ F', TrieF w' p (putE xs a l n) F' ∧ NewF w F F') ∧ Only F w w' ∧ r = .returned (.int .i64 (orZ (getE xs a l))) := by
  have hFl := hT.lt
  obtain ⟨B, hM, hp, hx, hF⟩ := hT
  obtain ⟨l0, l8, a0, a1, _⟩ := (isPfx_iff a l).1 hr.1
  have hv := vE_put hsx hk hr
  have hget := vE_get hk hr.1
  have hn0 : n ≠ 0 := by have := hr.2.1; simp only at this; omega
  obtain ⟨L, rfl⟩ : ∃ L : Nat, l = L := ⟨l.toNat, by omega⟩
  have hpc : pcE a L = pcn a.toNat L := rfl
  simp only [hpc] at hv hget
  have hB0 : Below w.heap.size w (w.alloc (.cells #[.int .i64 a, .int .i64 (L : Int), .int .i64 n] 90)) := (Below.refl _ w).alloc (Nat.le_refl _) _
  have hM0 := hM.later hB0
  have hpl := hM.lt hp
  have hwF : w.heap.size ∉ F := fun h => by have := hFl _ h; omega
  have hA : a.toNat < 256 := by omega
  have H0 : Hid (LyI (w.alloc (.cells #[.int .i64 a, .int .i64 (L : Int), .int .i64 n] 90)) (w.alloc (.cells #[.int .i64 a, .int .i64 (L : Int), .int .i64 n] 90)) B F (vE xs) a.toNat 0 p) :=
    ⟨B, hM0, by rw [pcn_zero hA]; exact hp, Only.refl _ _, fun d => .inl rfl⟩
  have Hfin : Hid (∀ wr nb, LyI (w.alloc (.cells #[.int .i64 a, .int .i64 (L : Int), .int .i64 n] 90)) wr B F (vE xs) a.toNat L nb → (∃ F', TrieF (wr.setCell ⟨nb, 0, none⟩ (.int .i64 n)) p (putE xs a L n) F' ∧ NewF w F F') ∧ Only F w (wr.setCell ⟨nb, 0, none⟩ (.int .i64 n))) :=
    fun wr nb h => LyI.done hB0 hF hp hx h hn0 hv
  have HF := hide hF
  have Hget := hide hget
  clear hM hM0 hx hv hget hk hsx hB0 hr hF
  go_enter Try.func104, Try.ntmps104
  go_wp2
  go_loopw [5, 13] (fun pn sl wr => ∃ i nb : Nat, i ≤ L ∧ pn = ptrV nb ∧ sl = .int .i64 (i : Int) ∧ Hid (LyI (w.alloc (.cells #[.int .i64 a, .int .i64 (L : Int), .int .i64 n] 90)) wr B F (vE xs) a.toNat i nb)) (fun _ s _ => L - (intOf s).toNat)
  case atStart => exact ⟨0, p, by omega, rfl, rfl, H0⟩
  case round =>
    obtain ⟨i, nb, hi, rfl, rfl, HI⟩ := hrel
    obtain ⟨B', h1, h2, h3, h4⟩ := HI.out
    have hwl : w.heap.size < wr.heap.size := by have := h3.size; simp at this; omega
    have b0 : wr.cell? ⟨w.heap.size, 0, none⟩ = some (.int .i64 a) := (h3.cell (by simp) hwF).trans (by simp [go_sem])
    have b1 : wr.cell? ⟨w.heap.size, 1, none⟩ = some (.int .i64 (L : Int)) := (h3.cell (by simp) hwF).trans (by simp [go_sem])
    have b2 : wr.cell? ⟨w.heap.size, 2, none⟩ = some (.int .i64 n) := (h3.cell (by simp) hwF).trans (by simp [go_sem])
    by_cases hlt : i < L
    · have hw1 : IntKind.i64.wrap ((i : Int) + 1) = (i : Int) + 1 := by rw [IntKind.wrap_i64]; omega
      have hlt' : (i : Int) < (L : Int) := by omega
      obtain ⟨s, hs, hs01⟩ : ∃ s : Nat, sideI a i = (s : Int) ∧ (s = 0 ∨ s = 1) := by
        rcases sideI_bd a i with h | h
        · exact ⟨0, by rw [h]; rfl, .inl rfl⟩
        · exact ⟨1, by rw [h]; rfl, .inr rfl⟩
      have hps : pcn a.toNat (i + 1) = 2 * pcn a.toNat i + s := by
        have := pcn_side (i := i) a0 a1 (by omega)
        rw [hs] at this
        omega
      have hc256 : pcn a.toNat i < 256 := by
        have := (pcn_pos (A := a.toNat) (i := i + 1) hA (by omega)).2
        omega
      have hsd := side_any a i (by omega) (by omega) a0 a1 wr
      rw [hs] at hsd
      have Hsd := hide hsd
      have hhf := hide (half_any wr B' (vE xs) (pcn a.toNat i) nb s h1 h2 hs01 hc256)
      have hst := hide (fun r w2 hp => LyI.step (v := vE xs) (r := r) (w2 := w2) HF.out (by omega) h2 h3 h4 hps hp)
      clear h1 h2 h3 h4 hsd hs hps
      go_wp2_with fail
      refine Hsd.out.mono ?_
      rintro _ w1 ⟨rfl, rfl⟩
      go_wp2_with fail
      refine hhf.out.mono ?_
      rintro r w2 hp2
      obtain ⟨nb', rfl, hI2⟩ := hst.out r w2 hp2
      have HI2 := hide hI2
      clear hp2 hI2 hst hhf Hsd
      go_wp2
      go_roundw
      case rel => exact ⟨i + 1, nb', by omega, rfl, by simp, HI2.out⟩
      case measure => simp [intOf]; omega
    · obtain rfl : i = L := by omega
      have c0 := h1.c0 h2
      have fz := h1.fz h2
      have hnl := h1.lt h2
      have fin := hide (Hfin.out wr nb HI.out)
      have hge : ¬ ((i : Int) < (i : Int)) := by omega
      rw [Hget.out] at c0
      clear h1 h2 h3 h4
      go_wp2
      go_ret
      exact ⟨fin.out.1, fin.out.2, rfl⟩

end Go.Proofs.Ytkihifodifkieaa
