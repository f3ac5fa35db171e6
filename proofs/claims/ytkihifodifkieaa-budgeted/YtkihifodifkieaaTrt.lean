import Derived.Test.YtkihifodifkieaaTeq
namespace Go.Proofs.Ytkihifodifkieaa
open Go.RowKit

-- a half is dropped
theorem TrM.drop {w : World} {B : Nat → Option Nat} {v : Nat → Int} (h : TrM w B v) {c b s : Nat} (hb : B c = some b) (hs : s = 0 ∨ s = 1) (h1 : B (2 * (2 * c + s)) = none) (h2 : B (2 * (2 * c + s) + 1) = none) (hv : v (2 * c + s) = 0) :
    TrM (w.setCell ⟨b, 1 + s, none⟩ (.pointer none)) (fun d => if d = 2 * c + s then none else B d) v := by
  have hc1 := (h.dom c b hb).1
  refine ⟨fun d k hd => ?_, fun d e k hd he => ?_, fun d k hd => ?_, fun d hd1 hd => ?_, fun d hd => ?_⟩
  · by_cases e1 : d = 2 * c + s
    · rw [if_pos e1] at hd; cases hd
    · rw [if_neg e1] at hd
      by_cases e2 : d = c
      · subst e2
        rw [hb] at hd
        cases hd
        rw [setCell_eq_setRow _ b (1 + s) _ (tyC d) (0, 0) _ (h.node d b hb), setRow_heap _ b _ _ _ _ (h.node d b hb)]
        rcases hs with rfl | rfl
        · rw [if_pos (by omega), if_neg (by omega)]; rfl
        · rw [if_neg (by omega), if_pos (by omega)]; rfl
      · have hkb : k ≠ b := fun e => e2 (h.inj d c b (e ▸ hd) hb)
        rw [Deep.blk_setCell_other _ _ _ _ hkb, h.node d k hd]
        have hcs : ∀ x, x / 2 = d → (if x = 2 * c + s then none else B x) = B x := fun x hx => if_neg (by omega)
        rw [hcs (2 * d) (by omega), hcs (2 * d + 1) (by omega)]
  · by_cases e1 : d = 2 * c + s
    · rw [if_pos e1] at hd; cases hd
    · by_cases e2 : e = 2 * c + s
      · rw [if_pos e2] at he; cases he
      · rw [if_neg e1] at hd; rw [if_neg e2] at he; exact h.inj d e k hd he
  · by_cases e1 : d = 2 * c + s
    · rw [if_pos e1] at hd; cases hd
    · rw [if_neg e1] at hd; exact h.dom d k hd
  · by_cases e1 : d = 2 * c + s
    · subst e1
      rw [if_neg (by omega), if_neg (by omega)]; exact ⟨h1, h2⟩
    · rw [if_neg e1] at hd
      have h3 := h.up d hd1 hd
      constructor <;> (split; rfl)
      · exact h3.1
      · exact h3.2
  · by_cases e1 : d = 2 * c + s
    · rw [e1]; exact hv
    · rw [if_neg e1] at hd; exact h.off d hd

-- behind take, at the node c: what stood at x is gone, and what is not needed any more beneath c
def TkB (B B' : Nat → Option Nat) (v : Nat → Int) (c x : Nat) : Prop :=
  (∀ d, anc c d → d ≠ c → ((B' d).isSome = true ↔ nd (updV v x 0) d)) ∧ (∀ d, ¬ (anc c d ∧ d ≠ c) → B' d = B d) ∧ (∀ d, B' d = B d ∨ B' d = none)

theorem TkB.here {B : Nat → Option Nat} {v : Nat → Int} {x : Nat} (hx : ExB B v) (h1 : 1 ≤ x) : TkB B B v x x := by
  refine ⟨fun d hd hn => ?_, fun _ _ => rfl, fun _ => .inl rfl⟩
  have h2 : ¬ anc d x := fun h => hn (anc_antisymm h hd)
  have := anc_le hd
  rw [nd_off h2]
  exact hx d (by omega)
theorem TkB.none {B : Nat → Option Nat} {v : Nat → Int} {c x : Nat} (hx : ExB B v) (hv : v x = 0) (h1 : 1 ≤ c) : TkB B B v c x := by
  refine ⟨fun d hd hn => ?_, fun _ _ => rfl, fun _ => .inl rfl⟩
  have := anc_le hd
  rw [updV_same hv]
  exact hx d (by omega)
theorem half_anc {c s : Nat} (hs : s = 0 ∨ s = 1) : anc c (2 * c + s) := ⟨1, by omega⟩
theorem TkB.off {c s d x : Nat} (hs : s = 0 ∨ s = 1) (hh : anc (2 * c + s) x) (h1 : anc c d) (h2 : d ≠ c) (h3 : ¬ anc (2 * c + s) d) : ¬ anc d x := fun hd => by
  rcases anc_lin hh hd with h | h
  · exact h3 h
  · have hne : 2 * c + s ≠ d := fun e => h3 (e ▸ anc_refl _)
    have h4 := anc_parent h hne
    rw [show (2 * c + s) / 2 = c by omega] at h4
    exact h2 (anc_antisymm h4 h1)
theorem TkB.keep {B B1 : Nat → Option Nat} {v : Nat → Int} {c s x : Nat} (hs : s = 0 ∨ s = 1) (h1 : 1 ≤ c) (hx : ExB B v) (hh : anc (2 * c + s) x) (hB : (B (2 * c + s)).isSome = true) (h : TkB B B1 v (2 * c + s) x) (hn : nd (updV v x 0) (2 * c + s)) : TkB B B1 v c x := by
  obtain ⟨q1, q2, q3⟩ := h
  have q4 := q2 (2 * c + s) (fun h => h.2 rfl)
  refine ⟨fun d hd hne => ?_, fun d hd => q2 d (fun h => hd ⟨anc_trans (half_anc hs) h.1, fun e => by have := anc_le h.1; omega⟩), q3⟩
  by_cases e : d = 2 * c + s
  · subst e; rw [q4]; exact ⟨fun _ => hn, fun _ => hB⟩
  · by_cases e2 : anc (2 * c + s) d
    · exact q1 d e2 e
    · have := anc_le hd
      rw [q2 d (fun h => e2 h.1), nd_off (TkB.off hs hh hd hne e2)]
      exact hx d (by omega)
theorem TkB.cut {B B1 : Nat → Option Nat} {v : Nat → Int} {c s x : Nat} (hs : s = 0 ∨ s = 1) (h1 : 1 ≤ c) (hx : ExB B v) (hh : anc (2 * c + s) x) (h : TkB B B1 v (2 * c + s) x) (hn : ¬ nd (updV v x 0) (2 * c + s)) : TkB B (fun d => if d = 2 * c + s then Option.none else B1 d) v c x := by
  obtain ⟨q1, q2, q3⟩ := h
  refine ⟨fun d hd hne => ?_, fun d hd => ?_, fun d => ?_⟩ <;> dsimp only
  · by_cases e : d = 2 * c + s
    · rw [if_pos e, e]; exact ⟨fun h => (by cases h), fun h => absurd h hn⟩
    · rw [if_neg e]
      by_cases e2 : anc (2 * c + s) d
      · exact q1 d e2 e
      · have := anc_le hd
        rw [q2 d (fun h => e2 h.1), nd_off (TkB.off hs hh hd hne e2)]
        exact hx d (by omega)
  · have e : d ≠ 2 * c + s := fun e => hd ⟨e ▸ half_anc hs, by omega⟩
    rw [if_neg e]
    exact q2 d (fun h => hd ⟨anc_trans (half_anc hs) h.1, fun e => by have := anc_le h.1; omega⟩)
  · by_cases e : d = 2 * c + s
    · rw [if_pos e]; exact .inr rfl
    · rw [if_neg e]; exact q3 d
-- when a half is empty
theorem TkB.empty {B B1 : Nat → Option Nat} {v : Nat → Int} {h x : Nat} (h1 : 1 ≤ h) (q : TkB B B1 v h x) : ¬ nd (updV v x 0) h ↔ (updV v x 0) h = 0 ∧ B1 (2 * h) = Option.none ∧ B1 (2 * h + 1) = Option.none := by
  have a1 := q.1 (2 * h) ⟨1, by omega⟩ (by omega)
  have a2 := q.1 (2 * h + 1) ⟨1, by omega⟩ (by omega)
  rw [nd_iff]
  constructor
  · intro hn
    refine ⟨Decidable.byContradiction fun e => hn (.inl e), ?_, ?_⟩
    · cases e : B1 (2 * h) with
      | none => rfl
      | some k => exact absurd (.inr (.inl (a1.1 (by rw [e]; rfl)))) hn
    · cases e : B1 (2 * h + 1) with
      | none => rfl
      | some k => exact absurd (.inr (.inr (a2.1 (by rw [e]; rfl)))) hn
  · rintro ⟨e1, e2, e3⟩ (h | h | h)
    · exact h e1
    · have := a1.2 h; rw [e2] at this; cases this
    · have := a2.2 h; rw [e3] at this; cases this

def TakeP (w : World) (B : Nat → Option Nat) (F : List Nat) (v : Nat → Int) (c x : Nat) (r : Ending) (w' : World) : Prop :=
  r = .returned (.int .i64 (v x)) ∧ Only F w w' ∧ ∃ B', TrM w' B' (updV v x 0) ∧ TkB B B' v c x

abbrev pfxO (a l : Int) : Obj := .cells #[.int .i64 a, .int .i64 l] 54

set_option maxHeartbeats 800000 in
theorem take_here (w : World) (B : Nat → Option Nat) (F : List Nat) (v : Nat → Int) (a : Int) (L b : Nat) (h : TrM w B v) (hx : ExB B v) (hF : FpB B F) (hb : B (pcn a.toNat L) = some b) :
    Calls Try.prog 109 #[ptrV b, pfxV a L, .int .i64 L] w (TakeP w B F v (pcn a.toNat L) (pcn a.toNat L)) := by
  have hbl := h.lt hb
  have c0 := h.c0 hb
  have fz := h.fz hb
  have n1 : w.heap.size ≠ b := by omega
  have n2 : b ≠ w.heap.size := by omega
  have hc1 := (h.dom _ b hb).1
  have hs := h.setV hb 0
  have fin := hide (show TakeP w B F v (pcn a.toNat L) (pcn a.toNat L) (.returned (.int .i64 (v (pcn a.toNat L)))) ((w.setCell ⟨b, 0, none⟩ (.int .i64 0)).alloc (pfxO a L)) from
    ⟨rfl, ⟨rfl, rfl, rfl, by simp, fun k hk hk' => by
      have : k ≠ b := fun e => hk' (e ▸ (hF b).2 ⟨_, hb⟩)
      rw [Below.heap_alloc _ _ _ (by simpa using hk), Deep.blk_setCell_other _ _ _ _ this]⟩, B, hs.later ((Below.refl _ _).alloc (Nat.le_refl _) _), TkB.here hx hc1⟩)
  clear h hx hF hs
  generalize v (pcn a.toNat L) = old at *
  go_enter Try.func109, Try.ntmps109
  go_wp2
  go_ret
  exact fin.out

theorem upd_anc {v : Nat → Int} {B : Nat → Option Nat} {h x : Nat} (hx : ExB B v) (h2 : 2 ≤ h) (hh : anc h x) (hn : B h = none) : v x = 0 := by
  have h3 : ¬ nd v h := fun e => by have := (hx h h2).2 e; rw [hn] at this; cases this
  exact Decidable.byContradiction fun e => h3 ⟨x, hh, e⟩

set_option maxHeartbeats 800000 in
theorem take_void (w : World) (B : Nat → Option Nat) (F : List Nat) (v : Nat → Int) (a : Int) (L i b s : Nat) (h : TrM w B v) (hx : ExB B v) (hb : B (pcn a.toNat i) = some b) (hiL : i < L) (hL : L ≤ 8) (a0 : 0 ≤ a) (a1 : a < 256)
    (hs : sideI a i = (s : Int)) (hs01 : s = 0 ∨ s = 1) (hps : pcn a.toNat (i + 1) = 2 * pcn a.toNat i + s) (hn : B (2 * pcn a.toNat i + s) = none) :
    Calls Try.prog 109 #[ptrV b, pfxV a L, .int .i64 i] w (TakeP w B F v (pcn a.toNat i) (pcn a.toNat L)) := by
  have hbl := h.lt hb
  have hbl1 : b < w.heap.size + 1 := by omega
  have c1 := h.c1 hb
  have c2 := h.c2 hb
  have hc1 := (h.dom _ b hb).1
  have hanc : anc (2 * pcn a.toNat i + s) (pcn a.toNat L) := hps ▸ pcn_anc _ (by omega) hL
  have hvx := upd_anc hx (by omega) hanc hn
  have fin := hide (show TakeP w B F v (pcn a.toNat i) (pcn a.toNat L) (.returned (.int .i64 0)) (w.alloc (pfxO a L)) from
    ⟨by rw [hvx], Only.of_below _ ((Below.refl _ w).alloc (Nat.le_refl _) _), B, by rw [updV_same hvx]; exact h.later ((Below.refl _ w).alloc (Nat.le_refl _) _), TkB.none hx hvx hc1⟩)
  have hsd := side_any a i (by omega) (by omega) a0 a1 (w.alloc (pfxO a L))
  rw [hs] at hsd
  have Hsd := hide hsd
  have hne : ((i : Int) == (L : Int)) = false := by simp; omega
  clear h hx hsd
  rcases hs01 with rfl | rfl
  · rw [Nat.add_zero] at hn
    rw [hn, ptrO_none] at c1
    clear hn c2 hs
    go_enter Try.func109, Try.ntmps109
    go_wp2_with fail
    refine Hsd.out.mono ?_
    rintro _ w1 ⟨rfl, rfl⟩
    go_wp2
    go_ret
    exact fin.out
  · rw [hn, ptrO_none] at c2
    clear hn c1 hs
    go_enter Try.func109, Try.ntmps109
    go_wp2_with fail
    refine Hsd.out.mono ?_
    rintro _ w1 ⟨rfl, rfl⟩
    go_wp2
    go_ret
    exact fin.out

-- behind the call for the half
theorem TakeP.up {w w2 w3 : World} {B B' : Nat → Option Nat} {F : List Nat} {v : Nat → Int} {c x : Nat} {r : Ending} (hB : Below w.heap.size w w2) (hO : Only F w2 w3) (hr : r = .returned (.int .i64 (v x))) (hM : TrM w3 B' (updV v x 0)) (hT : TkB B B' v c x) : TakeP w B F v c x r w3 :=
  ⟨hr, (Only.of_below F hB).trans hO (fun _ h => .inl h), B', hM, hT⟩

set_option maxHeartbeats 1600000 in
theorem take_down (w : World) (B : Nat → Option Nat) (F : List Nat) (v : Nat → Int) (a : Int) (L i b s hb' : Nat) (h : TrM w B v) (hx : ExB B v) (hF : FpB B F) (hb : B (pcn a.toNat i) = some b) (hiL : i < L) (hL : L ≤ 8) (a0 : 0 ≤ a) (a1 : a < 256)
    (hs : sideI a i = (s : Int)) (hs01 : s = 0 ∨ s = 1) (hps : pcn a.toNat (i + 1) = 2 * pcn a.toNat i + s) (hn : B (2 * pcn a.toNat i + s) = some hb')
    (ih : ∀ W, Below w.heap.size w W → Calls Try.prog 109 #[ptrV hb', pfxV a L, .int .i64 ((i : Int) + 1)] W (TakeP W B F v (2 * pcn a.toNat i + s) (pcn a.toNat L))) :
    Calls Try.prog 109 #[ptrV b, pfxV a L, .int .i64 i] w (TakeP w B F v (pcn a.toNat i) (pcn a.toNat L)) := by
  have hbl := h.lt hb
  have hbl1 : b < w.heap.size + 1 := by omega
  have c1 := h.c1 hb
  have c2 := h.c2 hb
  have hc1 := (h.dom _ b hb).1
  have hanc : anc (2 * pcn a.toNat i + s) (pcn a.toNat L) := hps ▸ pcn_anc _ (by omega) hL
  have hsd := side_any a i (by omega) (by omega) a0 a1 (w.alloc (pfxO a L))
  rw [hs] at hsd
  have Hsd := hide hsd
  have hne : ((i : Int) == (L : Int)) = false := by simp; omega
  have hB1 : Below w.heap.size w (w.alloc (pfxO a L)) := (Below.refl _ w).alloc (Nat.le_refl _) _
  have Hih := hide (ih _ hB1)
  have hw1 : IntKind.i64.wrap ((i : Int) + 1) = (i : Int) + 1 := by rw [IntKind.wrap_i64]; omega
  have hwF : w.heap.size ∉ F := fun hh => by obtain ⟨c, hc⟩ := (hF _).1 hh; have := h.lt hc; omega
  have hbF : b ∈ F := (hF b).2 ⟨_, hb⟩
  have hhs : (B (2 * pcn a.toNat i + s)).isSome = true := by rw [hn]; rfl
  -- what is found behind it
  have Hafter := hide (show ∀ (w2 : World) (r : Ending), TakeP (w.alloc (pfxO a L)) B F v (2 * pcn a.toNat i + s) (pcn a.toNat L) r w2 →
      r = .returned (.int .i64 (v (pcn a.toNat L))) ∧ ∃ (nv : Int) (o1 o2 : Option Nat), w2.cell? ⟨hb', 0, none⟩ = some (.int .i64 nv) ∧ w2.cell? ⟨hb', 1, none⟩ = some (ptrO o1) ∧ w2.cell? ⟨hb', 2, none⟩ = some (ptrO o2) ∧ (∃ z, w2.cell? ⟨b, 1 + s, none⟩ = some z) ∧ (∀ o, w2.frozen? ⟨b, o, none⟩ = false) ∧ b < w2.heap.size ∧ hb' < w2.heap.size ∧
        ((nv = 0 ∧ o1 = none ∧ o2 = none) → TakeP w B F v (pcn a.toNat i) (pcn a.toNat L) (.returned (.int .i64 (v (pcn a.toNat L)))) (w2.setCell ⟨b, 1 + s, none⟩ (.pointer none))) ∧
        (¬ (nv = 0 ∧ o1 = none ∧ o2 = none) → TakeP w B F v (pcn a.toNat i) (pcn a.toNat L) (.returned (.int .i64 (v (pcn a.toNat L)))) w2) by
    rintro w2 r ⟨rfl, hO, B1, hM1, hT1⟩
    have e1 : B1 (2 * pcn a.toNat i + s) = some hb' := (hT1.2.1 _ (fun h => h.2 rfl)).trans hn
    have e2 : B1 (pcn a.toNat i) = some b := (hT1.2.1 _ (fun h => by have := anc_le h.1; omega)).trans hb
    have hem := hT1.empty (by omega)
    refine ⟨rfl, _, _, _, hM1.c0 e1, hM1.c1 e1, hM1.c2 e1, ?_, hM1.fz e2, hM1.lt e2, hM1.lt e1, fun hz => ?_, fun hz => ?_⟩
    · rcases hs01 with rfl | rfl
      · exact ⟨_, hM1.c1 e2⟩
      · exact ⟨_, hM1.c2 e2⟩
    · have hnd := hem.2 hz
      refine TakeP.up hB1 (hO.trans (G := [b]) ⟨rfl, rfl, rfl, by simp, fun k _ hk' => Deep.blk_setCell_other _ _ _ _ (by simpa using hk')⟩ (fun x hx => by simp at hx; subst hx; exact .inl hbF)) rfl (hM1.drop e2 hs01 hz.2.1 hz.2.2 hz.1) (TkB.cut hs01 hc1 hx hanc hT1 hnd)
    · have hnd : nd (updV v (pcn a.toNat L) 0) (2 * pcn a.toNat i + s) := Classical.byContradiction fun e => hz (hem.1 e)
      exact TakeP.up hB1 hO rfl hM1 (TkB.keep hs01 hc1 hx hanc hhs hT1 hnd))
  clear h hx hsd ih hF hhs hB1 hwF hbF hanc hps
  generalize TakeP w B F v (pcn a.toNat i) (pcn a.toNat L) = post at *
  rcases hs01 with rfl | rfl
  · rw [Nat.add_zero] at hn
    rw [hn, ptrO_some] at c1
    clear hn c2 hs hb
    go_enter Try.func109, Try.ntmps109
    go_wp2_with fail
    refine Hsd.out.mono ?_
    rintro _ w1 ⟨rfl, rfl⟩
    go_wp2_with fail
    refine Hih.out.mono ?_
    rintro r w2 hp
    obtain ⟨rfl, nv, o1, o2, d0, d1, d2, ⟨z, d3⟩, fz, l1, l2, g1, g2⟩ := Hafter.out w2 r hp
    clear Hafter Hih hp Hsd
    obtain ⟨q1, e1, e1n⟩ : ∃ q1 : Option Addr, ptrO o1 = .pointer q1 ∧ q1.isNone = o1.isNone := by cases o1 <;> exact ⟨_, rfl, rfl⟩
    obtain ⟨q2, e2, e2n⟩ : ∃ q2 : Option Addr, ptrO o2 = .pointer q2 ∧ q2.isNone = o2.isNone := by cases o2 <;> exact ⟨_, rfl, rfl⟩
    rw [e1] at d1
    rw [e2] at d2
    have heq := arr_eql w2 q1 q2
    rw [e1n, e2n] at heq
    clear e1 e2 e1n e2n
    by_cases hnv : nv = 0
    · subst hnv
      cases hob : (o1.isNone && o2.isNone) with
      | true =>
        rw [hob] at heq
        have fin := hide (g1 ⟨rfl, by simpa using hob⟩)
        clear g1 g2 hob
        go_wp2
        exact fin.out
      | false =>
        rw [hob] at heq
        have fin := hide (g2 (fun h => by rw [h.2.1, h.2.2] at hob; cases hob))
        clear g1 g2 hob
        go_wp2
        exact fin.out
    · have fin := hide (g2 (fun h => hnv h.1))
      have hnv' : (nv == 0) = false := by simpa using hnv
      clear g1 g2 heq
      go_wp2
      exact fin.out
  · rw [hn, ptrO_some] at c2
    clear hn c1 hs hb
    go_enter Try.func109, Try.ntmps109
    go_wp2_with fail
    refine Hsd.out.mono ?_
    rintro _ w1 ⟨rfl, rfl⟩
    go_wp2_with fail
    refine Hih.out.mono ?_
    rintro r w2 hp
    obtain ⟨rfl, nv, o1, o2, d0, d1, d2, ⟨z, d3⟩, fz, l1, l2, g1, g2⟩ := Hafter.out w2 r hp
    clear Hafter Hih hp Hsd
    obtain ⟨q1, e1, e1n⟩ : ∃ q1 : Option Addr, ptrO o1 = .pointer q1 ∧ q1.isNone = o1.isNone := by cases o1 <;> exact ⟨_, rfl, rfl⟩
    obtain ⟨q2, e2, e2n⟩ : ∃ q2 : Option Addr, ptrO o2 = .pointer q2 ∧ q2.isNone = o2.isNone := by cases o2 <;> exact ⟨_, rfl, rfl⟩
    rw [e1] at d1
    rw [e2] at d2
    have heq := arr_eql w2 q1 q2
    rw [e1n, e2n] at heq
    clear e1 e2 e1n e2n
    by_cases hnv : nv = 0
    · subst hnv
      cases hob : (o1.isNone && o2.isNone) with
      | true =>
        rw [hob] at heq
        have fin := hide (g1 ⟨rfl, by simpa using hob⟩)
        clear g1 g2 hob
        go_wp2
        exact fin.out
      | false =>
        rw [hob] at heq
        have fin := hide (g2 (fun h => by rw [h.2.1, h.2.2] at hob; cases hob))
        clear g1 g2 hob
        go_wp2
        exact fin.out
    · have fin := hide (g2 (fun h => hnv h.1))
      have hnv' : (nv == 0) = false := by simpa using hnv
      clear g1 g2 heq
      go_wp2
      exact fin.out

theorem side_nat (a : Int) (i : Nat) : ∃ s : Nat, sideI a i = (s : Int) ∧ (s = 0 ∨ s = 1) := by
  rcases sideI_bd a i with h | h
  · exact ⟨0, by rw [h]; rfl, .inl rfl⟩
  · exact ⟨1, by rw [h]; rfl, .inr rfl⟩

theorem take_any (B : Nat → Option Nat) (F : List Nat) (v : Nat → Int) (a : Int) (L : Nat) (hx : ExB B v) (hF : FpB B F) (hL : L ≤ 8) (a0 : 0 ≤ a) (a1 : a < 256) :
    ∀ (k i b : Nat) (w : World), i + k = L → TrM w B v → B (pcn a.toNat i) = some b → Calls Try.prog 109 #[ptrV b, pfxV a L, .int .i64 i] w (TakeP w B F v (pcn a.toNat i) (pcn a.toNat L))
  | 0, i, b, w, hk, h, hb => by
    obtain rfl : i = L := by omega
    exact take_here w B F v a i b h hx hF hb
  | k + 1, i, b, w, hk, h, hb => by
    obtain ⟨s, hs, hs01⟩ := side_nat a i
    have hps : pcn a.toNat (i + 1) = 2 * pcn a.toNat i + s := by
      have := pcn_side (i := i) a0 a1 (by omega)
      rw [hs] at this
      omega
    cases hn : B (2 * pcn a.toNat i + s) with
    | none => exact take_void w B F v a L i b s h hx hb (by omega) hL a0 a1 hs hs01 hps hn
    | some hb' =>
      refine take_down w B F v a L i b s hb' h hx hF hb (by omega) hL a0 a1 hs hs01 hps hn (fun W hW => ?_)
      have := take_any B F v a L hx hF hL a0 a1 k (i + 1) hb' W (by omega) (h.later hW) (by rw [hps]; exact hn)
      rw [hps] at this
      exact this

set_option maxHeartbeats 400000 in
theorem trTake_any (p : Nat) (xs : List Ent) (F : List Nat) (a l : Int) (w : World) (hT : TrieF w p xs F) (hsx : Sorted xs) (hk : ∀ x ∈ xs, okE x) (hr : isPfx a l = true) :
    Calls Try.prog 105 #[ptrV p, pfxV a l] w fun r w' => (∃ F', TrieF w' p (delE xs a l) F' ∧ NewF w F F') ∧ Only F w w' ∧ r = .returned (.int .i64 (orZ (getE xs a l))) := by
  have hFl := hT.lt
  obtain ⟨B, hM, hp, hx, hF⟩ := hT
  obtain ⟨l0, l8, a0, a1, _⟩ := (isPfx_iff a l).1 hr
  have hv := vE_del hsx hk hr
  have hget := vE_get hk hr
  obtain ⟨L, rfl⟩ : ∃ L : Nat, l = L := ⟨l.toNat, by omega⟩
  have hpc : pcE a L = pcn a.toNat L := rfl
  simp only [hpc] at hv hget
  have hB0 : Below w.heap.size w (w.alloc (pfxO a L)).drew := ((Below.refl _ w).alloc (Nat.le_refl _) _).drew
  have hA : a.toNat < 256 := by omega
  have htk := take_any B F (vE xs) a L hx hF (by omega) a0 a1 L 0 p (w.alloc (pfxO a L)).drew (by omega) (hM.later hB0) (by rw [pcn_zero hA]; exact hp)
  have hwF : w.heap.size ∉ F := fun h => by have := hFl _ h; omega
  have fin := hide (show ∀ r w2, TakeP (w.alloc (pfxO a L)).drew B F (vE xs) (pcn a.toNat 0) (pcn a.toNat L) r w2 → r = .returned (.int .i64 (orZ (getE xs a L))) ∧ (∀ o, w2.cell? ⟨w.heap.size, o, none⟩ = (w.alloc (pfxO a L)).drew.cell? ⟨w.heap.size, o, none⟩) ∧ (∃ F', TrieF w2 p (delE xs a L) F' ∧ NewF w F F') ∧ Only F w w2 by
    rintro r w2 ⟨rfl, hO, B', h1, h2, h3, h4⟩
    rw [pcn_zero hA] at h2 h3
    rw [← hv] at h1 h2
    have e1 : B' 1 = some p := (h3 1 (fun h => h.2 rfl)).trans hp
    obtain ⟨F2, hF2⟩ := fp_ex h1
    refine ⟨by rw [hget], fun o => hO.cell (by simp) hwF, ⟨F2, ⟨B', h1, e1, fun c hc => ?_, hF2⟩, fun k hk => ?_⟩, (Only.of_below F hB0).trans hO (fun x hx => .inl hx)⟩
    · by_cases ha : anc 1 c
      · exact h2 c ha (by omega)
      · have hbc : B' c = none := by
          cases hb : B' c with
          | none => rfl
          | some b =>
            exfalso
            refine ha ?_
            have hd := h1.dom c b hb
            have : ∀ n c, c < n → 1 ≤ c → anc 1 c := by
              intro n
              induction n with
              | zero => intro c hc _; omega
              | succ n ih =>
                intro c hc h1
                by_cases e : c = 1
                · rw [e]; exact anc_refl 1
                · exact anc_trans (ih (c / 2) (by omega) (by omega)) ⟨1, by simp⟩
            exact this (c + 1) c (by omega) hd.1
        have hnd : ¬ nd (vE (delE xs a L)) c := fun ⟨d, hd, hvd⟩ => by
          have : ∀ n c, c < n → 1 ≤ c → anc 1 c := by
            intro n
            induction n with
            | zero => intro c hc _; omega
            | succ n ih =>
              intro c hc h1
              by_cases e : c = 1
              · rw [e]; exact anc_refl 1
              · exact anc_trans (ih (c / 2) (by omega) (by omega)) ⟨1, by simp⟩
          exact ha (this (c + 1) c (by omega) (by omega))
        rw [hbc]
        exact ⟨fun h => (by cases h), fun h => absurd h hnd⟩
    · obtain ⟨c, hc⟩ := (hF2 k).1 hk
      rcases h4 c with e | e
      · exact .inl ((hF k).2 ⟨c, by rw [← e]; exact hc⟩)
      · rw [hc] at e; cases e)
  have Htk := hide htk
  have hpl := hM.lt hp
  clear htk hM hx hF hv hget hB0
  go_enter Try.func105, Try.ntmps105
  go_wp2
  go_region_held3 (fun w' => w'.cell? ⟨w.heap.size, 0, none⟩ = some (.int .i64 a) ∧ w'.cell? ⟨w.heap.size, 1, none⟩ = some (.int .i64 (L : Int))) (go_keep)
    (first
      | (go_at_call 109; refine Htk.out.mono ?_; rintro r w2 hp2; obtain ⟨rfl, hc2, hq⟩ := fin.out r w2 hp2))
  have Hq := hide hq
  clear hq hc2 hp2 fin Htk
  go_wp2
  go_ret
  exact ⟨Hq.out.1, Hq.out.2, rfl⟩

end Go.Proofs.Ytkihifodifkieaa
