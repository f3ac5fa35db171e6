import Derived.Test.YtglbamalagacgaaGreatA9
import Derived.Test.YtglbamalagacgaaGreatB1
import Derived.Test.YtglbamalagacgaaGreatL1
namespace Go.Proofs.YtglbamalagacgaaGreat
open Go.RowKit Go.Shelf

attribute [local go_sem] Oper.semAt_some

-- CHANGES THAT CAME IN
def ChgsAt (w : World) (v : Value) (cs : List Chg) : Prop := ∃ a cap, v = .slice a cs.length cap ∧ cs.length ≤ maxLen ∧ ∀ i x, cs[i]? = some x → ∃ A, a = some A ∧ A.block < w.heap.size ∧
  w.cell? (A.add (i * 3)) = some (.int .i64 x.a) ∧ w.cell? ⟨(A.add (i * 3)).block, (A.add (i * 3)).off + 1, none⟩ = some (.int .i64 x.l) ∧ w.cell? ⟨(A.add (i * 3)).block, (A.add (i * 3)).off + 2, none⟩ = some (.int .i64 x.n)

theorem addB (A : Addr) (n : Nat) : (A.add n).block = A.block := by unfold Addr.add; split <;> rfl
theorem rank_m (a l : Int) (m : Nat) (h : isPfx a l = true) (hm : 9 * a + l = (m : Int)) (w : World) :
    Calls Tryz.prog 43 #[.int .i64 a, .int .i64 l] w fun e w' => e = .returned (.int .i64 (m : Int)) ∧ w' = w := by
  have := rank_any a l h w
  rwa [hm] at this
-- WHAT THE LAW TRIES
def tryC : List Chg → (Nat → Int) → Nat → (Nat → Int) × Nat × Int
  | [], rs, i => (rs, i, 0)
  | x :: cs, rs, i => if isPfx x.a x.l = false then (rs, i, 2) else if x.n < 0 ∨ 255 < x.n then (rs, i, 3) else if x.n = 0 ∧ rs (9 * x.a + x.l).toNat = 0 then (rs, i, 5) else tryC cs (upd rs (9 * x.a + x.l).toNat x.n) (i + 1)

theorem copyRow (w : World) (g : Nat) (rs : Nat → Int) (M : Array Value) (hM : M.size = 2304) (h : RowR w g rs) :
    ∃ W2, (∀ ty, (Builtin.copy_ #[41, 41] ty #[.slice (some ⟨w.heap.size, 0, none⟩) 2304 2304, .slice (some ⟨g, 0, none⟩) 2304 2304]).run Tryz.prog (w.alloc (.cells M 3)) = .ok (.int .i64 2304) W2) ∧ RowR W2 w.heap.size rs ∧ Below w.heap.size w W2 := by
  obtain ⟨cs, h3, h4, h5⟩ := h
  have hg := (Array.getElem?_eq_some_iff.1 h3).1
  have hg1 : (w.alloc (.cells M 3)).heap[g]? = some (.cells cs 3 (0, 0)) := (Below.heap_alloc _ _ _ hg).trans h3
  refine ⟨_, fun ty => run_copyS (P := Tryz.prog) 41 41 ty 3 1 w.heap.size 0 2304 2304 ⟨g, 0, none⟩ 2304 2304 M 3 cs.toList Tryz.underlying41 (by kernel_rfl) (World.alloc_heap_new w _) (by simp [h4]) ?_ (by simp [hM, h4]) ?_, ?_, ?_⟩
  · intro j v hj
    rw [Addr.add_lit]
    simp only [World.cell?, hg1]
    simpa using hj
  · intro v hv
    obtain ⟨k, hk⟩ := List.getElem?_of_mem hv
    have hk2 : k < 2304 := by have := (List.getElem?_eq_some_iff.1 hk).1; simpa [h4] using this
    have := h5 k hk2
    rw [← Array.getElem?_toList, hk] at this
    cases this
    rfl
  · refine ⟨cs, ?_, h4, h5⟩
    rw [setRow_heap _ _ _ _ _ _ (World.alloc_heap_new w _)]
    have : List.drop cs.size M.toList = [] := List.drop_eq_nil_of_le (by simp [hM, h4])
    simp [this]
  · refine ((Below.refl _ w).alloc (Nat.le_refl _) (.cells M 3)).trans ?_
    exact ⟨rfl, rfl, rfl, by simp [World.setRow], fun k hk => setRow_other _ _ _ _ (by omega)⟩

def TriedPost (w : World) (cs : List Chg) (rs : Nat → Int) (r : Ending) (w' : World) : Prop :=
  Below w.heap.size w w' ∧ ∃ m, r = .returned (.tuple #[m, .int .i64 ((tryC cs rs 0).2.1 : Nat), .int .i64 (tryC cs rs 0).2.2]) ∧ ((tryC cs rs 0).2.2 = 0 → m = .slice (some ⟨w.heap.size, 0, none⟩) 2304 2304 ∧ RowR w' w.heap.size (tryC cs rs 0).1)

set_option maxHeartbeats 1000000 in
set_option maxRecDepth 4000 in
theorem tried_any (w : World) (bk g t : Nat) (cf : Cfg) (rs : Nat → Int) (hB : BookF w bk g t cf rs) (v : Value) (cs : List Chg) (hv : ChgsAt w v cs) :
    Calls Tryz.prog 21 #[ptrV bk, v] w (TriedPost w cs rs) := by
  obtain ⟨a, cap, rfl, hml, hcs⟩ := hv
  have hr := hB.r
  have hbl := hB.lt.1
  obtain ⟨M, hM, _, hmk⟩ := makeRow
  obtain ⟨W2, hcp, hrow, hbel⟩ := copyRow w g rs M hM hB.row
  obtain ⟨N, hN⟩ : ∃ N : Nat, 2304 = N := ⟨_, rfl⟩
  have hmk1 := hmk w
  have hNi : (2304 : Int) = (N : Int) := by omega
  rw [hN] at hr
  rw [hN, hNi] at hmk1
  simp only [hN, hNi] at hcp
  have hN1 : N ≤ 1000000 := by omega
  have hN2 : (0 : Int) ≤ (N : Int) := by omega
  have HN := hide hN
  have Hcs := hide hcs
  clear hcs hN hNi hmk
  unfold maxLen at hml
  go_enter Tryz.func21, Tryz.ntmps21
  go_wp2
  go_loopw [8] (fun s wr => ∃ (i : Nat) (rs' : Nat → Int), i ≤ cs.length ∧ s = .int .i64 (i : Int) ∧ Hid (RowR wr w.heap.size rs') ∧ Hid (Below w.heap.size w wr) ∧ Hid (tryC cs rs 0 = tryC (cs.drop i) rs' i)) (fun s _ => cs.length - (intOf s).toNat)
  case atStart => exact ⟨0, rs, Nat.zero_le _, rfl, hrow, hbel, by unfold Hid; simp⟩
  case round =>
    obtain ⟨i, rs', hi, rfl, hR, hbl2, htr⟩ := hrel
    by_cases hlt : i < cs.length
    · obtain ⟨x, hx⟩ : ∃ x, cs[i]? = some x := ⟨_, List.getElem?_eq_getElem hlt⟩
      obtain ⟨A, rfl, hA, ca, cl, cn⟩ := Hcs.out i x hx
      have hdr : cs.drop i = x :: cs.drop (i + 1) := by obtain ⟨h', he⟩ := List.getElem?_eq_some_iff.1 hx; rw [List.drop_eq_getElem_cons h', he]
      have ka := (hbl2.out.cell (p := A.add (i * 3)) (by simpa [addB] using hA)).trans ca
      have kl := (hbl2.out.cell (p := ⟨(A.add (i * 3)).block, (A.add (i * 3)).off + 1, none⟩) (by simpa [addB] using hA)).trans cl
      have kn := (hbl2.out.cell (p := ⟨(A.add (i * 3)).block, (A.add (i * 3)).off + 2, none⟩) (by simpa [addB] using hA)).trans cn
      have j0 : (0 : Int) ≤ (i : Int) := by omega
      have j1 : (i : Int) < (cs.length : Int) := by omega
      have Hx := hide hx
      have Hd := hide hdr
      clear hx hdr ca cl cn
      obtain ⟨xa, xl, xn⟩ := x
      simp only at ka kl kn
      have hdn : ∀ q, Below w.heap.size w (wr.drewN q) := fun q => hbl2.out.trans ⟨rfl, rfl, rfl, Nat.le_refl _, fun _ _ => rfl⟩
      have fin := hide (show ∀ q m e, tryC cs rs 0 = (rs', i, e) → e ≠ 0 → TriedPost w cs rs (.returned (.tuple #[m, .int .i64 (i : Int), .int .i64 e])) (wr.drewN q) from fun q m e h he => ⟨hdn q, m, by rw [h], fun h0 => absurd (by rw [h] at h0; exact h0) he⟩)
      have Hdn := hide hdn
      clear hdn
      by_cases hp : isPfx xa xl = false
      · have htr2 : tryC cs rs 0 = (rs', i, 2) := by rw [htr.out, Hd.out, tryC, if_pos hp]
        have fin2 := hide (fun q => fin.out q (.slice none 0 0) 2 htr2 (by decide))
        clear hmk1 hcp hr fin htr2 hrow hbel hB
        go_wp2
        go_quiet ((go_at_call 50; exact Calls.quiet_of_same (proper_no xa xl hp _)))
        go_wp2
        go_ret3
        exact fin2.out _
      have hp1 : isPfx xa xl = true := by simpa using hp
      by_cases hn : xn < 0 ∨ 255 < xn
      · have htr2 : tryC cs rs 0 = (rs', i, 3) := by rw [htr.out, Hd.out, tryC, if_neg hp, if_pos hn]
        have fin2 := hide (fun q => fin.out q (.slice none 0 0) 3 htr2 (by decide))
        clear hmk1 hcp hr fin htr2 hrow hbel hB hp
        by_cases hn0 : xn < 0
        · clear hn
          go_wp2
          go_quiet ((go_at_call 50; exact Calls.quiet_of_same (proper_yes xa xl hp1 _)))
          go_wp2
          go_ret3
          exact fin2.out _
        · have hn1 : 255 < xn := by omega
          have hn2 : decide (xn < 0) = false := by simpa using hn0
          clear hn
          go_wp2
          go_quiet ((go_at_call 50; exact Calls.quiet_of_same (proper_yes xa xl hp1 _)))
          go_wp2
          go_ret3
          exact fin2.out _
      have hn2 : decide (xn < 0) = false := by simp; omega
      have hn3 : decide (255 < xn) = false := by simp; omega
      obtain ⟨p0, p1, p2, p3, _⟩ := (isPfx_iff xa xl).1 hp1
      obtain ⟨m, hm⟩ : ∃ m : Nat, 9 * xa + xl = (m : Int) := ⟨(9 * xa + xl).toNat, by omega⟩
      have hN9 := HN.out
      have m1 : (m : Int) < (N : Int) := by omega
      have m0 : (0 : Int) ≤ (m : Int) := by omega
      have hmn : (9 * xa + xl).toNat = m := by omega
      have rm := hR.out.cell (k := m) (by omega)
      have rf := hR.out.fz m
      by_cases hz : xn = 0 ∧ rs' m = 0
      · have htr2 : tryC cs rs 0 = (rs', i, 5) := by rw [htr.out, Hd.out, tryC, if_neg hp, if_neg hn, if_pos (by rw [hmn]; exact hz)]
        have fin2 := hide (fun q => fin.out q (.slice none 0 0) 5 htr2 (by decide))
        obtain ⟨rfl, hz2⟩ := hz
        rw [hz2] at rm
        clear hmk1 hcp hr fin htr2 hrow hbel hB hp hn p0 p1 p2 p3 hmn hz2 hn2 hn3 hN9
        go_wp2
        go_quiet ((go_at_call 50; exact Calls.quiet_of_same (proper_yes xa xl hp1 _)))
        go_wp2
        go_region_held3 (fun w' => w'.cell? (A.add (i * 3)) = some (.int .i64 xa) ∧ w'.cell? ⟨(A.add (i * 3)).block, (A.add (i * 3)).off + 1, none⟩ = some (.int .i64 xl)) (go_keep) ((go_at_call 43; refine (rank_m xa xl m hp1 hm _).mono ?_; rintro e w' ⟨rfl, rfl⟩))
        go_wp2
        go_ret3
        exact fin2.out _
      have htr2 := hide (show tryC cs rs 0 = tryC (cs.drop (i + 1)) (upd rs' m xn) (i + 1) by rw [htr.out, Hd.out, tryC, if_neg hp, if_neg hn, if_neg (by rw [hmn]; exact hz), hmn])
      have hwr : IntKind.i64.wrap ((i : Int) + 1) = (i : Int) + 1 := by rw [IntKind.wrap_i64]; omega
      have next := hide (show ∀ q, ∃ (i' : Nat) (rs' : Nat → Int), i' ≤ cs.length ∧ Value.int .i64 ((i : Int) + 1) = .int .i64 (i' : Int) ∧ Hid (RowR ((wr.drewN q).setCell ⟨w.heap.size, m, none⟩ (.int .i64 xn)) w.heap.size rs') ∧ Hid (Below w.heap.size w ((wr.drewN q).setCell ⟨w.heap.size, m, none⟩ (.int .i64 xn))) ∧ Hid (tryC cs rs 0 = tryC (cs.drop i') rs' i') from
        fun q => ⟨i + 1, upd rs' m xn, by omega, by simp, (hR.out.kept (w' := wr.drewN q) rfl).put m xn, (Hdn.out q).setCell (by simp) _, htr2.out⟩)
      by_cases hx0 : xn = 0
      · have hz2 : (rs' m == 0) = false := by simp; exact fun h => hz ⟨hx0, h⟩
        generalize rs' m = z at rm hz2
        subst hx0
        clear hmk1 hcp hr fin htr2 hrow hbel hB hp hn p0 p1 p2 p3 hmn hn2 hn3 hN9 hz
        go_wp2
        go_quiet ((go_at_call 50; exact Calls.quiet_of_same (proper_yes xa xl hp1 _)))
        go_wp2
        go_region_held3 (fun w' => w'.cell? (A.add (i * 3)) = some (.int .i64 xa) ∧ w'.cell? ⟨(A.add (i * 3)).block, (A.add (i * 3)).off + 1, none⟩ = some (.int .i64 xl)) (go_keep) ((go_at_call 43; refine (rank_m xa xl m hp1 hm _).mono ?_; rintro e w' ⟨rfl, rfl⟩))
        go_wp2
        go_roundw
        case rel => exact next.out _
        case measure => show cs.length - ((i : Int) + 1).toNat < cs.length - (i : Int).toNat; omega
      · have hz2 : (xn == 0) = false := by simpa using hx0
        clear hmk1 hcp hr fin htr2 hrow hbel hB hp hn p0 p1 p2 p3 hmn hN9 hz hx0
        go_wp2
        go_quiet ((go_at_call 50; exact Calls.quiet_of_same (proper_yes xa xl hp1 _)))
        go_wp2
        go_region_held3 (fun w' => w'.cell? (A.add (i * 3)) = some (.int .i64 xa) ∧ w'.cell? ⟨(A.add (i * 3)).block, (A.add (i * 3)).off + 1, none⟩ = some (.int .i64 xl)) (go_keep) ((go_at_call 43; refine (rank_m xa xl m hp1 hm _).mono ?_; rintro e w' ⟨rfl, rfl⟩))
        go_wp2
        go_roundw
        case rel => exact next.out _
        case measure => show cs.length - ((i : Int) + 1).toNat < cs.length - (i : Int).toNat; omega
    · obtain rfl : i = cs.length := by omega
      have htr2 : tryC cs rs 0 = (rs', cs.length, 0) := by rw [htr.out, List.drop_length, tryC]
      have fin2 := hide (show TriedPost w cs rs (.returned (.tuple #[.slice (some ⟨w.heap.size, 0, none⟩) N N, .int .i64 (cs.length : Int), .int .i64 0])) wr from ⟨hbl2.out, _, by rw [htr2], fun _ => ⟨by rw [HN.out], by rw [htr2]; exact hR.out⟩⟩)
      clear hmk1 hcp hr htr2 hrow hbel hB
      go_wp2
      go_ret3
      exact fin2.out

end Go.Proofs.YtglbamalagacgaaGreat

namespace Go.Proofs.YtglbamalagacgaaGreat
open Go.RowKit Go.Shelf

attribute [local go_sem] Oper.semAt_some

def tryX : List Chg → List Ent → Nat → List Ent × Nat × Int
  | [], xs, i => (xs, i, 0)
  | x :: cs, xs, i => if isPfx x.a x.l = false then (xs, i, 2) else if x.n < 0 ∨ 255 < x.n then (xs, i, 3) else if x.n = 0 ∧ getE xs x.a x.l = none then (xs, i, 5) else tryX cs (setE xs x.a x.l x.n) (i + 1)

theorem setE_sorted {xs : List Ent} {a l n : Int} (hs : Sorted xs) : Sorted (setE xs a l n) := by
  unfold setE
  split
  · exact delE_sorted hs
  · exact putE_sorted hs
theorem orZ_none {xs : List Ent} {a l : Int} (h : ∀ x ∈ xs, okE x) : orZ (getE xs a l) = 0 ↔ getE xs a l = none := by
  constructor
  · intro h0
    cases hg : getE xs a l with
    | none => rfl
    | some n =>
      have := orZ_ok (a := a) (l := l) h (by rw [hg]; rfl)
      rw [h0] at this
      cases this
  · intro h0; rw [h0]; rfl
theorem setE_ok {xs : List Ent} {a l n : Int} (h : ∀ x ∈ xs, okE x) (hp : isPfx a l = true) (hn : n = 0 ∨ (1 ≤ n ∧ n ≤ 255)) : ∀ x ∈ setE xs a l n, okE x := by
  intro x hx
  unfold setE at hx
  split at hx
  · exact h x (delE_mem hx)
  · rcases putE_mem hx with rfl | hx
    · exact ⟨hp, by rcases hn with h0 | h0; exact absurd h0 (by assumption); exact h0⟩
    · exact h x hx

theorem try_tie : ∀ (cs : List Chg) (rs : Nat → Int) (xs : List Ent) (i : Nat), Tie rs xs → Sorted xs → (∀ x ∈ xs, okE x) → (tryC cs rs i).2 = (tryX cs xs i).2 ∧ Tie (tryC cs rs i).1 (tryX cs xs i).1 ∧ ((tryX cs xs i).2.2 = 0 → (tryX cs xs i).2.1 = i + cs.length)
  | [], rs, xs, i, h, _, _ => ⟨rfl, h, fun _ => rfl⟩
  | x :: cs, rs, xs, i, h, hs, ho => by
    rw [tryC, tryX]
    by_cases h1 : isPfx x.a x.l = false
    · rw [if_pos h1, if_pos h1]; exact ⟨rfl, h, fun h => by simp at h⟩
    rw [if_neg h1, if_neg h1]
    by_cases h2 : x.n < 0 ∨ 255 < x.n
    · rw [if_pos h2, if_pos h2]; exact ⟨rfl, h, fun h => by simp at h⟩
    rw [if_neg h2, if_neg h2]
    have hp : isPfx x.a x.l = true := by simpa using h1
    have ht := h.val x.a x.l hp
    by_cases h3 : x.n = 0 ∧ getE xs x.a x.l = none
    · rw [if_pos (by rw [ht, orZ_none ho]; exact h3), if_pos h3]; exact ⟨rfl, h, fun h => by simp at h⟩
    rw [if_neg (by rw [ht, orZ_none ho]; exact h3), if_neg h3]
    obtain ⟨r1, r2, r3⟩ := try_tie cs (upd rs (9 * x.a + x.l).toNat x.n) (setE xs x.a x.l x.n) (i + 1) (h.put hs hp) (setE_sorted hs) (setE_ok ho hp (by omega))
    exact ⟨r1, r2, fun h => by rw [r3 h, List.length_cons]; omega⟩

def appR (c : TabC) (cs : List Chg) (s : c.S) (n e : Int) (s' : c.S) : Prop :=
  (16 < cs.length ∧ n = 0 ∧ e = 12 ∧ s = s') ∨ (cs.length ≤ 16 ∧ (tryX cs (c.xs s) 0).2.2 ≠ 0 ∧ n = ((tryX cs (c.xs s) 0).2.1 : Nat) ∧ e = (tryX cs (c.xs s) 0).2.2 ∧ s = s') ∨
  (cs.length ≤ 16 ∧ (tryX cs (c.xs s) 0).2.2 = 0 ∧ n = (cs.length : Nat) ∧ e = 6 ∧ s = s') ∨
  (cs.length ≤ 16 ∧ (tryX cs (c.xs s) 0).2.2 = 0 ∧ c.xs s' = (tryX cs (c.xs s) 0).1 ∧ c.bud s' = c.bud s ∧ c.fits s s' ∧ n = (cs.length : Nat) ∧ e = 0)
def Apart (v : Value) (F : List Nat) : Prop := ∀ A n cap, v = .slice (some A) n cap → 0 < n → A.block ∉ F
def TabC.Apps (c : TabC) : Prop := ∀ w t s F v cs, c.T w t s F → ChgsAt w v cs → Apart v F → c.turns 22 #[v] w t s F fun r s' => ∃ n e, r = .tuple #[.int .i64 n, .int .i64 e] ∧ appR c cs s n e s'

theorem ChgsAt.later {w w' : World} {v : Value} {cs : List Chg} (h : ChgsAt w v cs) (hB : Below w.heap.size w w') : ChgsAt w' v cs := by
  obtain ⟨a, cap, h1, h2, h3⟩ := h
  refine ⟨a, cap, h1, h2, fun i x hx => ?_⟩
  obtain ⟨A, h4, h5, h6, h7, h8⟩ := h3 i x hx
  exact ⟨A, h4, by have := hB.size; omega, (hB.cell (p := A.add (i * 3)) (by simpa [addB] using h5)).trans h6,
    (hB.cell (p := ⟨(A.add (i * 3)).block, (A.add (i * 3)).off + 1, none⟩) (by simpa [addB] using h5)).trans h7, (hB.cell (p := ⟨(A.add (i * 3)).block, (A.add (i * 3)).off + 2, none⟩) (by simpa [addB] using h5)).trans h8⟩

theorem BookF.turn {w : World} {bk g g' t : Nat} {cf : Cfg} {rs rs' : Nat → Int} (h : BookF w bk g t cf rs) (hR : RowR w g' rs') (hne : bk ≠ g') : BookF (w.setCell ⟨bk, 5, none⟩ (.slice (some ⟨g', 0, none⟩) 2304 2304)) bk g' t cf rs' := by
  refine ⟨?_, hR.kept (Below.heap_setCell _ _ _ _ (Ne.symm hne)), hne⟩
  rw [setCell_eq_setRow w bk 5 _ _ _ _ h.blk, setRow_heap w _ _ _ _ _ h.blk]
  rfl

set_option maxHeartbeats 1000000 in
theorem applies_any (c : TabC) (hap : c.Apps) (w : World) (bk g t : Nat) (cf : Cfg) (rs : Nat → Int) (s : c.S) (F : List Nat) (hL : Law c w bk g t cf rs s F) (k a l n : Int) (v : Value) (cs : List Chg) (hv : ChgsAt w v cs) (hva : Apart v F) :
    Calls Tryz.prog 38 #[ptrV bk, stepV k a l n v] w (LawPost c bk g t cf s F w) := by
  have hx := hL.book.x
  have hl := hL.book.lt.1
  have hFl := c.lt hL.tab
  have nb : bk ∉ F := hL.n1
  have no : w.heap.size ∉ F := fun h => by have := hFl _ h; omega
  obtain ⟨w1, hw1⟩ : ∃ w1, w1 = w.alloc (.cells #[.int .i64 k, .int .i64 a, .int .i64 l, .int .i64 n, v] 35) := ⟨_, rfl⟩
  have hB1 : Below w.heap.size w w1 := by rw [hw1]; exact (Below.refl _ w).alloc (Nat.le_refl _) _
  have hs1 : w1.heap.size = w.heap.size + 1 := by rw [hw1]; simp
  have b4 : w1.cell? ⟨w.heap.size, 4, none⟩ = some v := by rw [hw1]; simp
  have hbk1 : BookF w1 bk g t cf rs := hL.book.kept (hB1.block _ hl) (hB1.block _ hL.book.lt.2)
  obtain ⟨⟨rs2, i0, e0⟩, hp⟩ : ∃ p, tryC cs rs 0 = p := ⟨_, rfl⟩
  obtain ⟨t1, t2, t3⟩ := try_tie cs rs (c.xs s) 0 hL.tie (c.sorted hL.tab) (c.ok hL.tab)
  have htr := hide (tried_any w1 bk g t cf rs hbk1 v cs (hv.later hB1))
  have Hv := hide hv
  obtain ⟨va, vc, hve, hvl, _⟩ := hv
  have Hlaw := hide hL
  have HB1 := hide hB1
  have Hva := hide hva
  rw [hp] at t1 t2
  have Ht1 := hide t1
  have Ht2 := hide t2
  have Ht3 := hide t3
  have Hs1 := hide hs1
  have Hbk1 := hide hbk1
  have Hp := hide hp
  clear t1 t2 t3 hbk1 hp hva hs1
  unfold maxLen at hvl
  subst hw1
  subst hve
  go_enter Tryz.func38, Tryz.ntmps38
  go_wp2_with fail
  refine htr.out.mono ?_
  rintro _ w2 ⟨hb2, m, rfl, hm2⟩
  rw [Hp.out] at hm2 ⊢
  simp only at hm2 ⊢
  have hbw := HB1.out.trans (hb2.mono HB1.out.size)
  have hT2 : c.T w2.drew t s F := c.kept Hlaw.out.tab fun k hk => hbw.block k (hFl k hk)
  have happ := hide (hap w2.drew t s F _ cs hT2 ((Hv.out.later hbw).later (Below.refl _ w2).drew) Hva.out)
  have x4 : w2.cell? ⟨bk, 4, none⟩ = some (ptrV t) := (hbw.cell (p := ⟨bk, 4, none⟩) hl).trans hx
  have x5 : w2.cell? ⟨w.heap.size, 4, none⟩ = some (.slice va cs.length vc) := (hb2.cell (p := ⟨w.heap.size, 4, none⟩) (by simp)).trans b4
  have hlb : bk < w2.heap.size := by have := hbw.size; omega
  have hlo : w.heap.size < w2.heap.size := by have := hb2.size; have := Hs1.out; omega
  have Hbw := hide hbw
  have Hm2 := hide hm2
  clear hm2 hT2 htr hbw b4
  go_wp2
  go_region_held3 (fun w' => w'.cell? ⟨bk, 4, none⟩ = some (ptrV t) ∧ w'.cell? ⟨w.heap.size, 4, none⟩ = some (.slice va cs.length vc)) (go_keep)
    (first
      | (go_at_call 22; refine happ.out.mono ?_; rintro _ w3 ⟨_, s', F', rfl, ⟨n3, e3, rfl, hR⟩, hT, hN, hO, hlg⟩; (have k0 : ∀ o, w3.cell? ⟨bk, o, none⟩ = w2.cell? ⟨bk, o, none⟩ := fun o => hO.cell (by simpa using hlb) nb); (have k1 := fun o => hO.cell (o := o) (b := w.heap.size) (by simpa using hlo) no)))
  clear happ k0 k1
  have hBd : Below w.heap.size w w2.drew := Hbw.out.drew
  rcases hR with ⟨h16, rfl, rfl, rfl⟩ | ⟨h16, hne, rfl, rfl, rfl⟩ | ⟨h16, he, rfl, rfl, rfl⟩ | ⟨h16, he, hx2, hb, hf, rfl, rfl⟩
  · obtain ⟨q1, q2, q3⟩ := Hlaw.out.after hBd hT hN hO hlg rfl
    have fin := hide (q1.post (TabC.fits_refl _ _) (q2.wide bk g) q3)
    have h16' : (16 : Int) < (cs.length : Int) := by omega
    clear hT hN hO q1 q2 q3 hL hb2 hBd
    go_wp2
    go_ret
    exact fin.out
  · obtain ⟨q1, q2, q3⟩ := Hlaw.out.after hBd hT hN hO hlg rfl
    have fin := hide (q1.post (TabC.fits_refl _ _) (q2.wide bk g) q3)
    have h16' : ¬ (16 : Int) < (cs.length : Int) := by omega
    have e1 : (tryX cs (c.xs s) 0).2.1 = i0 := by rw [← Ht1.out]
    have e2 : (tryX cs (c.xs s) 0).2.2 = e0 := by rw [← Ht1.out]
    have hne2 : (e0 == 0) = false := by rw [← e2]; simpa using hne
    rw [e1, e2]
    clear hT hN hO q1 q2 q3 hL hb2 hBd e1 e2 hne
    go_wp2
    go_ret
    exact fin.out
  · obtain ⟨q1, q2, q3⟩ := Hlaw.out.after hBd hT hN hO hlg rfl
    have fin := hide (q1.post (TabC.fits_refl _ _) (q2.wide bk g) q3)
    have h16' : ¬ (16 : Int) < (cs.length : Int) := by omega
    have e1 : (tryX cs (c.xs s) 0).2.1 = i0 := by rw [← Ht1.out]
    have e2 : (tryX cs (c.xs s) 0).2.2 = e0 := by rw [← Ht1.out]
    obtain rfl : e0 = 0 := by rw [← e2, he]
    obtain rfl : i0 = cs.length := by rw [← e1, Ht3.out he]; omega
    clear hT hN hO q1 q2 q3 hL hb2 hBd e1 e2 he
    go_wp2
    go_ret
    exact fin.out
  · obtain ⟨q2, q3⟩ : Only F w w3 ∧ NewF w F F' := ⟨(Only.of_below _ hBd).trans hO (fun x hx => .inl hx), fun k hk => (hN k hk).imp id fun h => by have := hBd.size; omega⟩
    have h16' : ¬ (16 : Int) < (cs.length : Int) := by omega
    have e1 : (tryX cs (c.xs s) 0).2.1 = i0 := by rw [← Ht1.out]
    have e2 : (tryX cs (c.xs s) 0).2.2 = e0 := by rw [← Ht1.out]
    obtain rfl : e0 = 0 := by rw [← e2, he]
    obtain rfl : i0 = cs.length := by rw [← e1, Ht3.out he]; omega
    obtain ⟨hme, hrow⟩ := Hm2.out rfl
    rw [Hs1.out] at hme hrow
    subst hme
    have lt := Hlaw.out.book.lt
    have hbk3 := Hlaw.out.book.kept (q2.block bk lt.1 Hlaw.out.n1) (q2.block g lt.2 Hlaw.out.n2)
    have ngF : w.heap.size + 1 ∉ F := fun h => by have := hFl _ h; omega
    have hr3 : RowR w3 (w.heap.size + 1) rs2 := hrow.kept (hO.block _ (by simpa using hrow.lt) ngF)
    have n1 : bk ∉ F' := fun h => by
      rcases q3 _ h with h1 | h1
      · exact nb h1
      · omega
    have n2 : w.heap.size + 1 ∉ F' := fun h => by
      rcases hN _ h with h1 | h1
      · exact ngF h1
      · have := hrow.lt; simp at h1; omega
    have fin := hide (show LawPost c bk g t cf s F w (.returned (.bool true)) (w3.setCell ⟨bk, 5, none⟩ (.slice (some ⟨w.heap.size + 1, 0, none⟩) 2304 2304)) from
      ⟨rfl, w.heap.size + 1, rs2, s', F', ⟨hbk3.turn hr3 (by omega), c.kept hT fun k hk => Below.heap_setCell _ _ _ _ (fun e => n1 (by rw [show bk = k from e.symm]; exact hk)), n1, n2, by rw [hx2]; exact Ht2.out, hlg.trans Hlaw.out.lg⟩, hf,
        ⟨q2.os, q2.tape, q2.output, by simpa [World.setCell] using q2.size, fun k hk hn => by
          simp at hn
          exact (Below.heap_setCell _ _ _ _ hn.1).trans (q2.block k hk hn.2.2)⟩, fun k hk => by
          simp at hk ⊢
          rcases hk with rfl | rfl | hk
          · exact .inl (.inl rfl)
          · exact .inr (by omega)
          · exact (q3 k hk).imp (fun h => .inr (.inr h)) id⟩)
    have z5 := hbk3.r
    have zf : w3.frozen? ⟨bk, 5, none⟩ = false := by simp [World.frozen?, hbk3.blk]
    obtain ⟨N, hN5⟩ : ∃ N : Nat, 2304 = N := ⟨_, rfl⟩
    rw [hN5] at z5 fin
    clear hT hN hO q2 q3 hL hb2 hBd e1 e2 he hbk3 hr3 lt n1 n2 ngF hrow Hm2
    rw [hN5]
    clear hN5
    go_wp2
    go_ret
    exact fin.out

end Go.Proofs.YtglbamalagacgaaGreat

namespace Go.Proofs.YtglbamalagacgaaGreat
open Go.RowKit

-- HOW CELLS TURN WITH THE ROUTES
def blN (xs : List Ent) (a : Int) : Nat → Option Nat
  | 0 => none
  | n + 1 => if (getE xs (cov a n) n).isSome then some n else blN xs a n
theorem best_bl (xs : List Ent) (a : Int) : ∀ n, bestN xs a n = (blN xs a n).map fun j => ⟨cov a j, j, orZ (getE xs (cov a j) j)⟩
  | 0 => rfl
  | n + 1 => by
    rw [bestN, blN]
    cases hg : getE xs (cov a n) n with
    | none => simp [best_bl xs a n]
    | some k => simp [hg, orZ]
theorem blN_get {xs : List Ent} {a : Int} {j : Nat} : ∀ n, blN xs a n = some j → (getE xs (cov a j) j).isSome = true ∧ j < n
  | 0, h => by cases h
  | n + 1, h => by
    rw [blN] at h
    split at h
    · rename_i hs; cases h; exact ⟨hs, by omega⟩
    · have := blN_get n h; exact ⟨this.1, by omega⟩
theorem blN_congr {xs ys : List Ent} {a b : Int} : ∀ n, (∀ j : Nat, j < n → (getE xs (cov a j) j).isSome = (getE ys (cov b j) j).isSome) → blN xs a n = blN ys b n
  | 0, _ => rfl
  | n + 1, h => by rw [blN, blN, h n (by omega), blN_congr n fun j hj => h j (by omega)]
-- two addresses have the same route
def sameR (xs : List Ent) (i j : Int) : Prop := blN xs i 9 = blN xs j 9 ∧ ∀ m, blN xs i 9 = some m → cov i m = cov j m
theorem rt_same {xs : List Ent} (hk : ∀ x ∈ xs, okE x) (i j : Int) : rt xs i = rt xs j ↔ sameR xs i j := by
  unfold rt bestE sameR
  rw [best_bl, best_bl]
  have hpos : ∀ (a : Int) (m : Nat), blN xs a 9 = some m → orZ (getE xs (cov a m) m) ≠ 0 := fun a m h => by
    have h1 := (blN_get 9 h).1
    cases hg : getE xs (cov a m) m with
    | none => rw [hg] at h1; cases h1
    | some k =>
      have : 1 ≤ k := (hk _ (getE_in hg)).2.1
      intro e
      have : k = 0 := e
      omega
  cases h1 : blN xs i 9 with
  | none =>
    cases h2 : blN xs j 9 with
    | none => simp
    | some n =>
      have := hpos j n h2
      simp
      intro _ _ e
      exact this e.symm
  | some m =>
    cases h2 : blN xs j 9 with
    | none =>
      have := hpos i m h1
      simp
      intro _ _ e
      exact this e
    | some n =>
      simp
      constructor
      · rintro ⟨e1, e2, _⟩; exact ⟨by omega, e1 ▸ (by rw [show n = m by omega])⟩
      · rintro ⟨rfl, e⟩; exact ⟨e, rfl, by rw [e]⟩
theorem strB_iff {xs ys : List Ent} (hk : ∀ x ∈ xs, okE x) (hy : ∀ x ∈ ys, okE x) (h : ∀ k : Int, 0 < k → k < 256 → sameR xs (k - 1) k → sameR ys (k - 1) k) (k : Int) : strB ys k = true → strB xs k = true := by
  unfold strB
  by_cases h1 : 0 ≤ k ∧ k < 256
  · by_cases h2 : k = 0
    · simp [h2]
    · have := h k (by omega) h1.2
      rw [← rt_same hk, ← rt_same hy] at this
      simp only [Bool.and_eq_true, Bool.or_eq_true, decide_eq_true_eq, Bool.not_eq_true']
      rintro ⟨h3, h4 | h4⟩
      · exact ⟨h3, .inl h4⟩
      · refine ⟨h3, .inr ?_⟩
        cases he : eqE (rt xs (k - 1)) (rt xs k) with
        | false => rfl
        | true =>
          have := this ((eqE_iff _ _).1 he)
          rw [(eqE_iff _ _).2 this] at h4
          cases h4
  · simp; omega
theorem strN_le {xs ys : List Ent} (h : ∀ k, strB ys k = true → strB xs k = true) : ∀ n, (strN ys n).length ≤ (strN xs n).length
  | 0 => Nat.le_refl _
  | n + 1 => by
    have := strN_le h n
    rw [strN, strN, List.length_append, List.length_append]
    unfold strR
    cases hy : strB ys n with
    | false => simp; omega
    | true => rw [h n hy]; simp; omega
theorem cov_cov {i j : Int} {m l : Nat} (hi : 0 ≤ i) (hi' : i < 256) (hj : 0 ≤ j) (hj' : j < 256) (hml : m ≤ l) (hl : l ≤ 8) (h : cov i l = cov j l) : cov i m = cov j m := by
  have h1 : ∀ a : Int, 0 ≤ a → a < 256 → cov (cov a l) m = cov a m := fun a h0 h1 => by
    unfold cov
    have e1 : l = 0 ∨ l = 1 ∨ l = 2 ∨ l = 3 ∨ l = 4 ∨ l = 5 ∨ l = 6 ∨ l = 7 ∨ l = 8 := by omega
    have e2 : m = 0 ∨ m = 1 ∨ m = 2 ∨ m = 3 ∨ m = 4 ∨ m = 5 ∨ m = 6 ∨ m = 7 ∨ m = 8 := by omega
    rcases e1 with rfl | rfl | rfl | rfl | rfl | rfl | rfl | rfl | rfl <;>
      rcases e2 with rfl | rfl | rfl | rfl | rfl | rfl | rfl | rfl | rfl <;> first | omega | (simp [wid] <;> omega)
  rw [← h1 i hi hi', ← h1 j hj hj', h]

-- a route in place of another
theorem put_isSome {xs : List Ent} {a l n v : Int} (hs : Sorted xs) (hg : getE xs a l = some v) (b m : Int) : (getE (putE xs a l n) b m).isSome = (getE xs b m).isSome := by
  rw [getE_put hs]
  split
  · rename_i h; rw [← h.1, ← h.2, hg]; rfl
  · rfl
theorem putE_len {xs : List Ent} {a l n v : Int} (hs : Sorted xs) (h : getE xs a l = some v) : (putE xs a l n).length = xs.length := by
  induction xs with
  | nil => cases h
  | cons x xs ih =>
    obtain ⟨hs1, hs2⟩ := sorted_tail hs
    rw [getE] at h
    rw [putE]
    split at h
    · rename_i he
      rw [if_neg (by unfold klt; omega), if_pos (by omega)]
      simp
    · rename_i he
      have := hs2 _ (getE_in h)
      simp only at this
      rw [if_pos this]
      simp [ih hs1 h]
theorem sameR_congr {xs ys : List Ent} (h : ∀ b m, (getE xs b m).isSome = (getE ys b m).isSome) (i j : Int) : sameR xs i j ↔ sameR ys i j := by
  unfold sameR
  rw [blN_congr (ys := ys) (b := i) 9 (fun _ _ => h _ _), blN_congr (xs := xs) (ys := ys) (a := j) (b := j) 9 (fun _ _ => h _ _)]
theorem isSome_mem {xs : List Ent} (hs : Sorted xs) (b m : Int) : (getE xs b m).isSome = true ↔ ∃ x ∈ xs, x.a = b ∧ x.l = m := by
  constructor
  · intro h
    cases hg : getE xs b m with
    | none => rw [hg] at h; cases h
    | some k => exact ⟨_, getE_in hg, rfl, rfl⟩
  · rintro ⟨x, hx, rfl, rfl⟩; rw [getE_of hs hx]; rfl
theorem ndb_le {xs ys : List Ent} (hs : Sorted xs) (hy : Sorted ys) (h : ∀ b m, (getE ys b m).isSome = true → (getE xs b m).isSome = true) (c : Nat) : ndb ys c = true → ndb xs c = true := by
  unfold ndb
  rw [List.any_eq_true, List.any_eq_true]
  rintro ⟨y, hm, hc⟩
  obtain ⟨x, hx, e1, e2⟩ := (isSome_mem hs _ _).1 (h y.a y.l ((isSome_mem hy _ _).2 ⟨y, hm, rfl, rfl⟩))
  exact ⟨x, hx, by rw [e1, e2]; exact hc⟩
theorem cntB_le {q r : Nat → Bool} (h : ∀ d, r d = true → q d = true) : ∀ k c, cntB r k c ≤ cntB q k c
  | 0, _ => Int.le_refl _
  | k + 1, c => by
    have h1 := cntB_le h k (2 * c)
    have h2 := cntB_le h k (2 * c + 1)
    have b1 := cntB_bd q k (2 * c)
    have b2 := cntB_bd q k (2 * c + 1)
    rw [cntB, cntB]
    have e1 : (if r (2 * c) then cntB r k (2 * c) else 0) ≤ (if q (2 * c) then cntB q k (2 * c) else 0) := by
      cases hr : r (2 * c) with
      | true => rw [h _ hr]; exact h1
      | false => simp; split <;> omega
    have e2 : (if r (2 * c + 1) then cntB r k (2 * c + 1) else 0) ≤ (if q (2 * c + 1) then cntB q k (2 * c + 1) else 0) := by
      cases hr : r (2 * c + 1) with
      | true => rw [h _ hr]; exact h2
      | false => simp; split <;> omega
    omega
theorem needK_put {k : Int} {xs : List Ent} {a l n v : Int} (hs : Sorted xs) (hk : ∀ x ∈ xs, okE x) (hn : okE ⟨a, l, n⟩) (hg : getE xs a l = some v) : needK k (putE xs a l n) = needK k xs := by
  have hi := put_isSome (n := n) hs hg
  have hk' := ok_put hk hn
  have h1 : trieN (putE xs a l n) = trieN xs := by
    apply Int.le_antisymm
    · exact cntB_le (ndb_le hs (putE_sorted hs) fun b m h => by rw [← hi]; exact h) 8 1
    · exact cntB_le (ndb_le (putE_sorted hs) hs fun b m h => by rw [hi]; exact h) 8 1
  have h2 : (strL (putE xs a l n)).length = (strL xs).length := by
    apply Nat.le_antisymm
    · exact strN_le (strB_iff hk hk' fun _ _ _ h => (sameR_congr (fun b m => (hi b m).symm) _ _).1 h) 256
    · exact strN_le (strB_iff hk' hk fun _ _ _ h => (sameR_congr hi _ _).1 h) 256
  unfold needK
  rw [h1, h2, putE_len hs hg]

-- a route is taken away
theorem delE_len (xs : List Ent) (a l : Int) : (delE xs a l).length ≤ xs.length := by
  induction xs with
  | nil => exact Nat.le_refl _
  | cons x xs ih =>
    rw [delE]
    split
    · simp
    · simp only [List.length_cons]; omega
theorem bl_off {xs : List Ent} (hs : Sorted xs) {a l i : Int} {m : Nat} : ∀ n, blN xs i n = some m → ¬ (a = cov i m ∧ l = m) → blN (delE xs a l) i n = some m
  | 0, h, _ => by cases h
  | n + 1, h, hne => by
    rw [blN] at h ⊢
    rw [getE_del hs]
    split at h
    · rename_i hsm
      cases h
      rw [if_neg hne, if_pos hsm]
    · rename_i hsm
      have : ¬ ((if a = cov i n ∧ l = n then none else getE xs (cov i n) n).isSome = true) := by split <;> simp_all
      rw [if_neg this]
      exact bl_off hs n h hne
theorem bl_none {xs : List Ent} (hs : Sorted xs) {a l i : Int} : ∀ n, blN xs i n = none → blN (delE xs a l) i n = none
  | 0, _ => rfl
  | n + 1, h => by
    rw [blN] at h ⊢
    rw [getE_del hs]
    split at h
    · cases h
    · rename_i hsm
      have : ¬ ((if a = cov i n ∧ l = n then none else getE xs (cov i n) n).isSome = true) := by split <;> simp_all
      rw [if_neg this]
      exact bl_none hs n h
theorem bl_on {xs : List Ent} (hs : Sorted xs) {i : Int} {m : Nat} : ∀ n, blN xs i n = some m → blN (delE xs (cov i m) m) i n = blN xs i m
  | 0, h => by cases h
  | n + 1, h => by
    have hlt := (blN_get (n + 1) h).2
    rw [blN] at h ⊢
    rw [getE_del hs]
    split at h
    · rename_i hsm
      obtain rfl : n = m := by simpa using h
      rw [if_pos (show cov i n = cov i n ∧ (n : Int) = n from ⟨rfl, rfl⟩)]
      show (if (none : Option Int).isSome = true then some n else blN (delE xs (cov i n) n) i n) = _
      rw [if_neg (by simp)]
      exact blN_congr n fun j hj => by rw [getE_del hs, if_neg (by omega)]
    · rename_i hsm
      have : ¬ ((if cov i m = cov i n ∧ (m : Int) = n then none else getE xs (cov i n) n).isSome = true) := by split <;> simp_all
      rw [if_neg this]
      exact bl_on hs n h
theorem sameR_del {xs : List Ent} (hs : Sorted xs) {a l i j : Int} (hi : 0 ≤ i) (hi' : i < 256) (hj : 0 ≤ j) (hj' : j < 256) (h : sameR xs i j) : sameR (delE xs a l) i j := by
  obtain ⟨h1, h2⟩ := h
  cases hb : blN xs i 9 with
  | none =>
    have e1 := bl_none (a := a) (l := l) hs 9 hb
    have e2 := bl_none (a := a) (l := l) hs 9 (h1 ▸ hb)
    exact ⟨by rw [e1, e2], fun m hm => by rw [e1] at hm; cases hm⟩
  | some m =>
    have hb2 : blN xs j 9 = some m := h1 ▸ hb
    have hc := h2 m hb
    have hm := (blN_get 9 hb).2
    by_cases he : a = cov i m ∧ l = m
    · obtain ⟨rfl, rfl⟩ := he
      have e1 := bl_on hs 9 hb
      have e2 := bl_on hs 9 hb2
      rw [← hc] at e2
      have e3 : blN xs i m = blN xs j m := blN_congr m fun k hk => by rw [cov_cov hi hi' hj hj' (Nat.le_of_lt hk) (by omega) hc]
      refine ⟨by rw [e1, e2, e3], fun k hk => ?_⟩
      rw [e1] at hk
      exact cov_cov hi hi' hj hj' (Nat.le_of_lt (blN_get m hk).2) (by omega) hc
    · have e1 := bl_off hs 9 hb he
      have e2 := bl_off hs 9 hb2 (hc ▸ he)
      refine ⟨by rw [e1, e2], fun k hk => ?_⟩
      rw [e1] at hk
      cases hk
      exact hc
theorem needK_del {k : Int} {xs : List Ent} {a l : Int} (hs : Sorted xs) (hk : ∀ x ∈ xs, okE x) : needK k (delE xs a l) ≤ needK k xs := by
  have hk' := ok_del (a := a) (l := l) hk
  have h1 : trieN (delE xs a l) ≤ trieN xs := cntB_le (ndb_le hs (delE_sorted hs) fun b m h => by
    rw [getE_del hs] at h
    split at h
    · cases h
    · exact h) 8 1
  have h2 : (strL (delE xs a l)).length ≤ (strL xs).length := strN_le (strB_iff hk hk' fun k h0 h1 h => sameR_del hs (by omega) (by omega) (by omega) (by omega) h) 256
  have h3 := delE_len xs a l
  unfold needK
  split
  · omega
  · split <;> omega

end Go.Proofs.YtglbamalagacgaaGreat

namespace Go.Proofs.YtglbamalagacgaaGreat

theorem getE_setE {xs : List Ent} {a l n : Int} (hs : Sorted xs) (b m : Int) : getE (setE xs a l n) b m = if a = b ∧ l = m then (if n = 0 then none else some n) else getE xs b m := by
  unfold setE
  by_cases h : n = 0
  · rw [if_pos h, getE_del hs, if_pos h]
  · rw [if_neg h, getE_put hs, if_neg h]
theorem getE_mem {xs : List Ent} {a l v : Int} (h : getE xs a l = some v) : ∃ y ∈ xs, y.a = a ∧ y.l = l ∧ y.n = v := by
  induction xs with
  | nil => cases h
  | cons x xs ih =>
    rw [getE] at h
    split at h
    · rename_i he
      cases h
      exact ⟨x, by simp, he.1, he.2, rfl⟩
    · obtain ⟨y, h1, h2⟩ := ih h
      exact ⟨y, by simp [h1], h2⟩
theorem sorted_ext : ∀ {xs ys : List Ent}, Sorted xs → Sorted ys → (∀ a l, getE xs a l = getE ys a l) → xs = ys
  | [], [], _, _, _ => rfl
  | [], y :: ys, _, _, h => by
    have := h y.a y.l
    simp [getE] at this
  | x :: xs, [], _, _, h => by
    have := h x.a x.l
    simp [getE] at this
  | x :: xs, y :: ys, hx, hy, h => by
    obtain ⟨hx1, hx2⟩ := sorted_tail hx
    obtain ⟨hy1, hy2⟩ := sorted_tail hy
    have kx := h x.a x.l
    have ky := h y.a y.l
    have hk : y.a = x.a ∧ y.l = x.l := by
      by_cases he : y.a = x.a ∧ y.l = x.l
      · exact he
      exfalso
      rw [getE, if_pos ⟨rfl, rfl⟩, getE, if_neg he] at kx
      rw [getE, if_neg (fun h => he ⟨h.1.symm, h.2.symm⟩), getE, if_pos ⟨rfl, rfl⟩] at ky
      obtain ⟨z, hz, z1, z2, _⟩ := getE_mem kx.symm
      obtain ⟨u, hu, u1, u2, _⟩ := getE_mem ky
      have c1 := hy2 z hz
      have c2 := hx2 u hu
      unfold klt at c1 c2
      omega
    have hn : x.n = y.n := by
      rw [getE, if_pos ⟨rfl, rfl⟩, getE, if_pos hk] at kx
      exact Option.some.inj kx
    have hxy : x = y := by
      cases x; cases y
      simp only at hk hn
      simp [hk, hn]
    subst hxy
    congr 1
    refine sorted_ext hx1 hy1 fun a l => ?_
    have hal := h a l
    rw [getE, getE] at hal
    by_cases he : x.a = a ∧ x.l = l
    · rw [getE_none fun y hy' hh => by have := hx2 y hy'; unfold klt at this; omega, getE_none fun y hy' hh => by have := hy2 y hy'; unfold klt at this; omega]
    · rwa [if_neg he, if_neg he] at hal

theorem setE_back {xs : List Ent} {a l n : Int} (hs : Sorted xs) (ho : ∀ x ∈ xs, okE x) : setE (setE xs a l n) a l (orZ (getE xs a l)) = xs := by
  refine sorted_ext (setE_sorted (setE_sorted hs)) hs fun b m => ?_
  rw [getE_setE (setE_sorted hs), getE_setE hs]
  by_cases he : a = b ∧ l = m
  · obtain ⟨rfl, rfl⟩ := he
    simp only [and_self, if_true]
    cases hg : getE xs a l with
    | none => rfl
    | some v =>
      have hv := orZ_ok (a := a) (l := l) ho (by rw [hg]; rfl)
      rw [hg] at hv
      have hv' : ¬ v = 0 := by simpa [orZ] using hv
      simp [orZ, hv']
  · rw [if_neg he, if_neg he]

theorem back_push {xs x0 : List Ent} {us : List Ud} {a l n : Int} (hs : Sorted xs) (ho : ∀ x ∈ xs, okE x) (h : back xs us = x0) : back (setE xs a l n) (us ++ [⟨a, l, orZ (getE xs a l)⟩]) = x0 := by
  rw [back_snoc, setE_back hs ho, h]

end Go.Proofs.YtglbamalagacgaaGreat
