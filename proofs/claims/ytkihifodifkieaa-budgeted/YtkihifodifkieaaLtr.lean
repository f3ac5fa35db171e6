import Derived.Test.YtkihifodifkieaaLde
namespace Go.Proofs.Ytkihifodifkieaa
open Go.RowKit Go.Shelf

attribute [local go_sem] Oper.semAt_some

-- CHANGES THAT CAME IN
def ChgsAt (w : World) (v : Value) (cs : List Chg) : Prop := ∃ a cap, v = .slice a cs.length cap ∧ cs.length ≤ maxLen ∧ ∀ i x, cs[i]? = some x → ∃ A, a = some A ∧ A.block < w.heap.size ∧
  w.cell? (A.add (i * 3)) = some (.int .i64 x.a) ∧ w.cell? ⟨(A.add (i * 3)).block, (A.add (i * 3)).off + 1, none⟩ = some (.int .i64 x.l) ∧ w.cell? ⟨(A.add (i * 3)).block, (A.add (i * 3)).off + 2, none⟩ = some (.int .i64 x.n)

theorem addB (A : Addr) (n : Nat) : (A.add n).block = A.block := by unfold Addr.add; split <;> rfl
theorem rank_m (a l : Int) (m : Nat) (h : isPfx a l = true) (hm : 9 * a + l = (m : Int)) (w : World) :
    Calls Try.prog 20 #[.int .i64 a, .int .i64 l] w fun e w' => e = .returned (.int .i64 (m : Int)) ∧ w' = w := by
  have := rank_any a l h w
  rwa [hm] at this
-- WHAT THE LAW TRIES
def tryC : List Chg → (Nat → Int) → Nat → (Nat → Int) × Nat × Int
  | [], rs, i => (rs, i, 0)
  | x :: cs, rs, i => if isPfx x.a x.l = false then (rs, i, 2) else if x.n < 0 ∨ 255 < x.n then (rs, i, 3) else if x.n = 0 ∧ rs (9 * x.a + x.l).toNat = 0 then (rs, i, 5) else tryC cs (upd rs (9 * x.a + x.l).toNat x.n) (i + 1)

theorem copyRow (w : World) (g : Nat) (rs : Nat → Int) (M : Array Value) (hM : M.size = 2304) (h : RowR w g rs) :
    ∃ W2, (∀ ty, (Builtin.copy_ #[36, 36] ty #[.slice (some ⟨w.heap.size, 0, none⟩) 2304 2304, .slice (some ⟨g, 0, none⟩) 2304 2304]).run Try.prog (w.alloc (.cells M 3)) = .ok (.int .i64 2304) W2) ∧ RowR W2 w.heap.size rs ∧ Below w.heap.size w W2 := by
  obtain ⟨cs, h3, h4, h5⟩ := h
  have hg := (Array.getElem?_eq_some_iff.1 h3).1
  have hg1 : (w.alloc (.cells M 3)).heap[g]? = some (.cells cs 3 (0, 0)) := (Below.heap_alloc _ _ _ hg).trans h3
  refine ⟨_, fun ty => run_copyS (P := Try.prog) 36 36 ty 3 1 w.heap.size 0 2304 2304 ⟨g, 0, none⟩ 2304 2304 M 3 cs.toList Try.underlying36 (by kernel_rfl) (World.alloc_heap_new w _) (by simp [h4]) ?_ (by simp [hM, h4]) ?_, ?_, ?_⟩
  · intro j v hj
    rw [Addr.add_lit]
    simp only [World.cell?, hg1]
    simpa using hj
  · intro v hv
    obtain ⟨k, hk⟩ := List.getElem?_of_mem hv
    have hk2 : k < 2304 := by have := (List.getElem?_eq_some_iff.1 hk).1; simpa [h4] using this
    have := h5 k hk2
    rw [← Array.getElem?_toList, hk] at this
    cases this
    rfl
  · refine ⟨cs, ?_, h4, h5⟩
    rw [setRow_heap _ _ _ _ _ _ (World.alloc_heap_new w _)]
    have : List.drop cs.size M.toList = [] := List.drop_eq_nil_of_le (by simp [hM, h4])
    simp [this]
  · refine ((Below.refl _ w).alloc (Nat.le_refl _) (.cells M 3)).trans ?_
    exact ⟨rfl, rfl, rfl, by simp [World.setRow], fun k hk => setRow_other _ _ _ _ (by omega)⟩

def TriedPost (w : World) (cs : List Chg) (rs : Nat → Int) (r : Ending) (w' : World) : Prop :=
  Below w.heap.size w w' ∧ ∃ m, r = .returned (.tuple #[m, .int .i64 ((tryC cs rs 0).2.1 : Nat), .int .i64 (tryC cs rs 0).2.2]) ∧ ((tryC cs rs 0).2.2 = 0 → m = .slice (some ⟨w.heap.size, 0, none⟩) 2304 2304 ∧ RowR w' w.heap.size (tryC cs rs 0).1)

set_option maxHeartbeats 1000000 in
set_option maxRecDepth 4000 in
theorem tried_any (w : World) (bk g t : Nat) (cf : Cfg) (rs : Nat → Int) (hB : BookF w bk g t cf rs) (v : Value) (cs : List Chg) (hv : ChgsAt w v cs) :
    Calls Try.prog 22 #[ptrV bk, v] w (TriedPost w cs rs) := by
  obtain ⟨a, cap, rfl, hml, hcs⟩ := hv
  have hr := hB.r
  have hbl := hB.lt.1
  obtain ⟨M, hM, _, hmk⟩ := makeRow
  obtain ⟨W2, hcp, hrow, hbel⟩ := copyRow w g rs M hM hB.row
  obtain ⟨N, hN⟩ : ∃ N : Nat, 2304 = N := ⟨_, rfl⟩
  have hmk1 := hmk w
  have hNi : (2304 : Int) = (N : Int) := by omega
  rw [hN] at hr
  rw [hN, hNi] at hmk1
  simp only [hN, hNi] at hcp
  have hN1 : N ≤ 1000000 := by omega
  have hN2 : (0 : Int) ≤ (N : Int) := by omega
  have HN := hide hN
  have Hcs := hide hcs
  clear hcs hN hNi hmk
  unfold maxLen at hml
  go_enter Try.func22, Try.ntmps22
  go_wp2
  go_loopw [8] (fun s wr => ∃ (i : Nat) (rs' : Nat → Int), i ≤ cs.length ∧ s = .int .i64 (i : Int) ∧ Hid (RowR wr w.heap.size rs') ∧ Hid (Below w.heap.size w wr) ∧ Hid (tryC cs rs 0 = tryC (cs.drop i) rs' i)) (fun s _ => cs.length - (intOf s).toNat)
  case atStart => exact ⟨0, rs, Nat.zero_le _, rfl, hrow, hbel, by unfold Hid; simp⟩
  case round =>
    obtain ⟨i, rs', hi, rfl, hR, hbl2, htr⟩ := hrel
    by_cases hlt : i < cs.length
    · obtain ⟨x, hx⟩ : ∃ x, cs[i]? = some x := ⟨_, List.getElem?_eq_getElem hlt⟩
      obtain ⟨A, rfl, hA, ca, cl, cn⟩ := Hcs.out i x hx
      have hdr : cs.drop i = x :: cs.drop (i + 1) := by obtain ⟨h', he⟩ := List.getElem?_eq_some_iff.1 hx; rw [List.drop_eq_getElem_cons h', he]
      have ka := (hbl2.out.cell (p := A.add (i * 3)) (by simpa [addB] using hA)).trans ca
      have kl := (hbl2.out.cell (p := ⟨(A.add (i * 3)).block, (A.add (i * 3)).off + 1, none⟩) (by simpa [addB] using hA)).trans cl
      have kn := (hbl2.out.cell (p := ⟨(A.add (i * 3)).block, (A.add (i * 3)).off + 2, none⟩) (by simpa [addB] using hA)).trans cn
      have j0 : (0 : Int) ≤ (i : Int) := by omega
      have j1 : (i : Int) < (cs.length : Int) := by omega
      have Hx := hide hx
      have Hd := hide hdr
      clear hx hdr ca cl cn
      obtain ⟨xa, xl, xn⟩ := x
      simp only at ka kl kn
      have hdn : ∀ q, Below w.heap.size w (wr.drewN q) := fun q => hbl2.out.trans ⟨rfl, rfl, rfl, Nat.le_refl _, fun _ _ => rfl⟩
      have fin := hide (show ∀ q m e, tryC cs rs 0 = (rs', i, e) → e ≠ 0 → TriedPost w cs rs (.returned (.tuple #[m, .int .i64 (i : Int), .int .i64 e])) (wr.drewN q) from fun q m e h he => ⟨hdn q, m, by rw [h], fun h0 => absurd (by rw [h] at h0; exact h0) he⟩)
      have Hdn := hide hdn
      clear hdn
      by_cases hp : isPfx xa xl = false
      · have htr2 : tryC cs rs 0 = (rs', i, 2) := by rw [htr.out, Hd.out, tryC, if_pos hp]
        have fin2 := hide (fun q => fin.out q (.slice none 0 0) 2 htr2 (by decide))
        clear hmk1 hcp hr fin htr2 hrow hbel hB
        go_wp2
        go_quiet ((go_at_call 19; exact Calls.quiet_of_same (proper_no xa xl hp _)))
        go_wp2
        go_ret3
        exact fin2.out _
      have hp1 : isPfx xa xl = true := by simpa using hp
      by_cases hn : xn < 0 ∨ 255 < xn
      · have htr2 : tryC cs rs 0 = (rs', i, 3) := by rw [htr.out, Hd.out, tryC, if_neg hp, if_pos hn]
        have fin2 := hide (fun q => fin.out q (.slice none 0 0) 3 htr2 (by decide))
        clear hmk1 hcp hr fin htr2 hrow hbel hB hp
        by_cases hn0 : xn < 0
        · clear hn
          go_wp2
          go_quiet ((go_at_call 19; exact Calls.quiet_of_same (proper_yes xa xl hp1 _)))
          go_wp2
          go_ret3
          exact fin2.out _
        · have hn1 : 255 < xn := by omega
          have hn2 : decide (xn < 0) = false := by simpa using hn0
          clear hn
          go_wp2
          go_quiet ((go_at_call 19; exact Calls.quiet_of_same (proper_yes xa xl hp1 _)))
          go_wp2
          go_ret3
          exact fin2.out _
      have hn2 : decide (xn < 0) = false := by simp; omega
      have hn3 : decide (255 < xn) = false := by simp; omega
      obtain ⟨p0, p1, p2, p3, _⟩ := (isPfx_iff xa xl).1 hp1
      obtain ⟨m, hm⟩ : ∃ m : Nat, 9 * xa + xl = (m : Int) := ⟨(9 * xa + xl).toNat, by omega⟩
      have hN9 := HN.out
      have m1 : (m : Int) < (N : Int) := by omega
      have m0 : (0 : Int) ≤ (m : Int) := by omega
      have hmn : (9 * xa + xl).toNat = m := by omega
      have rm := hR.out.cell (k := m) (by omega)
      have rf := hR.out.fz m
      by_cases hz : xn = 0 ∧ rs' m = 0
      · have htr2 : tryC cs rs 0 = (rs', i, 5) := by rw [htr.out, Hd.out, tryC, if_neg hp, if_neg hn, if_pos (by rw [hmn]; exact hz)]
        have fin2 := hide (fun q => fin.out q (.slice none 0 0) 5 htr2 (by decide))
        obtain ⟨rfl, hz2⟩ := hz
        rw [hz2] at rm
        clear hmk1 hcp hr fin htr2 hrow hbel hB hp hn p0 p1 p2 p3 hmn hz2 hn2 hn3 hN9
        go_wp2
        go_quiet ((go_at_call 19; exact Calls.quiet_of_same (proper_yes xa xl hp1 _)))
        go_wp2
        go_region_held3 (fun w' => w'.cell? (A.add (i * 3)) = some (.int .i64 xa) ∧ w'.cell? ⟨(A.add (i * 3)).block, (A.add (i * 3)).off + 1, none⟩ = some (.int .i64 xl)) (go_keep) ((go_at_call 20; refine (rank_m xa xl m hp1 hm _).mono ?_; rintro e w' ⟨rfl, rfl⟩))
        go_wp2
        go_ret3
        exact fin2.out _
      have htr2 := hide (show tryC cs rs 0 = tryC (cs.drop (i + 1)) (upd rs' m xn) (i + 1) by rw [htr.out, Hd.out, tryC, if_neg hp, if_neg hn, if_neg (by rw [hmn]; exact hz), hmn])
      have hwr : IntKind.i64.wrap ((i : Int) + 1) = (i : Int) + 1 := by rw [IntKind.wrap_i64]; omega
      have next := hide (show ∀ q, ∃ (i' : Nat) (rs' : Nat → Int), i' ≤ cs.length ∧ Value.int .i64 ((i : Int) + 1) = .int .i64 (i' : Int) ∧ Hid (RowR ((wr.drewN q).setCell ⟨w.heap.size, m, none⟩ (.int .i64 xn)) w.heap.size rs') ∧ Hid (Below w.heap.size w ((wr.drewN q).setCell ⟨w.heap.size, m, none⟩ (.int .i64 xn))) ∧ Hid (tryC cs rs 0 = tryC (cs.drop i') rs' i') from
        fun q => ⟨i + 1, upd rs' m xn, by omega, by simp, (hR.out.kept (w' := wr.drewN q) rfl).put m xn, (Hdn.out q).setCell (by simp) _, htr2.out⟩)
      by_cases hx0 : xn = 0
      · have hz2 : (rs' m == 0) = false := by simp; exact fun h => hz ⟨hx0, h⟩
        generalize rs' m = z at rm hz2
        subst hx0
        clear hmk1 hcp hr fin htr2 hrow hbel hB hp hn p0 p1 p2 p3 hmn hn2 hn3 hN9 hz
        go_wp2
        go_quiet ((go_at_call 19; exact Calls.quiet_of_same (proper_yes xa xl hp1 _)))
        go_wp2
        go_region_held3 (fun w' => w'.cell? (A.add (i * 3)) = some (.int .i64 xa) ∧ w'.cell? ⟨(A.add (i * 3)).block, (A.add (i * 3)).off + 1, none⟩ = some (.int .i64 xl)) (go_keep) ((go_at_call 20; refine (rank_m xa xl m hp1 hm _).mono ?_; rintro e w' ⟨rfl, rfl⟩))
        go_wp2
        go_roundw
        case rel => exact next.out _
        case measure => show cs.length - ((i : Int) + 1).toNat < cs.length - (i : Int).toNat; omega
      · have hz2 : (xn == 0) = false := by simpa using hx0
        clear hmk1 hcp hr fin htr2 hrow hbel hB hp hn p0 p1 p2 p3 hmn hN9 hz hx0
        go_wp2
        go_quiet ((go_at_call 19; exact Calls.quiet_of_same (proper_yes xa xl hp1 _)))
        go_wp2
        go_region_held3 (fun w' => w'.cell? (A.add (i * 3)) = some (.int .i64 xa) ∧ w'.cell? ⟨(A.add (i * 3)).block, (A.add (i * 3)).off + 1, none⟩ = some (.int .i64 xl)) (go_keep) ((go_at_call 20; refine (rank_m xa xl m hp1 hm _).mono ?_; rintro e w' ⟨rfl, rfl⟩))
        go_wp2
        go_roundw
        case rel => exact next.out _
        case measure => show cs.length - ((i : Int) + 1).toNat < cs.length - (i : Int).toNat; omega
    · obtain rfl : i = cs.length := by omega
      have htr2 : tryC cs rs 0 = (rs', cs.length, 0) := by rw [htr.out, List.drop_length, tryC]
      have fin2 := hide (show TriedPost w cs rs (.returned (.tuple #[.slice (some ⟨w.heap.size, 0, none⟩) N N, .int .i64 (cs.length : Int), .int .i64 0])) wr from ⟨hbl2.out, _, by rw [htr2], fun _ => ⟨by rw [HN.out], by rw [htr2]; exact hR.out⟩⟩)
      clear hmk1 hcp hr htr2 hrow hbel hB
      go_wp2
      go_ret3
      exact fin2.out

end Go.Proofs.Ytkihifodifkieaa
