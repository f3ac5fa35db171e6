import Derived.Test.YtglbamalagacgaaGreatE1
import Derived.Test.YtglbamalagacgaaGreatE2
import Derived.Test.YtglbamalagacgaaGreatF3
namespace Go.Proofs.YtglbamalagacgaaGreat
open Go.RowKit Go.Shelf

attribute [local go_sem] Oper.semAt_some

theorem apply_same (s : TS) (cs : List Chg) : (s.apply cs).2.2.k = s.k ∧ (s.apply cs).2.2.ms = s.ms := by
  unfold TS.apply
  split
  · exact ⟨rfl, rfl⟩
  split
  · exact ⟨rfl, rfl⟩
  split
  · exact ⟨rfl, rfl⟩
  · obtain ⟨_, _, _, h4, _, h6⟩ := follow_same (s.lays (tryX cs s.xs 0).1) cs s.use
    exact ⟨h4, h6⟩
-- what a batch is answered, and what it leaves
def appW (cs : List Chg) (s : TS) (n e : Int) (s' : TS) : Prop :=
  (16 < cs.length ∧ n = 0 ∧ e = 12 ∧ s = s') ∨ (cs.length ≤ 16 ∧ (tryX cs s.xs 0).2.2 ≠ 0 ∧ n = ((tryX cs s.xs 0).2.1 : Nat) ∧ e = (tryX cs s.xs 0).2.2 ∧ s = s') ∨
  (cs.length ≤ 16 ∧ (tryX cs s.xs 0).2.2 = 0 ∧ n = (cs.length : Nat) ∧ e = 6 ∧ s = s') ∨
  (cs.length ≤ 16 ∧ (tryX cs s.xs 0).2.2 = 0 ∧ s'.xs = (tryX cs s.xs 0).1 ∧ n = (cs.length : Nat) ∧ e = 0)
theorem apply_w {w : World} {t : Nat} {s : TS} {A : List Nat} {v : Value} {cs : List Chg} (hT : tab3.T w t s A) (hv : ChgsAt w v cs) (hva : Apart v A) :
    Calls Tryz.prog 22 #[ptrV t, v] w fun r w' => ∃ n e s' A', r = .returned (.tuple #[.int .i64 n, .int .i64 e]) ∧ appW cs s n e s' ∧ s'.k = s.k ∧ s'.ms = s.ms ∧ tab3.T w' t s' A' ∧ NewF w A A' ∧ Only A w w' ∧ tab3.log s' = tab3.log s := by
  have h := tabI_apps (Inv := fun s' _ => s'.k = s.k ∧ s'.ms = s.ms) (fun s1 j cs _ hI => ⟨(apply_same s1 cs).1.trans hI.1, (apply_same s1 cs).2.trans hI.2⟩) w t (s, 0) A v cs ⟨hT, rfl, rfl⟩ hv hva
  refine Calls.mono h ?_
  rintro r w' ⟨_, ⟨s', j⟩, F', rfl, ⟨n, e, rfl, hR⟩, ⟨hT', hI⟩, hN, hO, hlg⟩
  refine ⟨n, e, s', F', rfl, ?_, hI.1, hI.2, hT', hN, hO, hlg⟩
  rcases hR with ⟨h1, h2, h3, h4⟩ | ⟨h1, h2, h3, h4, h5⟩ | ⟨h1, h2, h3, h4, h5⟩ | ⟨h1, h2, h3, h4, h5, h6, h7⟩
  · exact .inl ⟨h1, h2, h3, congrArg Prod.fst h4⟩
  · exact .inr (.inl ⟨h1, h2, h3, h4, congrArg Prod.fst h5⟩)
  · exact .inr (.inr (.inl ⟨h1, h2, h3, h4, congrArg Prod.fst h5⟩))
  · exact .inr (.inr (.inr ⟨h1, h2, h3, h6, h7⟩))

-- THE LAW'S STATE, its book perhaps behind
structure Bk (w1 w : World) (bk g t : Nat) (cf : Cfg) (rs : Nat → Int) (s : TS) (A : List Nat) : Prop where
  book : BookF w bk g t cf rs
  tab : tab3.T w t s A
  n1 : bk ∉ A
  n2 : g ∉ A
  lg : tab3.log s = (cf.l, cf.c)
  below : Below w1.heap.size w1 w
  b1 : w1.heap.size ≤ bk
  b2 : w1.heap.size ≤ g
  b3 : ∀ k ∈ A, w1.heap.size ≤ k
section
variable {w1 w w' : World} {bk g t : Nat} {cf : Cfg} {rs : Nat → Int} {s s' : TS} {A A' : List Nat}
theorem Mid.toBk (h : Mid tab3 w1 w bk g t cf rs s A) : Bk w1 w bk g t cf rs s A := ⟨h.law.book, h.law.tab, h.law.n1, h.law.n2, h.law.lg, h.below, h.b1, h.b2, h.b3⟩
theorem Bk.mid (h : Bk w1 w bk g t cf rs s A) (ht : Tie rs s.xs) : Mid tab3 w1 w bk g t cf rs s A := ⟨⟨h.book, h.tab, h.n1, h.n2, ht, h.lg⟩, h.below, h.b1, h.b2, h.b3⟩
theorem Bk.later (h : Bk w1 w bk g t cf rs s A) (hB : Below w.heap.size w w') : Bk w1 w' bk g t cf rs s A :=
  ⟨h.book.kept (hB.block _ h.book.lt.1) (hB.block _ h.book.lt.2), tab3.kept h.tab fun k hk => hB.block k (tab3.lt h.tab k hk), h.n1, h.n2, h.lg, h.below.trans (hB.mono h.below.size), h.b1, h.b2, h.b3⟩
theorem Bk.turn (h : Bk w1 w bk g t cf rs s A) (hT : tab3.T w' t s' A') (hN : NewF w A A') (hO : Only A w w') (hl : tab3.log s' = tab3.log s) : Bk w1 w' bk g t cf rs s' A' :=
  ⟨h.book.kept (hO.block bk h.book.lt.1 h.n1) (hO.block g h.book.lt.2 h.n2), hT, fun hm => (hN _ hm).elim h.n1 fun h1 => by have := h.book.lt.1; omega, fun hm => (hN _ hm).elim h.n2 fun h1 => by have := h.book.lt.2; omega, hl.trans h.lg, below_only h.below hO h.b3 (Nat.le_refl _), h.b1, h.b2, fun k hk => (hN k hk).elim (h.b3 k) fun h1 => by have := h.below.size; omega⟩
theorem Bk.state (h : Bk w1 w bk g t cf rs s A) : Calls Tryz.prog 16 #[ptrV t] w fun r w' => r = .returned (staV s.k (knM s.mv) (phM s.mv) (cpM s.mv) s.ms s.bs) ∧ Below w.heap.size w w' := by
  obtain ⟨_, e, pm, F, H, hT, rfl⟩ := h.tab
  exact tstate_any w t e s pm F H hT
-- the book is given another row
theorem Bk.lays {g2 : Nat} {rs2 : Nat → Int} (h : Bk w1 w bk g t cf rs s A) (hr : RowR w g2 rs2) (hb : bk ≠ g2) (hA : g2 ∉ A) (hw : w1.heap.size ≤ g2) : Bk w1 (w.setCell ⟨bk, 5, none⟩ (.slice (some ⟨g2, 0, none⟩) 2304 2304)) bk g2 t cf rs2 s A :=
  ⟨h.book.turn hr hb, tab3.kept h.tab fun k hk => Below.heap_setCell _ _ _ _ (fun e => h.n1 (by rw [show bk = k from e.symm]; exact hk)), h.n1, hA, h.lg, ⟨h.below.os, h.below.tape, h.below.output, by simpa [World.setCell] using h.below.size, fun k hk => (Below.heap_setCell _ _ _ _ (by have := h.b1; show k ≠ bk; omega)).trans (h.below.block k hk)⟩, h.b1, hw, h.b3⟩
set_option maxHeartbeats 400000 in
theorem Bk.uses (h : Bk w1 w bk g t cf rs s A) : Calls Tryz.prog 19 #[ptrV bk] w fun r w' => r = .returned (.int .i64 s.use) ∧ Below w.heap.size w w' := by
  have hx := h.book.x
  have hl := h.book.lt.1
  obtain ⟨h0, h1, h2, h3, h4, h5, h6, h7, h8⟩ := tab3.nums h.tab
  have e1 : IntKind.i64.wrap (tab3.act s + tab3.tgt s) = tab3.act s + tab3.tgt s := by rw [IntKind.wrap_i64]; omega
  have e2 : IntKind.i64.wrap (tab3.act s + tab3.tgt s + tab3.lgd s) = tab3.act s + tab3.tgt s + tab3.lgd s := by rw [IntKind.wrap_i64]; omega
  have hcl := hide (tab3_works.cells w t s A h.tab)
  have huse : s.use = tab3.act s + tab3.tgt s + tab3.lgd s := rfl
  rw [huse]
  generalize tab3.act s = q1 at *
  generalize tab3.tgt s = q2 at *
  generalize tab3.lgd s = q3 at *
  clear h huse
  go_enter Tryz.func19, Tryz.ntmps19
  go_wp2_with (go_at_call 20; refine hcl.out.mono ?_; rintro e w1 ⟨rfl, hb⟩)
  go_ret
  exact ⟨rfl, hb.alloc hb.size _⟩
end
theorem ChgsAt.apart {w1 : World} {v : Value} {cs : List Chg} {A : List Nat} (hv : ChgsAt w1 v cs) (h : ∀ k ∈ A, w1.heap.size ≤ k) : Apart v A := by
  intro B n cap he hn hF
  obtain ⟨a, cap', h1, h2, h3⟩ := hv
  rw [he] at h1
  cases h1
  obtain ⟨A', h4, h5, _⟩ := h3 0 cs[0] (List.getElem?_eq_getElem hn)
  cases h4
  have := h _ hF
  omega

end Go.Proofs.YtglbamalagacgaaGreat
