import Derived.Test.YtkihifodifkieaaLpr
import Derived.Deep.OwnRows
namespace Go.Proofs.Ytkihifodifkieaa
open Go.RowKit Go.Shelf

attribute [local go_sem] Oper.semAt_some

-- ONE CHANGE, AND A STEP OF A SCRIPT
structure Chg where
  a : Int
  l : Int
  n : Int

-- WHAT THE LAWS KNOW OF A TABLE: its state s, told by some functions of it; its blocks F.
structure TabC where
  S : Type
  T : World → Nat → S → List Nat → Prop
  xs : S → List Ent
  bud : S → Int
  act : S → Int
  tgt : S → Int
  lgd : S → Int
  log : S → Int
  lt : ∀ {w t s F}, T w t s F → ∀ k ∈ F, k < w.heap.size
  kept : ∀ {w w' t s F}, T w t s F → (∀ k ∈ F, w'.heap[k]? = w.heap[k]?) → T w' t s F
  sorted : ∀ {w t s F}, T w t s F → Sorted (xs s)
  ok : ∀ {w t s F}, T w t s F → ∀ x ∈ xs s, okE x
  nums : ∀ {w t s F}, T w t s F → 0 ≤ act s ∧ act s ≤ 100000 ∧ 0 ≤ tgt s ∧ tgt s ≤ 100000 ∧ 0 ≤ lgd s ∧ lgd s ≤ log s ∧ log s ≤ 16 ∧ 1 ≤ bud s ∧ bud s ≤ 400
def TabC.use (c : TabC) (s : c.S) : Int := c.act s + c.tgt s + c.lgd s
def TabC.fits (c : TabC) (s s' : c.S) : Prop := c.use s' ≤ c.use s ∨ c.use s' ≤ c.bud s'
-- a call on the table, with what it answers
def TabC.turns (c : TabC) (f : Nat) (args : Array Value) (w : World) (t : Nat) (s : c.S) (F : List Nat) (R : Value → c.S → Prop) : Prop :=
  Calls Try.prog f (#[ptrV t] ++ args) w fun r w' => ∃ v s' F', r = .returned v ∧ R v s' ∧ c.T w' t s' F' ∧ NewF w F F' ∧ Only F w w' ∧ c.log s' = c.log s

def addR (c : TabC) (a l n : Int) (s : c.S) (e : Int) (s' : c.S) : Prop :=
  (isPfx a l = false ∧ e = 2 ∧ s = s') ∨ (isPfx a l = true ∧ ¬ (1 ≤ n ∧ n ≤ 255) ∧ e = 3 ∧ s = s') ∨ (isPfx a l = true ∧ 1 ≤ n ∧ n ≤ 255 ∧ getE (c.xs s) a l = none ∧ e = 6 ∧ s = s') ∨
  (isPfx a l = true ∧ 1 ≤ n ∧ n ≤ 255 ∧ c.xs s' = setE (c.xs s) a l n ∧ c.bud s' = c.bud s ∧ c.fits s s' ∧ e = 0)
def delR (c : TabC) (a l : Int) (s : c.S) (e : Int) (s' : c.S) : Prop :=
  (isPfx a l = false ∧ e = 2 ∧ s = s') ∨ (isPfx a l = true ∧ getE (c.xs s) a l = none ∧ e = 5 ∧ s = s') ∨
  (isPfx a l = true ∧ (getE (c.xs s) a l).isSome = true ∧ c.xs s' = setE (c.xs s) a l 0 ∧ c.bud s' = c.bud s ∧ c.fits s s' ∧ e = 0)

-- the contracts
structure TabC.Works (c : TabC) : Prop where
  add : ∀ w t s F a l n, c.T w t s F → c.turns 18 #[pfxV a l, .int .i64 n] w t s F fun v s' => ∃ e, v = .int .i64 e ∧ addR c a l n s e s'
  del : ∀ w t s F a l, c.T w t s F → c.turns 21 #[pfxV a l] w t s F fun v s' => ∃ e, v = .int .i64 e ∧ delR c a l s e s'
  cells : ∀ w t s F, c.T w t s F → Calls Try.prog 7 #[ptrV t] w fun r w' => r = .returned (.agg #[.int .i64 (c.act s), .int .i64 (c.tgt s), .int .i64 (c.lgd s), .int .i64 (c.bud s)]) ∧ Below w.heap.size w w'

-- THE LAW'S BOOK: rs: the routes by their rank
structure Cfg where
  e : Int
  b : Int
  c : Int
  l : Int
def RowR (w : World) (g : Nat) (rs : Nat → Int) : Prop := ∃ cs, w.heap[g]? = some (.cells cs 3 (0, 0)) ∧ cs.size = 2304 ∧ ∀ k, k < 2304 → cs[k]? = some (.int .i64 (rs k))
structure BookF (w : World) (bk g t : Nat) (cf : Cfg) (rs : Nat → Int) : Prop where
  blk : w.heap[bk]? = some (.cells #[.int .i64 cf.e, .int .i64 cf.b, .int .i64 cf.c, .int .i64 cf.l, ptrV t, .slice (some ⟨g, 0, none⟩) 2304 2304] 38 (0, 0))
  row : RowR w g rs
  ne : bk ≠ g
theorem BookF.kept {w w' : World} {bk g t : Nat} {cf : Cfg} {rs : Nat → Int} (h : BookF w bk g t cf rs) (h1 : w'.heap[bk]? = w.heap[bk]?) (h2 : w'.heap[g]? = w.heap[g]?) : BookF w' bk g t cf rs :=
  ⟨h1.trans h.blk, by obtain ⟨cs, h3, h4⟩ := h.row; exact ⟨cs, h2.trans h3, h4⟩, h.ne⟩
theorem BookF.lt {w : World} {bk g t : Nat} {cf : Cfg} {rs : Nat → Int} (h : BookF w bk g t cf rs) : bk < w.heap.size ∧ g < w.heap.size := by
  obtain ⟨cs, h3, _⟩ := h.row
  exact ⟨(Array.getElem?_eq_some_iff.1 h.blk).1, (Array.getElem?_eq_some_iff.1 h3).1⟩
theorem BookF.cell {w : World} {bk g t : Nat} {cf : Cfg} {rs : Nat → Int} (h : BookF w bk g t cf rs) {k : Nat} (hk : k < 2304) : w.cell? ⟨g, k, none⟩ = some (.int .i64 (rs k)) := by
  obtain ⟨cs, h3, _, h4⟩ := h.row
  simp [World.cell?, h3, h4 k hk]
theorem BookF.x {w : World} {bk g t : Nat} {cf : Cfg} {rs : Nat → Int} (h : BookF w bk g t cf rs) : w.cell? ⟨bk, 4, none⟩ = some (ptrV t) := by simp [World.cell?, h.blk]
theorem BookF.r {w : World} {bk g t : Nat} {cf : Cfg} {rs : Nat → Int} (h : BookF w bk g t cf rs) : w.cell? ⟨bk, 5, none⟩ = some (.slice (some ⟨g, 0, none⟩) 2304 2304) := by simp [World.cell?, h.blk]

theorem BookF.fz {w : World} {bk g t : Nat} {cf : Cfg} {rs : Nat → Int} (h : BookF w bk g t cf rs) (o : Nat) : w.frozen? ⟨g, o, none⟩ = false := by
  obtain ⟨cs, h3, _⟩ := h.row
  simp [World.frozen?, h3]

def Tie (rs : Nat → Int) (xs : List Ent) : Prop := ∀ a l, isPfx a l = true → rs (9 * a + l).toNat = orZ (getE xs a l)
-- all together: the blocks of the table are none of the book's
structure Law (c : TabC) (w : World) (bk g t : Nat) (cf : Cfg) (rs : Nat → Int) (s : c.S) (F : List Nat) : Prop where
  book : BookF w bk g t cf rs
  tab : c.T w t s F
  n1 : bk ∉ F
  n2 : g ∉ F
  tie : Tie rs (c.xs s)
  lg : c.log s = cf.l

set_option maxHeartbeats 400000 in
theorem use_any (c : TabC) (hc : c.Works) (w : World) (bk g t : Nat) (cf : Cfg) (rs : Nat → Int) (s : c.S) (F : List Nat) (hL : Law c w bk g t cf rs s F) :
    Calls Try.prog 5 #[ptrV bk] w fun r w' => r = .returned (.int .i64 (c.use s)) ∧ Below w.heap.size w w' := by
  have hx := hL.book.x
  have hl := hL.book.lt.1
  obtain ⟨h0, h1, h2, h3, h4, h5, h6, h7, h8⟩ := c.nums hL.tab
  have e1 : IntKind.i64.wrap (c.act s + c.tgt s) = c.act s + c.tgt s := by rw [IntKind.wrap_i64]; omega
  have e2 : IntKind.i64.wrap (c.act s + c.tgt s + c.lgd s) = c.act s + c.tgt s + c.lgd s := by rw [IntKind.wrap_i64]; omega
  have hcl := hide (hc.cells w t s F hL.tab)
  go_enter Try.func5, Try.ntmps5
  go_wp2_with (go_at_call 7; refine hcl.out.mono ?_; rintro e w1 ⟨rfl, hb⟩)
  go_ret
  exact ⟨rfl, hb.alloc hb.size _⟩

-- storing a route
def upd (rs : Nat → Int) (k : Nat) (n : Int) : Nat → Int := fun j => if j = k then n else rs j
theorem RowR.put {w : World} {g : Nat} {rs : Nat → Int} (h : RowR w g rs) (k : Nat) (n : Int) : RowR (w.setCell ⟨g, k, none⟩ (.int .i64 n)) g (upd rs k n) := by
  obtain ⟨cs, h3, h4, h5⟩ := h
  have hg := (Array.getElem?_eq_some_iff.1 h3).1
  refine ⟨cs.setIfInBounds k (.int .i64 n), ?_, by simpa using h4, fun j hj => ?_⟩
  · have hg3 : w.heap[g]? = some w.heap[g] := Array.getElem?_eq_some_iff.2 ⟨hg, rfl⟩
    rw [hg3] at h3
    simp only [World.setCell, Array.getElem?_modify, if_true, hg3, Option.map_some, Option.some.inj h3]
    rfl
  · unfold upd
    rw [Array.getElem?_setIfInBounds]
    by_cases hjk : j = k
    · subst hjk; simp [h4, hj]
    · rw [if_neg (by omega), if_neg hjk]; exact h5 j hj
theorem RowR.cell {w : World} {g : Nat} {rs : Nat → Int} (h : RowR w g rs) {k : Nat} (hk : k < 2304) : w.cell? ⟨g, k, none⟩ = some (.int .i64 (rs k)) := by
  obtain ⟨cs, h3, _, h4⟩ := h
  simp [World.cell?, h3, h4 k hk]
theorem RowR.fz {w : World} {g : Nat} {rs : Nat → Int} (h : RowR w g rs) (o : Nat) : w.frozen? ⟨g, o, none⟩ = false := by
  obtain ⟨cs, h3, _⟩ := h
  simp [World.frozen?, h3]
theorem RowR.kept {w w' : World} {g : Nat} {rs : Nat → Int} (h : RowR w g rs) (h2 : w'.heap[g]? = w.heap[g]?) : RowR w' g rs := by
  obtain ⟨cs, h3, h4⟩ := h; exact ⟨cs, h2.trans h3, h4⟩
theorem RowR.lt {w : World} {g : Nat} {rs : Nat → Int} (h : RowR w g rs) : g < w.heap.size := by
  obtain ⟨cs, h3, h4⟩ := h; exact (Array.getElem?_eq_some_iff.1 h3).1
theorem BookF.put {w : World} {bk g t : Nat} {cf : Cfg} {rs : Nat → Int} (h : BookF w bk g t cf rs) (k : Nat) (n : Int) : BookF (w.setCell ⟨g, k, none⟩ (.int .i64 n)) bk g t cf (upd rs k n) :=
  ⟨(Below.heap_setCell _ _ _ _ h.ne).trans h.blk, h.row.put k n, h.ne⟩
-- a new row of zeros
theorem makeRow : ∃ M : Array Value, M.size = 2304 ∧ (∀ k, k < 2304 → M[k]? = some (.int .i64 0)) ∧ ∀ w, (Instr.makeSlice 36 (.int .i64 2304) (.int .i64 2304)).run Try.prog w = .ok (.slice (some ⟨w.heap.size, 0, none⟩) 2304 2304) (w.alloc (.cells M 3)) := by
  refine ⟨madeCells #[.int .i64 0] 2304, size_madeCells _ _, fun k hk => by simp [madeCells, hk, Nat.mod_one], fun w => ?_⟩
  exact run_make_row' (P := Try.prog) 36 3 (.int .i64 0) 8 Try.underlying36 (by kernel_rfl) rfl .i64 .i64 2304 (by omega) (by omega) w
theorem rank_inj {a l b m : Int} (h : isPfx a l = true) (k : isPfx b m = true) (he : (9 * a + l).toNat = (9 * b + m).toNat) : a = b ∧ l = m := by
  have h1 := (isPfx_iff _ _).1 h
  have h2 := (isPfx_iff _ _).1 k
  omega
theorem getE_set {xs : List Ent} {a l n : Int} (hs : Sorted xs) (b m : Int) : orZ (getE (setE xs a l n) b m) = if a = b ∧ l = m then n else orZ (getE xs b m) := by
  unfold setE
  split
  · rename_i h
    rw [getE_del hs]
    split
    · simp [orZ, h]
    · rfl
  · rw [getE_put hs]
    split
    · simp [orZ]
    · rfl
theorem Tie.put {rs : Nat → Int} {xs : List Ent} (h : Tie rs xs) (hs : Sorted xs) {a l n : Int} (hp : isPfx a l = true) : Tie (upd rs (9 * a + l).toNat n) (setE xs a l n) := by
  intro b m hb
  rw [getE_set hs]
  unfold upd
  by_cases he : a = b ∧ l = m
  · rw [if_pos (by rw [he.1, he.2]), if_pos he]
  · rw [if_neg (fun h1 => he (rank_inj hp hb h1.symm)), if_neg he]
    exact h b m hb

def LawPost (c : TabC) (bk g t : Nat) (cf : Cfg) (s : c.S) (F : List Nat) (w : World) (r : Ending) (w' : World) : Prop :=
  r = .returned (.bool true) ∧ ∃ g' rs' s' F', Law c w' bk g' t cf rs' s' F' ∧ c.fits s s' ∧ Only (bk :: g :: F) w w' ∧ NewF w (bk :: g :: F) (bk :: g' :: F')

end Go.Proofs.Ytkihifodifkieaa
