import Derived.Test.YtglbamalagacgaaGreatA9
import Derived.Deep.OwnRows
namespace Go.Proofs.YtglbamalagacgaaGreat
open Go.RowKit Go.Shelf

attribute [local go_sem] Oper.semAt_some

set_option maxHeartbeats 400000 in
theorem width_any (l : Int) (h0 : 0 ≤ l) (h8 : l ≤ 8) (w : World) :
    Calls Tryz.prog 42 #[.int .i64 l] w fun e w' => e = .returned (.int .i64 (wid l)) ∧ w' = w := by
  have h : l = 0 ∨ l = 1 ∨ l = 2 ∨ l = 3 ∨ l = 4 ∨ l = 5 ∨ l = 6 ∨ l = 7 ∨ l = 8 := by omega
  rcases h with rfl | rfl | rfl | rfl | rfl | rfl | rfl | rfl | rfl
  all_goals
    go_enter Tryz.func42, Tryz.ntmps42
    go_wp2
    go_ret
    exact ⟨rfl, rfl⟩

theorem isPfx_no {a l : Int} (h : ¬ (0 ≤ l ∧ l ≤ 8 ∧ 0 ≤ a ∧ a < 256)) : isPfx a l = false := by
  rw [Bool.eq_false_iff]
  intro h1
  have := (isPfx_iff _ _).1 h1
  exact h ⟨this.1, this.2.1, this.2.2.1, this.2.2.2.1⟩

set_option maxHeartbeats 400000 in
theorem rank_any (a l : Int) (h : isPfx a l = true) (w : World) :
    Calls Tryz.prog 43 #[.int .i64 a, .int .i64 l] w fun e w' => e = .returned (.int .i64 (9 * a + l)) ∧ w' = w := by
  obtain ⟨h0, h1, h2, h3, _⟩ := (isPfx_iff a l).1 h
  have e1 : IntKind.i64.wrap (9 * a) = 9 * a := by rw [IntKind.wrap_i64]; omega
  have e2 : IntKind.i64.wrap (9 * a + l) = 9 * a + l := by rw [IntKind.wrap_i64]; omega
  clear h
  go_enter Tryz.func43, Tryz.ntmps43
  go_wp2
  go_ret
  exact ⟨rfl, rfl⟩

set_option maxHeartbeats 400000 in
theorem proper_any (a l : Int) (w : World) :
    Calls Tryz.prog 50 #[.int .i64 a, .int .i64 l] w fun e w' => e = .returned (.bool (isPfx a l)) ∧ w' = w := by
  by_cases h0 : 0 ≤ l
  · by_cases h8 : l ≤ 8
    · by_cases ha0 : 0 ≤ a
      · by_cases ha1 : a ≤ 255
        · have hp : isPfx a l = decide (a % wid l = 0) := by simp [isPfx, h0, h8, ha0, show a < 256 by omega]
          rw [hp]
          have hw0 := (wid_bd l).1
          have hw1 := (wid_bd l).2
          have hwn : ¬ wid l = 0 := by omega
          go_enter Tryz.func50, Tryz.ntmps50
          go_wp2_with (go_at_call 42; refine (width_any l h0 h8 _).mono ?_; rintro e w' ⟨rfl, rfl⟩)
          go_ret
          exact ⟨ret_bool (by rw [Bool.eq_iff_iff]; simp), rfl⟩
        · rw [isPfx_no (by omega)]
          have hd : decide (a ≤ 255) = false := by simpa using ha1
          go_enter Tryz.func50, Tryz.ntmps50
          go_wp2
          go_ret
          exact ⟨rfl, rfl⟩
      · rw [isPfx_no (by omega)]
        have hd : decide (0 ≤ a) = false := by simpa using ha0
        go_enter Tryz.func50, Tryz.ntmps50
        go_wp2
        go_ret
        exact ⟨rfl, rfl⟩
    · rw [isPfx_no (by omega)]
      have hd : decide (l ≤ 8) = false := by simpa using h8
      go_enter Tryz.func50, Tryz.ntmps50
      go_wp2
      go_ret
      exact ⟨rfl, rfl⟩
  · rw [isPfx_no (by omega)]
    have hd : decide (0 ≤ l) = false := by simpa using h0
    go_enter Tryz.func50, Tryz.ntmps50
    go_wp2
    go_ret
    exact ⟨rfl, rfl⟩

theorem proper_no (a l : Int) (h : isPfx a l = false) (w : World) :
    Calls Tryz.prog 50 #[.int .i64 a, .int .i64 l] w fun e w' => e = .returned (.bool false) ∧ w' = w := by
  have := proper_any a l w
  rwa [h] at this
theorem proper_yes (a l : Int) (h : isPfx a l = true) (w : World) :
    Calls Tryz.prog 50 #[.int .i64 a, .int .i64 l] w fun e w' => e = .returned (.bool true) ∧ w' = w := by
  have := proper_any a l w
  rwa [h] at this

end Go.Proofs.YtglbamalagacgaaGreat

namespace Go.Proofs.YtglbamalagacgaaGreat
open Go.RowKit Go.Shelf

attribute [local go_sem] Oper.semAt_some

-- ONE CHANGE, AND A STEP OF A SCRIPT
structure Chg where
  a : Int
  l : Int
  n : Int

-- WHAT THE LAWS KNOW OF A TABLE: its state s, told by some functions of it; its blocks F.
structure TabC where
  S : Type
  T : World → Nat → S → List Nat → Prop
  xs : S → List Ent
  bud : S → Int
  act : S → Int
  tgt : S → Int
  lgd : S → Int
  log : S → Int × Int
  cnt : S → Nat
  lt : ∀ {w t s F}, T w t s F → ∀ k ∈ F, k < w.heap.size
  kept : ∀ {w w' t s F}, T w t s F → (∀ k ∈ F, w'.heap[k]? = w.heap[k]?) → T w' t s F
  sorted : ∀ {w t s F}, T w t s F → Sorted (xs s)
  ok : ∀ {w t s F}, T w t s F → ∀ x ∈ xs s, okE x
  nums : ∀ {w t s F}, T w t s F → 0 ≤ act s ∧ act s ≤ 100000 ∧ 0 ≤ tgt s ∧ tgt s ≤ 100000 ∧ 0 ≤ lgd s ∧ lgd s ≤ (log s).1 ∧ (log s).1 ≤ 16 ∧ 1 ≤ bud s ∧ bud s ≤ 400
def TabC.use (c : TabC) (s : c.S) : Int := c.act s + c.tgt s + c.lgd s
def TabC.fits (c : TabC) (s s' : c.S) : Prop := (c.use s' ≤ c.use s ∨ c.use s' ≤ c.bud s') ∧ c.cnt s' ≤ c.cnt s + 1
theorem TabC.fits_refl (c : TabC) (s : c.S) : c.fits s s := ⟨.inl (Int.le_refl _), Nat.le_succ _⟩
-- a call on the table, with what it answers
def TabC.turns (c : TabC) (f : Nat) (args : Array Value) (w : World) (t : Nat) (s : c.S) (F : List Nat) (R : Value → c.S → Prop) : Prop :=
  Calls Tryz.prog f (#[ptrV t] ++ args) w fun r w' => ∃ v s' F', r = .returned v ∧ R v s' ∧ c.T w' t s' F' ∧ NewF w F F' ∧ Only F w w' ∧ c.log s' = c.log s

def addR (c : TabC) (a l n : Int) (s : c.S) (e : Int) (s' : c.S) : Prop :=
  (isPfx a l = false ∧ e = 2 ∧ s = s') ∨ (isPfx a l = true ∧ ¬ (1 ≤ n ∧ n ≤ 255) ∧ e = 3 ∧ s = s') ∨ (isPfx a l = true ∧ 1 ≤ n ∧ n ≤ 255 ∧ getE (c.xs s) a l = none ∧ e = 6 ∧ s = s') ∨
  (isPfx a l = true ∧ 1 ≤ n ∧ n ≤ 255 ∧ c.xs s' = setE (c.xs s) a l n ∧ c.bud s' = c.bud s ∧ c.fits s s' ∧ e = 0)
def delR (c : TabC) (a l : Int) (s : c.S) (e : Int) (s' : c.S) : Prop :=
  (isPfx a l = false ∧ e = 2 ∧ s = s') ∨ (isPfx a l = true ∧ getE (c.xs s) a l = none ∧ e = 5 ∧ s = s') ∨
  (isPfx a l = true ∧ (getE (c.xs s) a l).isSome = true ∧ c.xs s' = setE (c.xs s) a l 0 ∧ c.bud s' = c.bud s ∧ c.fits s s' ∧ e = 0)

-- the contracts
structure TabC.Works (c : TabC) : Prop where
  add : ∀ w t s F a l n, c.T w t s F → c.turns 59 #[pfxV a l, .int .i64 n] w t s F fun v s' => ∃ e, v = .int .i64 e ∧ addR c a l n s e s'
  del : ∀ w t s F a l, c.T w t s F → c.turns 60 #[pfxV a l] w t s F fun v s' => ∃ e, v = .int .i64 e ∧ delR c a l s e s'
  cells : ∀ w t s F, c.T w t s F → Calls Tryz.prog 20 #[ptrV t] w fun r w' => r = .returned (.agg #[.int .i64 (c.act s), .int .i64 (c.tgt s), .int .i64 (c.lgd s), .int .i64 (c.bud s)]) ∧ Below w.heap.size w w'

-- THE LAW'S BOOK: rs: the routes by their rank
structure Cfg where
  e : Int
  b : Int
  c : Int
  l : Int
def RowR (w : World) (g : Nat) (rs : Nat → Int) : Prop := ∃ cs, w.heap[g]? = some (.cells cs 3 (0, 0)) ∧ cs.size = 2304 ∧ ∀ k, k < 2304 → cs[k]? = some (.int .i64 (rs k))
structure BookF (w : World) (bk g t : Nat) (cf : Cfg) (rs : Nat → Int) : Prop where
  blk : w.heap[bk]? = some (.cells #[.int .i64 cf.e, .int .i64 cf.b, .int .i64 cf.c, .int .i64 cf.l, ptrV t, .slice (some ⟨g, 0, none⟩) 2304 2304] 43 (0, 0))
  row : RowR w g rs
  ne : bk ≠ g
theorem BookF.kept {w w' : World} {bk g t : Nat} {cf : Cfg} {rs : Nat → Int} (h : BookF w bk g t cf rs) (h1 : w'.heap[bk]? = w.heap[bk]?) (h2 : w'.heap[g]? = w.heap[g]?) : BookF w' bk g t cf rs :=
  ⟨h1.trans h.blk, by obtain ⟨cs, h3, h4⟩ := h.row; exact ⟨cs, h2.trans h3, h4⟩, h.ne⟩
theorem BookF.lt {w : World} {bk g t : Nat} {cf : Cfg} {rs : Nat → Int} (h : BookF w bk g t cf rs) : bk < w.heap.size ∧ g < w.heap.size := by
  obtain ⟨cs, h3, _⟩ := h.row
  exact ⟨(Array.getElem?_eq_some_iff.1 h.blk).1, (Array.getElem?_eq_some_iff.1 h3).1⟩
theorem BookF.cell {w : World} {bk g t : Nat} {cf : Cfg} {rs : Nat → Int} (h : BookF w bk g t cf rs) {k : Nat} (hk : k < 2304) : w.cell? ⟨g, k, none⟩ = some (.int .i64 (rs k)) := by
  obtain ⟨cs, h3, _, h4⟩ := h.row
  simp [World.cell?, h3, h4 k hk]
theorem BookF.x {w : World} {bk g t : Nat} {cf : Cfg} {rs : Nat → Int} (h : BookF w bk g t cf rs) : w.cell? ⟨bk, 4, none⟩ = some (ptrV t) := by simp [World.cell?, h.blk]
theorem BookF.r {w : World} {bk g t : Nat} {cf : Cfg} {rs : Nat → Int} (h : BookF w bk g t cf rs) : w.cell? ⟨bk, 5, none⟩ = some (.slice (some ⟨g, 0, none⟩) 2304 2304) := by simp [World.cell?, h.blk]

theorem BookF.fz {w : World} {bk g t : Nat} {cf : Cfg} {rs : Nat → Int} (h : BookF w bk g t cf rs) (o : Nat) : w.frozen? ⟨g, o, none⟩ = false := by
  obtain ⟨cs, h3, _⟩ := h.row
  simp [World.frozen?, h3]

structure Tie (rs : Nat → Int) (xs : List Ent) : Prop where
  val : ∀ a l, isPfx a l = true → rs (9 * a + l).toNat = orZ (getE xs a l)
  z : ∀ k, (∀ a l, isPfx a l = true → (9 * a + l).toNat ≠ k) → rs k = 0
-- all together: the blocks of the table are none of the book's
structure Law (c : TabC) (w : World) (bk g t : Nat) (cf : Cfg) (rs : Nat → Int) (s : c.S) (F : List Nat) : Prop where
  book : BookF w bk g t cf rs
  tab : c.T w t s F
  n1 : bk ∉ F
  n2 : g ∉ F
  tie : Tie rs (c.xs s)
  lg : c.log s = (cf.l, cf.c)

set_option maxHeartbeats 400000 in
theorem use_any (c : TabC) (hc : c.Works) (w : World) (bk g t : Nat) (cf : Cfg) (rs : Nat → Int) (s : c.S) (F : List Nat) (hL : Law c w bk g t cf rs s F) :
    Calls Tryz.prog 19 #[ptrV bk] w fun r w' => r = .returned (.int .i64 (c.use s)) ∧ Below w.heap.size w w' := by
  have hx := hL.book.x
  have hl := hL.book.lt.1
  obtain ⟨h0, h1, h2, h3, h4, h5, h6, h7, h8⟩ := c.nums hL.tab
  have e1 : IntKind.i64.wrap (c.act s + c.tgt s) = c.act s + c.tgt s := by rw [IntKind.wrap_i64]; omega
  have e2 : IntKind.i64.wrap (c.act s + c.tgt s + c.lgd s) = c.act s + c.tgt s + c.lgd s := by rw [IntKind.wrap_i64]; omega
  have hcl := hide (hc.cells w t s F hL.tab)
  go_enter Tryz.func19, Tryz.ntmps19
  go_wp2_with (go_at_call 20; refine hcl.out.mono ?_; rintro e w1 ⟨rfl, hb⟩)
  go_ret
  exact ⟨rfl, hb.alloc hb.size _⟩

-- storing a route
def upd (rs : Nat → Int) (k : Nat) (n : Int) : Nat → Int := fun j => if j = k then n else rs j
theorem RowR.put {w : World} {g : Nat} {rs : Nat → Int} (h : RowR w g rs) (k : Nat) (n : Int) : RowR (w.setCell ⟨g, k, none⟩ (.int .i64 n)) g (upd rs k n) := by
  obtain ⟨cs, h3, h4, h5⟩ := h
  have hg := (Array.getElem?_eq_some_iff.1 h3).1
  refine ⟨cs.setIfInBounds k (.int .i64 n), ?_, by simpa using h4, fun j hj => ?_⟩
  · have hg3 : w.heap[g]? = some w.heap[g] := Array.getElem?_eq_some_iff.2 ⟨hg, rfl⟩
    rw [hg3] at h3
    simp only [World.setCell, Array.getElem?_modify, if_true, hg3, Option.map_some, Option.some.inj h3]
    rfl
  · unfold upd
    rw [Array.getElem?_setIfInBounds]
    by_cases hjk : j = k
    · subst hjk; simp [h4, hj]
    · rw [if_neg (by omega), if_neg hjk]; exact h5 j hj
theorem RowR.cell {w : World} {g : Nat} {rs : Nat → Int} (h : RowR w g rs) {k : Nat} (hk : k < 2304) : w.cell? ⟨g, k, none⟩ = some (.int .i64 (rs k)) := by
  obtain ⟨cs, h3, _, h4⟩ := h
  simp [World.cell?, h3, h4 k hk]
theorem RowR.fz {w : World} {g : Nat} {rs : Nat → Int} (h : RowR w g rs) (o : Nat) : w.frozen? ⟨g, o, none⟩ = false := by
  obtain ⟨cs, h3, _⟩ := h
  simp [World.frozen?, h3]
theorem RowR.kept {w w' : World} {g : Nat} {rs : Nat → Int} (h : RowR w g rs) (h2 : w'.heap[g]? = w.heap[g]?) : RowR w' g rs := by
  obtain ⟨cs, h3, h4⟩ := h; exact ⟨cs, h2.trans h3, h4⟩
theorem RowR.lt {w : World} {g : Nat} {rs : Nat → Int} (h : RowR w g rs) : g < w.heap.size := by
  obtain ⟨cs, h3, h4⟩ := h; exact (Array.getElem?_eq_some_iff.1 h3).1
theorem BookF.put {w : World} {bk g t : Nat} {cf : Cfg} {rs : Nat → Int} (h : BookF w bk g t cf rs) (k : Nat) (n : Int) : BookF (w.setCell ⟨g, k, none⟩ (.int .i64 n)) bk g t cf (upd rs k n) :=
  ⟨(Below.heap_setCell _ _ _ _ h.ne).trans h.blk, h.row.put k n, h.ne⟩
-- a new row of zeros
theorem makeRow : ∃ M : Array Value, M.size = 2304 ∧ (∀ k, k < 2304 → M[k]? = some (.int .i64 0)) ∧ ∀ w, (Instr.makeSlice 41 (.int .i64 2304) (.int .i64 2304)).run Tryz.prog w = .ok (.slice (some ⟨w.heap.size, 0, none⟩) 2304 2304) (w.alloc (.cells M 3)) := by
  refine ⟨madeCells #[.int .i64 0] 2304, size_madeCells _ _, fun k hk => by simp [madeCells, hk, Nat.mod_one], fun w => ?_⟩
  exact run_make_row' (P := Tryz.prog) 41 3 (.int .i64 0) 8 Tryz.underlying41 (by kernel_rfl) rfl .i64 .i64 2304 (by omega) (by omega) w
theorem rank_inj {a l b m : Int} (h : isPfx a l = true) (k : isPfx b m = true) (he : (9 * a + l).toNat = (9 * b + m).toNat) : a = b ∧ l = m := by
  have h1 := (isPfx_iff _ _).1 h
  have h2 := (isPfx_iff _ _).1 k
  omega
theorem getE_set {xs : List Ent} {a l n : Int} (hs : Sorted xs) (b m : Int) : orZ (getE (setE xs a l n) b m) = if a = b ∧ l = m then n else orZ (getE xs b m) := by
  unfold setE
  split
  · rename_i h
    rw [getE_del hs]
    split
    · simp [orZ, h]
    · rfl
  · rw [getE_put hs]
    split
    · simp [orZ]
    · rfl
theorem Tie.put {rs : Nat → Int} {xs : List Ent} (h : Tie rs xs) (hs : Sorted xs) {a l n : Int} (hp : isPfx a l = true) : Tie (upd rs (9 * a + l).toNat n) (setE xs a l n) := by
  refine ⟨fun b m hb => ?_, fun k hk => ?_⟩
  · rw [getE_set hs]
    unfold upd
    by_cases he : a = b ∧ l = m
    · rw [if_pos (by rw [he.1, he.2]), if_pos he]
    · rw [if_neg (fun h1 => he (rank_inj hp hb h1.symm)), if_neg he]
      exact h.val b m hb
  · unfold upd
    rw [if_neg (fun h1 => hk a l hp h1.symm)]
    exact h.z k hk

def LawPost (c : TabC) (bk g t : Nat) (cf : Cfg) (s : c.S) (F : List Nat) (w : World) (r : Ending) (w' : World) : Prop :=
  r = .returned (.bool true) ∧ ∃ g' rs' s' F', Law c w' bk g' t cf rs' s' F' ∧ c.fits s s' ∧ Only (bk :: g :: F) w w' ∧ NewF w (bk :: g :: F) (bk :: g' :: F')

end Go.Proofs.YtglbamalagacgaaGreat

namespace Go.Proofs.YtglbamalagacgaaGreat
open Go.RowKit Go.Shelf

attribute [local go_sem] Oper.semAt_some

abbrev stepV (k a l n : Int) (v : Value) : Value := .agg #[.int .i64 k, .int .i64 a, .int .i64 l, .int .i64 n, v]

-- behind a call on the table that the book has boxed its step for
theorem Law.after {c : TabC} {w w1 w2 : World} {bk g t : Nat} {cf : Cfg} {rs : Nat → Int} {s s' : c.S} {F F' : List Nat} (hL : Law c w bk g t cf rs s F) (hB : Below w.heap.size w w1) (hT : c.T w2 t s' F') (hN : NewF w1 F F') (hO : Only F w1 w2) (hl : c.log s' = c.log s) (hx : c.xs s' = c.xs s) :
    Law c w2 bk g t cf rs s' F' ∧ Only F w w2 ∧ NewF w F F' := by
  have lt := hL.book.lt
  have hs := hB.size
  refine ⟨⟨hL.book.kept ?_ ?_, hT, fun h => ?_, fun h => ?_, by rw [hx]; exact hL.tie, hl.trans hL.lg⟩, (Only.of_below _ hB).trans hO (fun x hx => .inl hx), fun k hk => (hN k hk).imp id fun h => by omega⟩
  · exact (hO.block bk (by omega) hL.n1).trans (hB.block bk lt.1)
  · exact (hO.block g (by omega) hL.n2).trans (hB.block g lt.2)
  · rcases hN _ h with h1 | h1
    · exact hL.n1 h1
    · omega
  · rcases hN _ h with h1 | h1
    · exact hL.n2 h1
    · omega

theorem Law.post {c : TabC} {w w2 : World} {bk g t : Nat} {cf : Cfg} {rs : Nat → Int} {s s' : c.S} {F F' : List Nat} (q1 : Law c w2 bk g t cf rs s' F') (hf : c.fits s s') (q2 : Only (bk :: g :: F) w w2) (q3 : NewF w F F') : LawPost c bk g t cf s F w (.returned (.bool true)) w2 :=
  ⟨rfl, g, rs, s', F', q1, hf, q2, fun k hk => by
      simp at hk ⊢; rcases hk with rfl | rfl | hk
      · exact .inl (.inl rfl)
      · exact .inl (.inr (.inl rfl))
      · exact (q3 k hk).imp (fun h => .inr (.inr h)) id⟩
theorem Only.wide {F : List Nat} {a b : World} (h : Only F a b) (x y : Nat) : Only (x :: y :: F) a b := h.mono (by simp; intro k hk _; exact .inr (.inr hk))
theorem Law.putR {c : TabC} {w w2 : World} {bk g t : Nat} {cf : Cfg} {rs : Nat → Int} {s s' : c.S} {F F' : List Nat} (hL : Law c w bk g t cf rs s F) (q2 : Only F w w2) (hT : c.T w2 t s' F') (q3 : NewF w F F') (hlg : c.log s' = c.log s) (hf : c.fits s s') {a l n : Int} (hp : isPfx a l = true) (hx : c.xs s' = setE (c.xs s) a l n) :
    LawPost c bk g t cf s F w (.returned (.bool true)) (w2.setCell ⟨g, (9 * a + l).toNat, none⟩ (.int .i64 n)) := by
  have lt := hL.book.lt
  have n1 : bk ∉ F' := fun h => by
    rcases q3 _ h with h1 | h1
    · exact hL.n1 h1
    · omega
  have n2 : g ∉ F' := fun h => by
    rcases q3 _ h with h1 | h1
    · exact hL.n2 h1
    · omega
  have hb2 := hL.book.kept (q2.block bk lt.1 hL.n1) (q2.block g lt.2 hL.n2)
  refine Law.post ⟨hb2.put _ n, c.kept hT fun k hk => Below.heap_setCell _ _ _ _ (fun e => n2 (by rw [show g = k from e.symm]; exact hk)), n1, n2, by rw [hx]; exact hL.tie.put (c.sorted hL.tab) hp, hlg.trans hL.lg⟩ hf ?_ q3
  exact ⟨q2.os, q2.tape, q2.output, by simpa [World.setCell] using q2.size, fun k hk hn => by
    simp at hn
    exact (Below.heap_setCell _ _ _ _ hn.2.1).trans (q2.block k hk hn.2.2)⟩

set_option maxHeartbeats 1000000 in
theorem adds_any (c : TabC) (hc : c.Works) (w : World) (bk g t : Nat) (cf : Cfg) (rs : Nat → Int) (s : c.S) (F : List Nat) (hL : Law c w bk g t cf rs s F) (k a l n : Int) (v : Value) :
    Calls Tryz.prog 36 #[ptrV bk, stepV k a l n v] w (LawPost c bk g t cf s F w) := by
  have hx := hL.book.x
  have hl := hL.book.lt.1
  have hFl := c.lt hL.tab
  have nb : bk ∉ F := hL.n1
  have no : w.heap.size ∉ F := fun h => by have := hFl _ h; omega
  have hB1 : Below w.heap.size w (w.alloc (.cells #[.int .i64 k, .int .i64 a, .int .i64 l, .int .i64 n, v] 35)).drew := ((Below.refl _ w).alloc (Nat.le_refl _) _).drew
  have hT1 : c.T (w.alloc (.cells #[.int .i64 k, .int .i64 a, .int .i64 l, .int .i64 n, v] 35)).drew t s F := c.kept hL.tab fun k hk => hB1.block k (hFl k hk)
  have hadd := hide (hc.add _ t s F a l n hT1)
  have Hlaw := hide hL
  have HB1 := hide hB1
  go_enter Tryz.func36, Tryz.ntmps36
  go_wp2
  go_region_held3 (fun w' => w'.cell? ⟨bk, 4, none⟩ = some (ptrV t) ∧ w'.cell? ⟨w.heap.size, 1, none⟩ = some (.int .i64 a) ∧ w'.cell? ⟨w.heap.size, 2, none⟩ = some (.int .i64 l) ∧ w'.cell? ⟨w.heap.size, 3, none⟩ = some (.int .i64 n)) (go_keep)
    (first
      | (go_at_call 59; refine hadd.out.mono ?_; rintro _ w2 ⟨_, s', F', rfl, ⟨e, rfl, hR⟩, hT, hN, hO, hlg⟩; (have k0 : ∀ o, w2.cell? ⟨bk, o, none⟩ = w.cell? ⟨bk, o, none⟩ := fun o => (hO.cell (by simp; omega) nb).trans (HB1.out.cell (p := ⟨bk, o, none⟩) hl)); (have k1 := fun o => hO.cell (o := o) (b := w.heap.size) (by simp) no)))
  clear hadd k0 k1
  rcases hR with ⟨hp, rfl, rfl⟩ | ⟨hp, hn, rfl, rfl⟩ | ⟨hp, h1, h2, hg, rfl, rfl⟩ | ⟨hp, h1, h2, hx2, hb, hf, rfl⟩
  · obtain ⟨q1, q2, q3⟩ := Hlaw.out.after HB1.out hT hN hO hlg rfl
    have fin := hide (q1.post (TabC.fits_refl _ _) (q2.wide bk g) q3)
    clear hT hN hO q1 q2 q3 hT1 hB1 hL
    go_wp2_with (go_at_call 50; refine (proper_no a l hp _).mono ?_; rintro e w' ⟨rfl, rfl⟩)
    go_ret
    exact fin.out
  · obtain ⟨q1, q2, q3⟩ := Hlaw.out.after HB1.out hT hN hO hlg rfl
    have fin := hide (q1.post (TabC.fits_refl _ _) (q2.wide bk g) q3)
    clear hT hN hO q1 q2 q3 hT1 hB1 hL
    by_cases h1 : n < 1
    · clear hn
      go_wp2_with (go_at_call 50; refine (proper_yes a l hp _).mono ?_; rintro e w' ⟨rfl, rfl⟩)
      go_ret
      exact fin.out
    · have h2 : 255 < n := by omega
      have h3 : decide (n < 1) = false := by simpa using h1
      clear hn
      go_wp2_with (go_at_call 50; refine (proper_yes a l hp _).mono ?_; rintro e w' ⟨rfl, rfl⟩)
      go_ret
      exact fin.out
  · obtain ⟨q1, q2, q3⟩ := Hlaw.out.after HB1.out hT hN hO hlg rfl
    have fin := hide (q1.post (TabC.fits_refl _ _) (q2.wide bk g) q3)
    have hz := q1.tie.val a l hp
    rw [hg] at hz
    obtain ⟨p0, p1, p2, p3, _⟩ := (isPfx_iff a l).1 hp
    obtain ⟨m, hm⟩ : ∃ m : Nat, 9 * a + l = (m : Int) := ⟨(9 * a + l).toNat, by omega⟩
    have m1 : (m : Int) < 2304 := by omega
    have m0 : (0 : Int) ≤ (m : Int) := by omega
    have r5 := q1.book.r
    have rm := q1.book.cell (k := m) (by omega)
    rw [show m = (9 * a + l).toNat by omega, hz, show (9 * a + l).toNat = m by omega, show orZ none = 0 from rfl] at rm
    have h3 : decide (n < 1) = false := by simp; omega
    have h4 : decide (255 < n) = false := by simp; omega
    clear hT hN hO q1 q2 q3 hT1 hB1 hL hz p0 p1 p2 p3
    go_wp2_with (first
      | (go_at_call 50; refine (proper_yes a l hp _).mono ?_; rintro e w' ⟨rfl, rfl⟩)
      | (go_at_call 43; refine (rank_any a l hp _).mono ?_; rw [hm]; rintro e w' ⟨rfl, rfl⟩))
    go_ret
    exact fin.out
  · have q2 : Only F w w2 := (Only.of_below _ HB1.out).trans hO (fun x hx => .inl hx)
    have q3 : NewF w F F' := fun k hk => (hN k hk).imp id fun h => by have := HB1.out.size; omega
    have fin := hide (Hlaw.out.putR (q2.trans (Only.of_below [] (Below.refl _ w2).drew) (by simp)) (c.kept hT fun _ _ => rfl) q3 hlg hf hp hx2)
    have lt := Hlaw.out.book.lt
    have hbk := Hlaw.out.book.kept (q2.block bk lt.1 Hlaw.out.n1) (q2.block g lt.2 Hlaw.out.n2)
    obtain ⟨p0, p1, p2, p3, _⟩ := (isPfx_iff a l).1 hp
    obtain ⟨m, hm⟩ : ∃ m : Nat, 9 * a + l = (m : Int) := ⟨(9 * a + l).toNat, by omega⟩
    have m1 : (m : Int) < 2304 := by omega
    have m0 : (0 : Int) ≤ (m : Int) := by omega
    rw [show (9 * a + l).toNat = m by omega] at fin
    have r5 := hbk.r
    have rm := hbk.cell (k := m) (by omega)
    have rf := hbk.fz m
    have hne : bk ≠ g := hbk.ne
    have hne0 : g ≠ bk := hne.symm
    have hne3 : g ≠ w.heap.size := by omega
    have hne2 : w.heap.size ≠ g := by omega
    have hgo : g < w.heap.size := lt.2
    have h3 : decide (n < 1) = false := by simp; omega
    have h4 : decide (255 < n) = false := by simp; omega
    clear hT hN hO q2 q3 hT1 hB1 hL p0 p1 p2 p3 hbk lt
    go_wp2_with (first
      | (go_at_call 50; refine (proper_yes a l hp _).mono ?_; rintro e w' ⟨rfl, rfl⟩)
      | (go_at_call 43; refine (rank_any a l hp _).mono ?_; rw [hm]; rintro e w' ⟨rfl, rfl⟩))
    go_region_held3 (fun w' => w'.cell? ⟨bk, 5, none⟩ = some (.slice (some ⟨g, 0, none⟩) 2304 2304) ∧ w'.cell? ⟨w.heap.size, 3, none⟩ = some (.int .i64 n)) (go_keep) (fail)
    go_wp2
    go_ret
    exact fin.out

end Go.Proofs.YtglbamalagacgaaGreat

namespace Go.Proofs.YtglbamalagacgaaGreat
open Go.RowKit Go.Shelf

attribute [local go_sem] Oper.semAt_some

theorem orZ_ok {xs : List Ent} {a l : Int} (h : ∀ x ∈ xs, okE x) (hs : (getE xs a l).isSome = true) : (orZ (getE xs a l) == 0) = false := by
  induction xs with
  | nil => simp [getE] at hs
  | cons x xs ih =>
    rw [getE] at hs ⊢
    split
    · have := (h x (by simp)).2
      simp [orZ]
      omega
    · rename_i hne
      rw [if_neg hne] at hs
      exact ih (fun y hy => h y (by simp [hy])) hs

set_option maxHeartbeats 1000000 in
theorem deletes_any (c : TabC) (hc : c.Works) (w : World) (bk g t : Nat) (cf : Cfg) (rs : Nat → Int) (s : c.S) (F : List Nat) (hL : Law c w bk g t cf rs s F) (k a l n : Int) (v : Value) :
    Calls Tryz.prog 37 #[ptrV bk, stepV k a l n v] w (LawPost c bk g t cf s F w) := by
  have hx := hL.book.x
  have hl := hL.book.lt.1
  have hFl := c.lt hL.tab
  have nb : bk ∉ F := hL.n1
  have no : w.heap.size ∉ F := fun h => by have := hFl _ h; omega
  have hB1 : Below w.heap.size w (w.alloc (.cells #[.int .i64 k, .int .i64 a, .int .i64 l, .int .i64 n, v] 35)).drew := ((Below.refl _ w).alloc (Nat.le_refl _) _).drew
  have hT1 : c.T (w.alloc (.cells #[.int .i64 k, .int .i64 a, .int .i64 l, .int .i64 n, v] 35)).drew t s F := c.kept hL.tab fun k hk => hB1.block k (hFl k hk)
  have hadd := hide (hc.del _ t s F a l hT1)
  have Hlaw := hide hL
  have HB1 := hide hB1
  go_enter Tryz.func37, Tryz.ntmps37
  go_wp2
  go_region_held3 (fun w' => w'.cell? ⟨bk, 4, none⟩ = some (ptrV t) ∧ w'.cell? ⟨w.heap.size, 1, none⟩ = some (.int .i64 a) ∧ w'.cell? ⟨w.heap.size, 2, none⟩ = some (.int .i64 l)) (go_keep)
    (first
      | (go_at_call 60; refine hadd.out.mono ?_; rintro _ w2 ⟨_, s', F', rfl, ⟨e, rfl, hR⟩, hT, hN, hO, hlg⟩; (have k0 : ∀ o, w2.cell? ⟨bk, o, none⟩ = w.cell? ⟨bk, o, none⟩ := fun o => (hO.cell (by simp; omega) nb).trans (HB1.out.cell (p := ⟨bk, o, none⟩) hl)); (have k1 := fun o => hO.cell (o := o) (b := w.heap.size) (by simp) no)))
  clear hadd k0 k1
  rcases hR with ⟨hp, rfl, rfl⟩ | ⟨hp, hg, rfl, rfl⟩ | ⟨hp, hsm, hx2, hb, hf, rfl⟩
  · obtain ⟨q1, q2, q3⟩ := Hlaw.out.after HB1.out hT hN hO hlg rfl
    have fin := hide (q1.post (TabC.fits_refl _ _) (q2.wide bk g) q3)
    clear hT hN hO q1 q2 q3 hT1 hB1 hL
    go_wp2_with (go_at_call 50; refine (proper_no a l hp _).mono ?_; rintro e w' ⟨rfl, rfl⟩)
    go_ret
    exact fin.out
  · obtain ⟨q1, q2, q3⟩ := Hlaw.out.after HB1.out hT hN hO hlg rfl
    have fin := hide (q1.post (TabC.fits_refl _ _) (q2.wide bk g) q3)
    have hz := q1.tie.val a l hp
    rw [hg] at hz
    obtain ⟨p0, p1, p2, p3, _⟩ := (isPfx_iff a l).1 hp
    obtain ⟨m, hm⟩ : ∃ m : Nat, 9 * a + l = (m : Int) := ⟨(9 * a + l).toNat, by omega⟩
    have m1 : (m : Int) < 2304 := by omega
    have m0 : (0 : Int) ≤ (m : Int) := by omega
    have r5 := q1.book.r
    have rm := q1.book.cell (k := m) (by omega)
    rw [show m = (9 * a + l).toNat by omega, hz, show (9 * a + l).toNat = m by omega, show orZ none = 0 from rfl] at rm
    clear hT hN hO q1 q2 q3 hT1 hB1 hL hz p0 p1 p2 p3
    go_wp2_with (first
      | (go_at_call 50; refine (proper_yes a l hp _).mono ?_; rintro e w' ⟨rfl, rfl⟩)
      | (go_at_call 43; refine (rank_any a l hp _).mono ?_; rw [hm]; rintro e w' ⟨rfl, rfl⟩))
    go_ret
    exact fin.out
  · have q2 : Only F w w2 := (Only.of_below _ HB1.out).trans hO (fun x hx => .inl hx)
    have q3 : NewF w F F' := fun k hk => (hN k hk).imp id fun h => by have := HB1.out.size; omega
    have fin := hide (Hlaw.out.putR q2 hT q3 hlg hf hp hx2)
    have lt := Hlaw.out.book.lt
    have hbk := Hlaw.out.book.kept (q2.block bk lt.1 Hlaw.out.n1) (q2.block g lt.2 Hlaw.out.n2)
    obtain ⟨p0, p1, p2, p3, _⟩ := (isPfx_iff a l).1 hp
    obtain ⟨m, hm⟩ : ∃ m : Nat, 9 * a + l = (m : Int) := ⟨(9 * a + l).toNat, by omega⟩
    have m1 : (m : Int) < 2304 := by omega
    have m0 : (0 : Int) ≤ (m : Int) := by omega
    rw [show (9 * a + l).toNat = m by omega] at fin
    have r5 := hbk.r
    have rm := hbk.cell (k := m) (by omega)
    have hz : (rs m == 0) = false := by
      have h1 := Hlaw.out.tie.val a l hp
      rw [show (9 * a + l).toNat = m by omega] at h1
      rw [h1]
      exact orZ_ok (c.ok Hlaw.out.tab) hsm
    have rf := hbk.fz m
    generalize rs m = z at rm hz
    clear hT hN hO q2 q3 hT1 hB1 hL p0 p1 p2 p3 hbk lt
    go_wp2_with (first
      | (go_at_call 50; refine (proper_yes a l hp _).mono ?_; rintro e w' ⟨rfl, rfl⟩)
      | (go_at_call 43; refine (rank_any a l hp _).mono ?_; rw [hm]; rintro e w' ⟨rfl, rfl⟩))
    go_ret
    exact fin.out

end Go.Proofs.YtglbamalagacgaaGreat
