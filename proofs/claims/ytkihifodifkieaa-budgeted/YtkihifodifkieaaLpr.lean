import Derived.Test.YtkihifodifkieaaEng
namespace Go.Proofs.Ytkihifodifkieaa
open Go.RowKit Go.Shelf

attribute [local go_sem] Oper.semAt_some

set_option maxHeartbeats 400000 in
theorem width_any (l : Int) (h0 : 0 ≤ l) (h8 : l ≤ 8) (w : World) :
    Calls Try.prog 31 #[.int .i64 l] w fun e w' => e = .returned (.int .i64 (wid l)) ∧ w' = w := by
  have h : l = 0 ∨ l = 1 ∨ l = 2 ∨ l = 3 ∨ l = 4 ∨ l = 5 ∨ l = 6 ∨ l = 7 ∨ l = 8 := by omega
  rcases h with rfl | rfl | rfl | rfl | rfl | rfl | rfl | rfl | rfl
  all_goals
    go_enter Try.func31, Try.ntmps31
    go_wp2
    go_ret
    exact ⟨rfl, rfl⟩

theorem isPfx_no {a l : Int} (h : ¬ (0 ≤ l ∧ l ≤ 8 ∧ 0 ≤ a ∧ a < 256)) : isPfx a l = false := by
  rw [Bool.eq_false_iff]
  intro h1
  have := (isPfx_iff _ _).1 h1
  exact h ⟨this.1, this.2.1, this.2.2.1, this.2.2.2.1⟩

set_option maxHeartbeats 400000 in
theorem rank_any (a l : Int) (h : isPfx a l = true) (w : World) :
    Calls Try.prog 20 #[.int .i64 a, .int .i64 l] w fun e w' => e = .returned (.int .i64 (9 * a + l)) ∧ w' = w := by
  obtain ⟨h0, h1, h2, h3, _⟩ := (isPfx_iff a l).1 h
  have e1 : IntKind.i64.wrap (9 * a) = 9 * a := by rw [IntKind.wrap_i64]; omega
  have e2 : IntKind.i64.wrap (9 * a + l) = 9 * a + l := by rw [IntKind.wrap_i64]; omega
  clear h
  go_enter Try.func20, Try.ntmps20
  go_wp2
  go_ret
  exact ⟨rfl, rfl⟩

set_option maxHeartbeats 400000 in
theorem proper_any (a l : Int) (w : World) :
    Calls Try.prog 19 #[.int .i64 a, .int .i64 l] w fun e w' => e = .returned (.bool (isPfx a l)) ∧ w' = w := by
  by_cases h0 : 0 ≤ l
  · by_cases h8 : l ≤ 8
    · by_cases ha0 : 0 ≤ a
      · by_cases ha1 : a ≤ 255
        · have hp : isPfx a l = decide (a % wid l = 0) := by simp [isPfx, h0, h8, ha0, show a < 256 by omega]
          rw [hp]
          have hw0 := (wid_bd l).1
          have hw1 := (wid_bd l).2
          have hwn : ¬ wid l = 0 := by omega
          go_enter Try.func19, Try.ntmps19
          go_wp2_with (go_at_call 31; refine (width_any l h0 h8 _).mono ?_; rintro e w' ⟨rfl, rfl⟩)
          go_ret
          exact ⟨ret_bool (by rw [Bool.eq_iff_iff]; simp), rfl⟩
        · rw [isPfx_no (by omega)]
          have hd : decide (a ≤ 255) = false := by simpa using ha1
          go_enter Try.func19, Try.ntmps19
          go_wp2
          go_ret
          exact ⟨rfl, rfl⟩
      · rw [isPfx_no (by omega)]
        have hd : decide (0 ≤ a) = false := by simpa using ha0
        go_enter Try.func19, Try.ntmps19
        go_wp2
        go_ret
        exact ⟨rfl, rfl⟩
    · rw [isPfx_no (by omega)]
      have hd : decide (l ≤ 8) = false := by simpa using h8
      go_enter Try.func19, Try.ntmps19
      go_wp2
      go_ret
      exact ⟨rfl, rfl⟩
  · rw [isPfx_no (by omega)]
    have hd : decide (0 ≤ l) = false := by simpa using h0
    go_enter Try.func19, Try.ntmps19
    go_wp2
    go_ret
    exact ⟨rfl, rfl⟩

theorem proper_no (a l : Int) (h : isPfx a l = false) (w : World) :
    Calls Try.prog 19 #[.int .i64 a, .int .i64 l] w fun e w' => e = .returned (.bool false) ∧ w' = w := by
  have := proper_any a l w
  rwa [h] at this
theorem proper_yes (a l : Int) (h : isPfx a l = true) (w : World) :
    Calls Try.prog 19 #[.int .i64 a, .int .i64 l] w fun e w' => e = .returned (.bool true) ∧ w' = w := by
  have := proper_any a l w
  rwa [h] at this

end Go.Proofs.Ytkihifodifkieaa
