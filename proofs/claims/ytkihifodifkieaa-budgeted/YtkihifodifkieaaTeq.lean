import Derived.Test.YtkihifodifkieaaTrl
import Derived.ChangeKeysEq
namespace Go.Proofs.Ytkihifodifkieaa
open Go.RowKit

theorem ptrInfo : ∃ i, Try.prog.info? 82 = some i := by
  have h : (Try.prog.info? 82).isSome = true := by kernel_rfl
  cases hq : Try.prog.info? 82 with
  | none => rw [hq] at h; cases h
  | some i => exact ⟨i, rfl⟩
theorem arr_eql (w : World) (p1 p2 : Option Addr) : (Op.equalIn 9999 83 (.agg #[.pointer p1, .pointer p2]) (.agg #[.pointer none, .pointer none])).run Try.prog w = .ok (p1.isNone && p2.isNone) w := by
  obtain ⟨i, hi⟩ := ptrInfo
  have hc : Try.prog.cellsOf 82 = 1 := by kernel_rfl
  have hit := run_equalIn_array (P := Try.prog) (w := w) 9998 (t := 83) (e := 82) (n := 2) (i := i) #[.pointer p1, .pointer p2] #[.pointer none, .pointer none] Try.underlying83 hi
  have hq0 : ∀ (y z : Value) (w : World), (part 82 #[y, z] 0).run Try.prog w = .ok y w := fun y z w => by simp [go_sem]
  have hq1 : ∀ (y z : Value) (w : World), (part 82 #[y, z] 1).run Try.prog w = .ok z w := fun y z w => by simp [go_sem]
  have hpp : ∀ p : Option Addr, (Op.equalIn 9998 82 (.pointer p) (.pointer none)).run Try.prog w = .ok p.isNone w := fun p => run_equalIn_pointer_nil w 9997 82 p (by kernel_rfl)
  have hr : List.range 2 = [0, 1] := rfl
  rw [hit, hc, hr]
  simp only [Op.eqItems, Sem.run_bind, Nat.zero_mul, Nat.one_mul, hq0, Result.andThen_ok, hpp]
  cases p1.isNone <;> cases hb2 : p2.isNone <;> simp [hq1, hpp, hb2]

end Go.Proofs.Ytkihifodifkieaa
