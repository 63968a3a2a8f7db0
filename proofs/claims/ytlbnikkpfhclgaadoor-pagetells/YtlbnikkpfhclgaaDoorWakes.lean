/-
  What wakes returns: true, and all that lay in memory is as it was.
-/
import Derived.Test.YtlbnikkpfhclgaaDoorGet
namespace Go.Proofs.YtlbnikkpfhclgaaDoor
open Go.RowKit

theorem guard23 : Tryd.prog.eqGuardType Tryd.prog.depth 23 = false := by kernel_rfl
/-- Are two pages one? -/
def eqPg (k g : Int) (s : ByteArray) (k' g' : Int) (s' : ByteArray) : Bool := k == k' && (g == g' && s.toList == s'.toList)
theorem eqPg_self (k g : Int) (s : ByteArray) : eqPg k g s k g s = true := by simp [eqPg]
theorem eq_pages (k g : Int) (s : ByteArray) (k' g' : Int) (s' : ByteArray) (w : World) :
    (Op.equalIn 10000 23 (.agg #[.int .i64 k, .int .i64 g, .string s]) (.agg #[.int .i64 k', .int .i64 g', .string s'])).run Tryd.prog w = .ok (eqPg k g s k' g' s') w := by
  have e : Tryd.prog.fieldsOf 23 = #[⟨ "Kind", 3, 0, false, "", "", 0⟩, ⟨ "Gen", 3, 1, false, "", "", 8⟩, ⟨ "Payload", 9, 2, false, "", "", 16⟩] := by
    unfold Program.fieldsOf; rw [Tryd.underlying23]
  have p0 : ∀ (k g : Int) (s : ByteArray) (w : World), (part 3 #[.int .i64 k, .int .i64 g, .string s] 0).run Tryd.prog w = .ok (.int .i64 k) w := fun k g s w => by simp [part, isAgg, run_underlying Tryd.underlying3]
  have p1 : ∀ (k g : Int) (s : ByteArray) (w : World), (part 3 #[.int .i64 k, .int .i64 g, .string s] 1).run Tryd.prog w = .ok (.int .i64 g) w := fun k g s w => by simp [part, isAgg, run_underlying Tryd.underlying3]
  have p2 : ∀ (k g : Int) (s : ByteArray) (w : World), (part 9 #[.int .i64 k, .int .i64 g, .string s] 2).run Tryd.prog w = .ok (.string s) w := fun k g s w => by simp [part, isAgg, run_underlying Tryd.underlying9]
  rw [show (10000 : Nat) = 9999 + 1 from rfl, run_equalIn_struct w 9999 23 _ _ (by rw [e]; exact Tryd.underlying23) (by kernel_rfl), e]
  have q3 : ∀ a b w, (Op.equalIn 9999 3 (.int .i64 a) (.int .i64 b)).run Tryd.prog w = .ok (a == b) w := fun a b w => run_equalIn_int (P := Tryd.prog) w 9998 3 .i64 .i64 a b Tryd.underlying3
  have q9 : ∀ a b w, (Op.equalIn 9999 9 (.string a) (.string b)).run Tryd.prog w = .ok (a.toList == b.toList) w := fun a b w => run_equalIn_string (P := Tryd.prog) w 9998 9 a b Tryd.underlying9
  simp only [Op.eqFields, ne_eq, String.reduceEq, not_false_eq_true, if_true, Sem.run_bind, p0, p1, p2, Result.andThen_ok, q3, q9, Sem.run_ite, Sem.run_pure]
  unfold eqPg
  cases k == k'
  · rfl
  cases g == g'
  · rfl
  cases s.toList == s'.toList <;> rfl

def abc : ByteArray := ⟨#[97, 98, 99]⟩
def wake : List UInt8 := pageB (frOf 2 258 5 (L abc))
theorem wake_size : (bs wake).size = 256 := by decide +kernel
theorem wake12 : ((bs wake).extract 0 12).toList = [2, 1, 2, 0, 0, 0, 5, 0, 3, 97, 98, 99] := by rw [ByteArray.toList_eq]; decide +kernel
theorem wake_right : rightB wake = true := by decide +kernel
theorem wake_other : rightB (L ((bs wake).extract 1 256 ++ ⟨#[120]⟩)) = false := by decide +kernel
theorem wake_three : ∀ (k n g : Nat) (s : ByteArray), 1 ≤ k → k < 256 → n < 65536 → (3 : Int) = (n : Int) → g < 2147483648 → s.size ≤ 243 → bs wake ≠ bs (pageB (frOf k n g (L s))) := fun k n g s h1 h2 h3 h4 h5 h6 h => by
  have h7 := congrArg frIn (bs_inj h)
  rw [show wake = pageB (frOf 2 258 5 (L abc)) from rfl, in_page (frOf_ok (by decide) (by decide) (by decide) (by decide)), in_page (frOf_ok h2 h3 (by omega) (by rw [L_size]; exact h6))] at h7
  have h8 : (258 : Nat) = n := congrArg Fr.n h7
  omega

end Go.Proofs.YtlbnikkpfhclgaaDoor
