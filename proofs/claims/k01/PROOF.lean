import PyProof.Rows.All
import Wide.All
import OpenK.AllK
import Wide.FinOn
import PySem.Challenge.RW_linewarden_k01_an_address_cut
set_option Elab.async false
/-! An address cut into line and spot, and led back. // and % by the drawn width hand on letters; that they are unlike no others is shown apart. -/
namespace Cut
open PySem PySem.W PySem.Calls PyProof.Rows
theorem uniq {q L y m s : Int} (e : q * y + m = L * y + s) (m0 : 0 ≤ m) (m1 : m < y) (s0 : 0 ≤ s) (s1 : s < y) : q = L := by
  rcases (by omega : q = L ∨ L + 1 ≤ q ∨ q + 1 ≤ L) with h | h | h
  · exact h
  · have := Int.mul_le_mul_of_nonneg_right h (by omega : 0 ≤ y)
    rw [Int.add_mul, Int.one_mul] at this
    omega
  · have := Int.mul_le_mul_of_nonneg_right h (by omega : 0 ≤ y)
    rw [Int.add_mul, Int.one_mul] at this
    omega
theorem uniq_r {q L y m s : Int} (e : q * y + m = L * y + s) (m0 : 0 ≤ m) (m1 : m < y) (s0 : 0 ≤ s) (s1 : s < y) : m = s := by
  have := uniq e m0 m1 s0 s1
  subst this
  omega
theorem quot (x y : Int) : Int.fdiv x y * y + Int.fmod x y = x := by
  rw [Int.fmod_def, Int.mul_comm]
  omega
section
variable {prog : Program} {w : World} {A : Around} {E : Value → Shared → Prop} {s : Shared} {x y : Int} {t u : Tok} {Q : Value → Shared → Prop}
theorem step_div (hy : 0 < y) (hs : y ≤ 100000) (h : ∀ q, q * y + Int.fmod x y = x → 0 ≤ Int.fmod x y → Int.fmod x y < y → Q (.int q s.toks) { s with toks := s.toks + 1 }) :
    wpAny (model prog w) A (binaryOp .FloorDiv (.int x t) (.int y u)) Q E s :=
  PyProof.Rows.floordiv_int (by omega) (h _ (quot x y) (Int.fmod_nonneg_of_pos x hy) (Int.fmod_lt_of_pos x hy)) (Or.inl (PyProof.noPylong_small (by omega)))
theorem step_mod (hy : 0 < y) (h : ∀ k r, k * y + r = x → r = Int.fmod x y → 0 ≤ r → r < y → Q (.int r s.toks) { s with toks := s.toks + 1 }) :
    wpAny (model prog w) A (binaryOp .Mod (.int x t) (.int y u)) Q E s :=
  PyProof.Rows.mod_int (by omega) (h _ _ (quot x y) rfl (Int.fmod_nonneg_of_pos x hy) (Int.fmod_lt_of_pos x hy))
theorem step_mul (lo : -100000 ≤ y) (hi : y ≤ 100000) (h : Q (.int (x * y) s.toks) { s with toks := s.toks + 1 }) :
    wpAny (model prog w) A (binaryOp .Mult (.int x t) (.int y u)) Q E s :=
  PyProof.Rows.mul_int h (PySem.IntMulOk.of_right (PySem.intBits_le_64 (by omega) (by omega)))
theorem step_eq (e : x = y) (h : Q (.bool true) s) : wpAny (model prog w) A (compareOp .Eq (.int x t) (.int y u)) Q E s := by
  refine PyProof.Rows.eq_int ?_
  have d : (x == y) = true := beq_iff_eq.mpr e
  rw [d]
  exact h
end
end Cut
open PySem PySem.W PyProof.Rows
local macro_rules | `(tactic| walk_at "binaryOp FloorDiv int int") => `(tactic| (k_here; (with_reducible refine' Cut.step_div ?k1 ?k2 ?_); (case k1 => k_dflt omega); (case k2 => k_dflt omega); intro q' e' hr0 hr1))
local macro_rules | `(tactic| walk_at "binaryOp Mod int int") => `(tactic| (k_here; (with_reducible refine' Cut.step_mod ?k1 ?_); (case k1 => k_dflt omega); intro k' r' e' e2' hr0 hr1))
local macro_rules | `(tactic| walk_at "binaryOp Mult int int") => `(tactic| (k_here; (with_reducible refine' Cut.step_mul ?k1 ?k2 ?_); (case k1 => k_dflt omega); (case k2 => k_dflt omega)))
local macro_rules | `(tactic| walk_at "compareOp Eq int int") => `(tactic| (k_here; (with_reducible refine' Cut.step_eq ?k1 ?_); (case k1 => k_dflt (first
  | omega
  | exact Cut.uniq (by assumption) (by assumption) (by assumption) (by assumption) (by assumption)
  | exact Cut.uniq_r (by assumption) (by assumption) (by assumption) (by assumption) (by assumption)))))
set_option maxRecDepth 100000 in
set_option maxHeartbeats 8000000 in
theorem PySem.Challenge.cw_linewarden_k01_an_address_cut_holds : PySem.Challenge.rw_linewarden_k01_an_address_cut.Holds := by
  k_with "pyIter ref" => k_search (fun _ => True)
  open_k
