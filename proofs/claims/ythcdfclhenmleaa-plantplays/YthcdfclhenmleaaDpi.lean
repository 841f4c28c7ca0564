/- The document's Hear. -/
import Derived.Test.YthcdfclhenmleaaDpd
import Derived.Test.YthcdfclhenmleaaDpe
import Derived.Test.YthcdfclhenmleaaDpf
import Derived.Test.YthcdfclhenmleaaDpg
import Derived.Test.YthcdfclhenmleaaDpk
namespace Go.Proofs.Ythcdfclhenmleaa
open Go.RowKit
set_option linter.unusedVariables false
/-- what was last heard lies in sixteen bits -/
theorem rel_lb {S : Pl} {R : Rp} {n m : Nat} {es : List (Int × Int)} (H : Rel S R n es) (hm : es.length = m) (d : Int) (h : R.wrk m d = true) : 0 ≤ (R.lst d).1.seq ∧ (R.lst d).1.seq ≤ 65535 := by
  subst hm
  rw [H.wrk] at h
  have hd := Pl.wrk_isD h
  rw [H.la d hd]
  split
  · exact ⟨by decide, by decide⟩
  · exact (H.ok.dr _ (Pl.dev_at hd).2).1
section
variable {w0 w : World} {l : List It} {k : Nat} {V : Vp} {R : Rp} {a b : Option Addr} {c e n m : Nat} {ns : List Nd} {es : List Ed}
theorem rhearS (h : Its w0 (.dm w0.heap.size V R k :: l) w) (L0 : Lyt w0 a b c e n m ns es) (hm : m ≤ 120) (hk : k + 1 ≤ 1000) (t : Tl) (ht : t.In) (hlb : R.wrk m t.d = true → 0 ≤ (R.lst t.d).1.seq ∧ (R.lst t.d).1.seq ≤ 65535) : Calls Try.prog 18 #[.agg #[.slice a n c, .slice b m e, .slice V.aS V.nS V.cS, .slice V.aD V.nD V.cD, .slice V.aL V.nL V.cL, .int .i64 R.mv], tv t] w fun r w' => RH w0 l a b c e n m (k + 1) (R.hear es t) r w' := by
  by_cases h1 : R.wrk m t.d = true ∧ t.k = 1
  case neg => exact rhearA h L0 hm hk t ht hlb h1
  by_cases h2 : Rp.jst (R.lst t.d) t = true ∨ Rp.lte (R.lst t.d) t = true
  case pos => exact rhearB h L0 hm hk t ht hlb ⟨h1.1, h1.2, h2⟩
  have a1 : Rp.jst (R.lst t.d) t = false := Bool.eq_false_iff.2 (fun z => h2 (.inl z))
  have a2 : Rp.lte (R.lst t.d) t = false := Bool.eq_false_iff.2 (fun z => h2 (.inr z))
  by_cases h3 : (decide (t.a = 0) || decide (R.att (edE2 es t.d).1 ≠ t.a)) = true
  case pos => exact rhearC h L0 hm hk t ht hlb ⟨h1.1, h1.2, a1, a2, h3⟩
  by_cases h4 : 0 < R.att (edE2 es t.d).2
  case pos => exact rhearE h L0 hm hk t ht hlb ⟨h1.1, h1.2, a1, a2, Bool.eq_false_iff.2 h3, h4⟩
  exact rhearD h L0 hm hk t ht hlb ⟨h1.1, h1.2, a1, a2, Bool.eq_false_iff.2 h3, h4⟩
end
end Go.Proofs.Ythcdfclhenmleaa
