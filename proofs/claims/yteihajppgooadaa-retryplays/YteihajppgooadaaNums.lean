/- Numbers that go round: steps up, distances; the contracts of stepsFrom, Dist, Behind, Within, Likely, and of the document's Dist, Within, far, Likely. -/
import Derived.Test.YteihajppgooadaaRows
import Derived.WalkKit
import Derived.ProofKit
import Derived.OpenShut
import Derived.Below
namespace Go.Proofs.Yteihajppgooadaa
open Go.ChangeShapes Go.WideShapes Go.ChangeAt Go.RowKit

theorem hide {p : Prop} (h : p) : Hid p := h
theorem unhide {p : Prop} (h : Hid p) : p := h


/-- the steps up from lo to s -/
def up (lo s : Int) : Int := (s - lo) % 65536

/-- the distance from a to b -/
def dst (a b : Int) : Int := if up a b < 32768 then up a b else up a b - 65536

theorem up_in (lo s : Int) : 0 ≤ up lo s ∧ up lo s ≤ 65535 := by unfold up; omega
theorem dst_in (a b : Int) : -32768 ≤ dst a b ∧ dst a b ≤ 32767 := by
  have := up_in a b
  unfold dst; split <;> omega
theorem wrap_up (lo s : Int) : IntKind.u16.wrap (s - lo) = up lo s := by
  unfold IntKind.wrap up; simp [IntKind.bits, IntKind.signed]
theorem wrap_dst (a b : Int) : IntKind.i16.wrap (up a b) = dst a b := by
  have := up_in a b
  unfold IntKind.wrap dst; simp [IntKind.bits, IntKind.signed]
  generalize up a b = u at *
  split <;> split <;> omega



/-- the number that s stands for beside last -/
def lik (last s : Int) : Int := if last + dst (last % 65536) s < 0 then last + dst (last % 65536) s + 65536 else last + dst (last % 65536) s

/-- how far two numbers are apart -/
def fr (a b : Int) : Int := if b < a then a - b else b - a

/-- the better one of two -/
def stp (last best k : Int) : Int := if 0 ≤ k ∧ (best < 0 ∨ fr k last < fr best last) then k else best

theorem lik_best (last s : Int) (h0 : 0 ≤ last) (h1 : 0 ≤ s ∧ s ≤ 65535) :
    stp last (stp last (stp last (-1) (last / 65536 * 65536 + s - 65536)) (last / 65536 * 65536 + s)) (last / 65536 * 65536 + s + 65536) = lik last s := by
  obtain ⟨q, hq⟩ : ∃ q, last / 65536 = q := ⟨_, rfl⟩
  obtain ⟨r, hr⟩ : ∃ r, last % 65536 = r := ⟨_, rfl⟩
  have e : last = 65536 * q + r := by omega
  have hd : dst r s = if s - r < -32768 then s - r + 65536 else if 32767 < s - r then s - r - 65536 else s - r := by
    unfold dst up; split <;> split <;> first | omega | (split <;> omega)
  have r0 : 0 ≤ r ∧ r < 65536 := by omega
  unfold lik
  rw [hq, hr, hd]
  clear hd hq hr
  have q0 : 0 ≤ q := by omega
  subst e
  unfold stp fr
  split <;> split <;> split <;> split <;> first | omega | (split <;> first | omega | (split <;> first | omega | (split <;> omega)))


set_option maxHeartbeats 1000000 in
theorem steps_any (lo s : Int) (w : World) :
    Calls Try.prog 44 #[.int .u16 lo, .int .u16 s] w fun e w' => e = .returned (.int .i64 (up lo s)) ∧ w' = w := by
  have hw := wrap_up lo s
  have hi := up_in lo s
  go_enter Try.func44, Try.ntmps44
  go_wp2_with fail
  go_ret
  exact ⟨rfl, rfl⟩




set_option maxHeartbeats 1000000 in
theorem within_any (s lo n : Int) (w : World) :
    Calls Try.prog 38 #[.int .u16 s, .int .u16 lo, .int .i64 n] w fun e w' => e = .returned (.bool (decide (up lo s < n))) ∧ w' = w := by
  go_enter Try.func38, Try.ntmps38
  go_wp2_with (go_at_call 44; refine (steps_any _ _ _).mono ?_; rintro e w' ⟨rfl, rfl⟩)
  go_ret
  exact ⟨rfl, rfl⟩

set_option maxHeartbeats 1000000 in
theorem dist_any (a b : Int) (w : World) :
    Calls Try.prog 43 #[.int .u16 a, .int .u16 b] w fun e w' => e = .returned (.int .i64 (dst a b)) ∧ w' = w := by
  have hw := wrap_up a b
  have hd := wrap_dst a b
  have hi := dst_in a b
  go_enter Try.func43, Try.ntmps43
  go_wp2_with fail
  go_ret
  exact ⟨rfl, rfl⟩

set_option maxHeartbeats 1000000 in
theorem behind_any (a b : Int) (w : World) :
    Calls Try.prog 40 #[.int .u16 a, .int .u16 b] w fun e w' => e = .returned (.bool (decide (0 < dst a b))) ∧ w' = w := by
  go_enter Try.func40, Try.ntmps40
  go_wp2_with (go_at_call 43; refine (dist_any _ _ _).mono ?_; rintro e w' ⟨rfl, rfl⟩)
  go_ret
  exact ⟨rfl, rfl⟩
end Go.Proofs.Yteihajppgooadaa
