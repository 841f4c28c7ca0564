/- A telegram's bytes: the document's. -/
import Derived.Test.YtglleofhcokeiaaEnc
namespace Go.Proofs.Ytglleofhcokeiaa
open Go.ChangeShapes Go.WideShapes Go.ChangeAt Go.RowKit

theorem own_new (w : World) (B : Nat) (hB : B ≤ w.heap.size) (C : Array Value) (l : List Int) (hC : C.toList = l.map (Value.int .u8)) (hm : l.length ≤ 1000) (n m c : Nat) (hn : n = w.heap.size) (hl : m = l.length) (hc : c = l.length) :
    Ow (w.alloc (.cells C 5)) B (.slice (some ⟨n, 0, none⟩) m c) l := by
  subst hn hl hc
  have hs : C.size = l.length := by have := congrArg List.length hC; simpa using this
  refine ⟨by simp, .inr ⟨w.heap.size, l.length, C, rfl, hB, ?_, Nat.le_refl _, by unfold maxLen; omega, by omega, ?_⟩⟩
  · show (w.heap.push (.cells C 5))[w.heap.size]? = _
    simp
  · rw [hC, List.take_of_length_le (by simp)]

theorem q8 (x : Int) (h : 0 ≤ x ∧ x ≤ 65535) : IntKind.u16.wrap (x.tdiv 256) % 256 = x / 256 := by
  rw [Int.tdiv_eq_ediv_of_nonneg h.1]
  simp only [IntKind.wrap, IntKind.bits, IntKind.signed]
  simp
  omega

set_option maxHeartbeats 2000000 in
theorem bytes_any (k d s a b : Int) (w : World) (hin : Tl.In ⟨k, d, s, a, b⟩) :
    Calls Try.prog 14 #[.agg #[.int .u8 k, .int .u16 d, .int .u16 s, .int .u16 a, .int .u16 b]] w fun e w' => ∃ v, e = .returned v ∧ Ow w' w.heap.size v (enc ⟨k, d, s, a, b⟩) ∧ Below w.heap.size w w' := by
  have Hin := hide hin
  obtain ⟨⟨k0, k1⟩, ⟨d0, d1⟩, ⟨s0, s1⟩, ⟨a0, a1⟩, ⟨b0, b1⟩⟩ := hin
  simp only at k0 k1 d0 d1 s0 s1 a0 a1 b0 b1
  have hb1 : ∀ o o', Below w.heap.size w ((w.alloc o).alloc o') := fun o o' => ((Below.refl _ _).alloc (Nat.le_refl _) o).alloc (by simp) o'
  have hb2 : ∀ o o' o'', Below w.heap.size w (((w.alloc o).alloc o').alloc o'') := fun o o' o'' => (hb1 o o').alloc (hb1 o o').size o''
  have hown : ∀ o, Ow ((w.alloc o).alloc (.cells #[.int .u8 165, .int .u8 k, .int .u8 (IntKind.u16.wrap (d.tdiv 256) % 256), .int .u8 (d % 256), .int .u8 (IntKind.u16.wrap (s.tdiv 256) % 256), .int .u8 (s % 256), .int .u8 (IntKind.u16.wrap (a.tdiv 256) % 256), .int .u8 (a % 256), .int .u8 (IntKind.u16.wrap (b.tdiv 256) % 256), .int .u8 (b % 256)] 5)) w.heap.size (.slice (some ⟨w.heap.size + 1, 0, none⟩) 10 10) (body ⟨k, d, s, a, b⟩) :=
    fun o => own_new _ _ (by simp) _ _ (by rw [q8 d ⟨d0, d1⟩, q8 s ⟨s0, s1⟩, q8 a ⟨a0, a1⟩, q8 b ⟨b0, b1⟩]; rfl) (by rw [body_len]; omega) _ _ _ (by simp) (by rw [body_len]) (by rw [body_len])
  have hl : Hid ((body ⟨k, d, s, a, b⟩).length ≤ 10) := hide (Nat.le_refl _)
  obtain ⟨y, hy, y0, y1⟩ : ∃ y, uv (sm 0xFFFF#16 (body ⟨k, d, s, a, b⟩)) = y ∧ 0 ≤ y ∧ y ≤ 65535 := ⟨_, rfl, uv_lo _, uv_hi _⟩
  have Hy : Hid (enc ⟨k, d, s, a, b⟩ = body ⟨k, d, s, a, b⟩ ++ [y / 256, y % 256]) := hide (by unfold enc; rw [hy]; rfl)
  have kb := fun o => rsum_bs (Bs.own (hown o)) (pre_in _ Hin.out _) (by have := hl.out; omega)
  rw [hy] at kb
  have Kb := hide kb
  clear kb hy
  go_enter Try.func14, Try.ntmps14
  go_wp2_with (first | (go_at_call 25; refine (Kb.out _).mono ?_; rintro e w' ⟨rfl, rfl⟩) | (at_builtin; refine wpList_app (hb2 _ _ _) (by rfl) _ _ rfl _ _ rfl rfl (body ⟨k, d, s, a, b⟩) [IntKind.u16.wrap (y.tdiv 256) % 256, y % 256] (World.ownsRow.alloc (hown _) _) (bs_two _ _ _ _ (by simp)) (by simp; have := hl.out; omega) ?_; intro v1 w1 hown1 hb1; refine Hid.out ?_))
  refine hide ?_
  rw [q8 _ ⟨y0, y1⟩] at hown1
  go_wp2_with fail
  go_ret
  exact ⟨_, rfl, by rw [Hy.out]; exact hown1, hb1⟩

end Go.Proofs.Ytglleofhcokeiaa
