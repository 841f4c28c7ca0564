/- The document's Digits, of numbers below a hundred. -/
import Derived.Test.YtpjolnaomdmnnaaDoorCut
import Derived.Deep.CutRange
import Derived.Deep.DeepCutAuto
import Derived.LoopTactic
import Derived.Laws.BytesString
import Derived.Laws.BytesArg
import Derived.Laws.Concat
namespace Go.Proofs.YtpjolnaomdmnnaaDoor
open Go.RowKit
set_option linter.unusedVariables false

def dig (i : Nat) : ByteArray := if i < 10 then str [UInt8.ofNat (48 + i)] else str [UInt8.ofNat (48 + i / 10), UInt8.ofNat (48 + i % 10)]
theorem conv_one (w : World) (x : Nat) (g : Nat) (hg : g = w.heap.size) : (convert 40 9 (.slice (some ⟨g, 0, none⟩) 1 1)).run Tryd.prog (w.alloc (.cells #[.int .u8 (x : Int)] 5)) = .ok (.string (str [UInt8.ofNat x])) (w.alloc (.cells #[.int .u8 (x : Int)] 5)) := by
  subst hg
  have hl : (loadCells ⟨w.heap.size, 0, none⟩ ([(x : Int)]).length).run Tryd.prog (w.alloc (.cells #[.int .u8 (x : Int)] 5)) = .ok (([(x : Int)]).map (Value.int .u8)).toArray (w.alloc (.cells #[.int .u8 (x : Int)] 5)) := by
    have := run_loadCells_list (P := Tryd.prog) (w.alloc (.cells #[.int .u8 (x : Int)] 5)) ⟨w.heap.size, 0, none⟩ (([(x : Int)]).map (Value.int .u8)) (fun j y hy => by
      match j with
      | 0 =>
        rw [addr_plain, Nat.zero_add, (cells_at (heap_new w _) 0).1]
        simpa using hy
      | j + 1 => simp at hy)
    simpa using this
  have h1 : ([(x : Int)]).length = 1 := rfl
  rw [h1] at hl
  rw [run_convert_bytes_string (P := Tryd.prog) _ 40 9 5 _ _ _ Tryd.underlying40 Tryd.underlying5 Tryd.underlying9, run_bytesToString _ _ _ 1 [(x : Int)] hl]
  rfl
def digL (n : Nat) : List UInt8 := if n = 0 then [] else if n < 10 then [UInt8.ofNat (48 + n)] else [UInt8.ofNat (48 + n / 10), UInt8.ofNat (48 + n % 10)]
theorem digL_step : ∀ n : Fin 100, n.val ≠ 0 → digL n.val = digL (n.val / 10) ++ [UInt8.ofNat (48 + n.val % 10)] := by decide
theorem dig_eq : ∀ n : Fin 100, n.val ≠ 0 → dig n.val = str (digL n.val) := by
  intro n h
  unfold dig digL
  rw [if_neg h]
  split <;> rfl
theorem digL_len (n : Nat) : (digL n).length ≤ 2 := by
  unfold digL
  split
  · simp
  · split <;> simp
theorem w64_small (x : Int) (h0 : 0 ≤ x) (h1 : x ≤ 100000) : wrap64 x = x := by unfold wrap64; omega
theorem u8_small (x : Int) (h0 : 0 ≤ x) (h1 : x ≤ 200) : IntKind.u8.wrap x = x := by unfold IntKind.wrap; simp [IntKind.bits, IntKind.signed]; omega
theorem add_str (W : World) (x : UInt8) (t : List UInt8) (h : t.length ≤ 100) : (Op.stringOp .add (str [x]) (str t)).run Tryd.prog W = .ok (.string (str (x :: t))) W := by
  have := run_string_add (P := Tryd.prog) (w := W) (str [x]) (str t) (by rw [str_size]; simp) (by rw [str_size]; omega)
  rw [this, show str [x] ++ str t = str (x :: t) from ByteArray.mk_append_mk [x] t]

set_option maxRecDepth 100000 in
set_option maxHeartbeats 2000000 in
theorem digits_any (i : Nat) (hi : i < 100) (w : World) : Calls Tryd.prog 21 #[.int .i64 (i : Int)] w fun e w' => e = .returned (.string (dig i)) ∧ Below w.heap.size w w' := by
  have b0 : Hid (Below w.heap.size w w) := hide (Below.refl _ _)
  by_cases h0 : i = 0
  · subst h0
    go_enter Tryd.func21, Tryd.ntmps21
    go_wp2_with fail
    go_ret
    exact ⟨rfl, b0.out⟩
  · have i0 : ¬ (i : Int) = 0 := by omega
    have i1 : ¬ (i : Int) < 0 := by omega
    have hd := dig_eq ⟨i, hi⟩ h0
    simp only at hd
    rw [hd]
    have Hi := hide hi
    clear hd hi h0
    have se : (⟨#[]⟩ : ByteArray) = str [] := rfl
    go_enter Tryd.func21, Tryd.ntmps21
    go_wp2_with fail
    go_loopw [3, 4] (fun v3 v4 wr => ∃ (n : Nat) (t : List UInt8), v3 = .string (str t) ∧ v4 = .int .i64 n ∧ Hid (n < 100 ∧ t.length ≤ 2 ∧ digL n ++ t = digL i) ∧ Hid (Below w.heap.size w wr)) (fun _ v4 _ => (intOf v4).toNat)
    case atStart => exact ⟨i, [], rfl, rfl, hide ⟨Hi.out, by simp, by simp⟩, b0⟩
    case round =>
      obtain ⟨n, t, rfl, rfl, HX, HB⟩ := hrel
      by_cases hn : n = 0
      · subst hn
        have ht : t = digL i := by have := HX.out.2.2; simpa [digL] using this
        subst ht
        go_wp2_with fail
        go_ret
        exact ⟨rfl, HB.out⟩
      · have n0 : ¬ (n : Int) = 0 := by omega
        have e1 : Int.tmod (n : Int) 10 = ((n % 10 : Nat) : Int) := by rw [Int.tmod_eq_emod_of_nonneg (by omega)]; omega
        have e2 : Int.tdiv (n : Int) 10 = ((n / 10 : Nat) : Int) := by rw [Int.tdiv_eq_ediv_of_nonneg (by omega)]; omega
        have hs := digL_step ⟨n, HX.out.1⟩ hn
        simp only at hs
        have hx := HX.out
        obtain ⟨q, hq⟩ : ∃ q, n / 10 = q := ⟨_, rfl⟩
        obtain ⟨r, hr⟩ : ∃ r, n % 10 = r := ⟨_, rfl⟩
        rw [hr] at e1 hs
        rw [hq] at e2 hs
        have HX2 : Hid (q < 100 ∧ (UInt8.ofNat (48 + r) :: t).length ≤ 2 ∧ digL q ++ (UInt8.ofNat (48 + r) :: t) = digL i) := hide (by
          have e3 : digL q ++ (UInt8.ofNat (48 + r) :: t) = digL i := by rw [← hx.2.2, hs, List.append_assoc]; rfl
          refine ⟨by omega, ?_, e3⟩
          have := congrArg List.length e3
          rw [List.length_append] at this
          have := digL_len i
          omega)
        have r0 : ¬ (r : Int) < 0 := by omega
        have r1 : (r : Int) ≤ 9 := by omega
        have wx : IntKind.u8.wrap (48 + (r : Int)) = 48 + (r : Int) := u8_small _ (by omega) (by omega)
        have wq : wrap64 (q : Int) = (q : Int) := w64_small _ (by omega) (by omega)
        have Hwq := hide wq
        have cv := conv_one wr (48 + r) _ rfl
        have ec : ((48 + r : Nat) : Int) = 48 + (r : Int) := by omega
        rw [ec] at cv
        have ad := fun W => add_str W (UInt8.ofNat (48 + r)) t (by have := hx.2.1; omega)
        have HB2 : Hid (Below w.heap.size w (wr.alloc (.cells #[.int .u8 (48 + (r : Int))] 5))) := hide (HB.out.alloc HB.out.size _)
        have Hm : Hid ((q : Int).toNat < (n : Int).toNat) := hide (by omega)
        generalize UInt8.ofNat (48 + r) = ch at *
        clear hx hs hq hr ec hn
        obtain ⟨rr, hrr⟩ : ∃ rr : Int, (r : Int) = rr := ⟨_, rfl⟩
        obtain ⟨qq, hqq⟩ : ∃ qq : Int, (q : Int) = qq := ⟨_, rfl⟩
        obtain ⟨nn, hnn⟩ : ∃ nn : Int, (n : Int) = nn := ⟨_, rfl⟩
        have rp : 0 ≤ rr := by omega
        rw [hrr] at e1 r0 r1 wx cv HB2
        rw [hqq] at e2 wq Hwq Hm
        rw [hnn] at e1 e2 n0 Hm ⊢
        have Hqq := hide hqq
        clear hrr hqq hnn i0 i1 wq
        go_wp2_with fail
        go_roundw
        case rel => exact ⟨q, ch :: t, rfl, by rw [Hqq.out]; first | rfl | rw [Hwq.out], HX2, HB2⟩
        case measure => (have h1 := Hm.out; have h2 := Hwq.out; simp only [intOf]; simp [h2]; omega)
end Go.Proofs.YtpjolnaomdmnnaaDoor
