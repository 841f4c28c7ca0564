/- The document's Words. -/
import Derived.Test.YtpjolnaomdmnnaaDoorKin
import Derived.Test.YtpjolnaomdmnnaaDoorTkn
namespace Go.Proofs.YtpjolnaomdmnnaaDoor
open Go.RowKit
set_option linter.unusedVariables false

theorem cut_at (c : UInt8) : ∀ (l : List UInt8) (k : Nat), (∀ j, j < k → l[j]? ≠ some c) → l[k]? = some c → cutL c l = l.take k :: cutL c (l.drop (k + 1))
  | [], k, _, h => by simp at h
  | x :: l, 0, _, h => by
    simp at h
    rw [cutL, if_pos (by simpa using h)]; rfl
  | x :: l, k + 1, hn, h => by
    have hx : ¬ (x == c) = true := fun e => hn 0 (by omega) (by simpa using e)
    have ih := cut_at c l k (fun j hj => by have := hn (j + 1) (by omega); simpa using this) (by simpa using h)
    rw [cutL, if_neg hx, ih]; rfl
theorem cut_none (c : UInt8) : ∀ (l : List UInt8), (∀ j : Nat, l[j]? ≠ some c) → cutL c l = [l]
  | [], _ => rfl
  | x :: l, hn => by
    have hx : ¬ (x == c) = true := fun e => hn 0 (by simpa using e)
    have ih := cut_none c l (fun j => by have := hn (j + 1); simpa using this)
    rw [cutL, if_neg hx, ih]
theorem sub_str (s : ByteArray) (f i : Nat) (h : f ≤ i) (hi : i ≤ s.size) : str ((s.data.toList.drop f).take (i - f)) = s.extract f i := by
  rw [← str_of (s.extract f i)]
  congr 1
  rw [Lib.extract_data]
theorem str_new (w : World) (x : ByteArray) (g : Nat) (hg : g = w.heap.size) : strE.Rd (w.alloc (.cells #[.string x] 9)) (.slice (some ⟨g, 0, none⟩) 1 1) [x] :=
  (El.Own.new strE w w.heap.size (Nat.le_refl _) _ [x] rfl (by simp) _ _ _ hg rfl rfl).rd
theorem byte_list (s : ByteArray) (i : Nat) (hi : i < s.size) (c : UInt8) : byteAt s i = c.toNat ↔ s.data.toList[i]? = some c := by
  rw [byteAt_eq s i hi]
  have hl : i < s.data.toList.length := by simpa using hi
  rw [List.getElem?_eq_getElem hl, Option.some.injEq]
  constructor
  · intro h; exact UInt8.toNat_inj.1 h
  · intro h; rw [← h]; rfl

set_option maxRecDepth 100000 in
set_option maxHeartbeats 2000000 in
theorem words_any (s : ByteArray) (w : World) (hs : s.size ≤ 5000) : Calls Tryd.prog 45 #[.string s] w fun e w' => ∃ v, e = .returned v ∧ strE.Own w' w.heap.size v (pieces 32 s) ∧ Below w.heap.size w w' := by
  have hll : s.data.toList.length = s.size := rfl
  have Hll := hide hll
  have z0 : (s.size : Int) ≤ 5000 := by omega
  have B0 : Hid (Below w.heap.size w w) := hide (Below.refl _ _)
  have Hs := hide hs
  clear hll hs
  go_enter Tryd.func45, Tryd.ntmps45
  go_wp2_with fail
  go_loopw [3, 4, 5] (fun v3 v4 v5 wr => ∃ (i f : Nat) (P : List (List UInt8)), i ≤ s.size + 1 ∧ v4 = .int .i64 f ∧ v5 = .int .i64 i ∧ Hid (strE.Own wr w.heap.size v3 (P.map str)) ∧ Hid ((i ≤ s.size → f ≤ i ∧ cutL 32 s.data.toList = P ++ cutL 32 (s.data.toList.drop f) ∧ ∀ j, f ≤ j → j < i → s.data.toList[j]? ≠ some 32) ∧ (s.size < i → cutL 32 s.data.toList = P)) ∧ Hid (P.length ≤ i) ∧ Hid (Below w.heap.size w wr)) (fun _ _ v5 _ => s.size + 1 - (intOf v5).toNat)
  case atStart => exact ⟨0, 0, [], by omega, rfl, rfl, hide (El.Own.nil _ _ _), hide ⟨fun _ => ⟨by omega, by simp, fun j _ h => by omega⟩, fun h => by omega⟩, hide (by simp), B0⟩
  case round =>
    clear B0
    obtain ⟨i, f, P, hi, rfl, rfl, HO, HX, HP, HB⟩ := hrel
    by_cases hle : i ≤ s.size
    · obtain ⟨hf, hc, hno⟩ := HX.out.1 hle
      have j1 : (i : Int) ≤ (s.size : Int) := by omega
      have j2 : (f : Int) ≤ (i : Int) := by omega
      have j3 : (0 : Int) ≤ (f : Int) := by omega
      have j4 : (0 : Int) ≤ (i : Int) := by omega
      have Hst := hide (sub_str s f i hf hle)
      have HP2 : Hid ((P ++ [(s.data.toList.drop f).take (i - f)]).length ≤ i + 1) := hide (by have := HP.out; simp; omega)
      have dn : ∀ q, f + q < i → (s.data.toList.drop f)[q]? ≠ some 32 := fun q hq => by rw [List.getElem?_drop]; exact hno (f + q) (by omega) hq
      by_cases he : i = s.size
      · subst he
        have HI : Hid (Hid ((s.size + 1 ≤ s.size → s.size + 1 ≤ s.size + 1 ∧ cutL 32 s.data.toList = (P ++ [(s.data.toList.drop f).take (s.size - f)]) ++ cutL 32 (s.data.toList.drop (s.size + 1)) ∧ ∀ j, s.size + 1 ≤ j → j < s.size + 1 → s.data.toList[j]? ≠ some 32) ∧ (s.size < s.size + 1 → cutL 32 s.data.toList = P ++ [(s.data.toList.drop f).take (s.size - f)]))) := hide (hide ⟨fun h => by omega, fun _ => by
          rw [hc, cut_none 32 (s.data.toList.drop f) (fun q => by
            rcases Nat.lt_or_ge (f + q) s.size with h | h
            · exact dn q h
            · rw [List.getElem?_eq_none (by rw [List.length_drop, Hll.out]; omega)]; simp)]
          rw [List.take_of_length_le (by rw [List.length_drop, Hll.out]; omega)]⟩)
        clear hf hc hno dn HX
        have b1 := HB.out.alloc HB.out.size (.cells #[.string (s.extract f s.size)] 9)
        have Hb2 := hide b1
        have Ho2 : Hid (strE.Own (wr.alloc (.cells #[.string (s.extract f s.size)] 9)) w.heap.size u3 (P.map str)) := hide (World.ownsRow.alloc HO.out _)
        clear b1
        go_wp2_with (at_builtin; refine strE.wp (w0 := w) Hb2.out (by rfl) _ _ rfl _ _ rfl rfl (P.map str) [s.extract f s.size] Ho2.out (str_new _ _ _ (by simp)) (by have := HP.out; simp; omega) ?_; intro v1 w2 ho2 _ _ hb2; refine Hid.out ?_)
        refine hide ?_
        have HO3 := hide ho2
        have HB3 := hide hb2
        clear ho2 hb2
        go_wp2_with fail
        go_roundw
        case rel => exact ⟨s.size + 1, s.size + 1, P ++ [(s.data.toList.drop f).take (s.size - f)], by omega, by go_num, by go_num, by rw [List.map_append, List.map_cons, List.map_nil, Hst.out]; exact HO3, HI.out, HP2, HB3⟩
        case measure => first | (simp [intOf]; done) | (simp [intOf]; omega)
      · have hlt : i < s.size := by omega
        have q1 : ((i : Int) == (s.size : Int)) = false := beq_eq_false_iff_ne.2 (by omega)
        have j5 : (i : Int) < (s.size : Int) := by omega
        have hidx : ∀ W : World, (Instr.index 9 (.string s) (.int .i64 (i : Int))).run Tryd.prog W = .ok (.int .u8 (byteAt s i : Int)) W := fun W => by
          rw [run_index_string W 9 s .i64 (i : Int) Tryd.underlying9, dif_pos ⟨j4, j5⟩, byteAt_eq s i hlt]
          rfl
        have hbl := byte_list s i hlt 32
        by_cases hb : s.data.toList[i]? = some 32
        · have e32 : (byteAt s i : Int) = 32 := by have := hbl.2 hb; rw [this]; rfl
          rw [e32] at hidx
          have HI : Hid (Hid ((i + 1 ≤ s.size → i + 1 ≤ i + 1 ∧ cutL 32 s.data.toList = (P ++ [(s.data.toList.drop f).take (i - f)]) ++ cutL 32 (s.data.toList.drop (i + 1)) ∧ ∀ j, i + 1 ≤ j → j < i + 1 → s.data.toList[j]? ≠ some 32) ∧ (s.size < i + 1 → cutL 32 s.data.toList = P ++ [(s.data.toList.drop f).take (i - f)]))) := hide (hide ⟨fun _ => ⟨by omega, by
            rw [hc, cut_at 32 (s.data.toList.drop f) (i - f) (fun q hq => dn q (by omega)) (by rw [List.getElem?_drop, Nat.add_sub_cancel' hf]; exact hb), List.drop_drop, List.append_assoc]
            rw [show f + (i - f + 1) = i + 1 by omega]
            rfl, fun j h1 h2 => by omega⟩, fun h => by omega⟩)
          clear hf hc hno dn HX hbl hb e32
          have b1 := HB.out.alloc HB.out.size (.cells #[.string (s.extract f i)] 9)
          have Hb2 := hide b1
          have Ho2 : Hid (strE.Own (wr.alloc (.cells #[.string (s.extract f i)] 9)) w.heap.size u3 (P.map str)) := hide (World.ownsRow.alloc HO.out _)
          clear b1
          go_wp2_with (at_builtin; refine strE.wp (w0 := w) Hb2.out (by rfl) _ _ rfl _ _ rfl rfl (P.map str) [s.extract f i] Ho2.out (str_new _ _ _ (by simp)) (by have := HP.out; simp; omega) ?_; intro v1 w2 ho2 _ _ hb2; refine Hid.out ?_)
          refine hide ?_
          have HO3 := hide ho2
          have HB3 := hide hb2
          clear ho2 hb2
          go_wp2_with fail
          go_roundw
          case rel => exact ⟨i + 1, i + 1, P ++ [(s.data.toList.drop f).take (i - f)], by omega, by go_num, by go_num, by rw [List.map_append, List.map_cons, List.map_nil, Hst.out]; exact HO3, HI.out, HP2, HB3⟩
          case measure => first | (simp [intOf]; done) | (simp [intOf]; omega)
        · have e32 : ((byteAt s i : Int) == 32) = false := beq_eq_false_iff_ne.2 (fun e => hb (hbl.1 (by show byteAt s i = 32; omega)))
          have HI : Hid ((i + 1 ≤ s.size → f ≤ i + 1 ∧ cutL 32 s.data.toList = P ++ cutL 32 (s.data.toList.drop f) ∧ ∀ j, f ≤ j → j < i + 1 → s.data.toList[j]? ≠ some 32) ∧ (s.size < i + 1 → cutL 32 s.data.toList = P)) := hide ⟨fun _ => ⟨by omega, hc, fun j h1 h2 => by
            rcases Nat.lt_or_ge j i with h | h
            · exact hno j h1 h
            · obtain rfl : j = i := by omega
              exact hb⟩, fun h => by omega⟩
          have HP3 : Hid (P.length ≤ i + 1) := hide (by have := HP.out; omega)
          generalize byteAt s i = bb at *
          clear hf hc hno dn HX hbl hb
          go_wp2_with fail
          go_roundw
          case rel => exact ⟨i + 1, f, P, by omega, rfl, by go_num, HO, HI, HP3, HB⟩
          case measure => first | (simp [intOf]; done) | (simp [intOf]; omega)
    · obtain rfl : i = s.size + 1 := by omega
      have j1 : ¬ ((s.size + 1 : Nat) : Int) ≤ (s.size : Int) := by omega
      have HE : Hid (pieces 32 s = P.map str) := hide (by unfold pieces; rw [HX.out.2 (by omega)])
      go_wp2_with fail
      go_ret
      exact ⟨_, rfl, by rw [HE.out]; exact HO.out, HB.out⟩
end Go.Proofs.YtpjolnaomdmnnaaDoor
