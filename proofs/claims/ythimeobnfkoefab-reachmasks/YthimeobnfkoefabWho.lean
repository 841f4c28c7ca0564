/- Whole, and the document's. -/
import Derived.Test.YthimeobnfkoefabArgs
namespace Go.Proofs.Ythimeobnfkoefab
open Go.RowKit
set_option linter.unusedVariables false

/-- all that must be reached is reached -/
def Wh (ns : List Nd) (es : List Ed) (cl : List Bool) : Prop := ∀ i j : Nat, i < ns.length → j < ns.length → mustB (kindAt ns i) (kindAt ns j) = true → Has ns es cl i j
/-- the same of one node and the first k -/
def Wr (ns : List Nd) (es : List Ed) (cl : List Bool) (i k : Nat) : Prop := ∀ j : Nat, j < k → mustB (kindAt ns i) (kindAt ns j) = true → Has ns es cl i j
theorem Wr.step {ns : List Nd} {es : List Ed} {cl : List Bool} {i k : Nat} (h : Wr ns es cl i k) (hk : mustB (kindAt ns i) (kindAt ns k) = true → Has ns es cl i k) : Wr ns es cl i (k + 1) := fun j hj hm => by
  rcases Nat.lt_or_ge j k with h' | h'
  · exact h j h' hm
  · obtain rfl : j = k := by omega
    exact hk hm
theorem must_no (x y : Int) (h4 : x ≠ 4) (h2 : x ≠ 2) : mustB x y = false := by simp [mustB, h4, h2]

set_option maxRecDepth 100000 in
set_option maxHeartbeats 4000000 in
theorem whole_any (a a' aM : Option Addr) (c c' cM n m k0 : Nat) (ns : List Nd) (es : List Ed) (ms : List Int) (w : World) (hL : Ly w a a' c c' n m ns es) (hM : Mk w aM cM k0 ms) :
    Calls Try.prog 9 #[.agg #[.slice a n c, .slice a' m c'], .slice aM k0 cM] w fun e w' => (∃ b, e = .returned (.bool b) ∧ (b = true ↔ Wh ns es (clo m ms))) ∧ Below w.heap.size w w' := by
  obtain ⟨W0, hW0⟩ : ∃ W0, w.alloc (.cells #[.slice a n c, .slice a' m c'] 25) = W0 := ⟨_, rfl⟩
  have bA : Below w.heap.size w W0 := by rw [← hW0]; exact (Below.refl _ _).alloc (Nat.le_refl _) _
  have hbox : W0.heap[w.heap.size]? = some (.cells #[.slice a n c, .slice a' m c'] 25) := by rw [← hW0]; exact heap_new _ _
  have d0 := (cells_at hbox 0).1
  have d1 := (cells_at hbox 1).1
  simp at d0 d1
  have HBOX := hide hbox
  have HA := hide bA
  have HLW : Hid (∀ W, Below W0.heap.size W0 W → Ly W a a' c c' n m ns es) := hide (fun W h => hL.keep (bA.trans (h.mono bA.size)))
  have HMW : Hid (∀ W, Below W0.heap.size W0 W → Mk W aM cM k0 ms) := hide (fun W h => hM.keep (bA.trans (h.mono bA.size)))
  have HW0 := hide hW0
  have Hn : Hid (ns.length = n) := hide hL.hn
  have Hm : Hid (es.length = m) := hide hL.hm
  have i0 : (n : Int) ≤ 1000 := by have := hL.n4; omega
  have i1 : (m : Int) ≤ 1000 := by have := hL.m4; omega
  have K27 : Hid (∀ W, Below W0.heap.size W0 W → Calls Try.prog 15 #[.agg #[.slice a n c, .slice a' m c'], .slice aM k0 cM] W fun e w' => ∃ g, e = .returned (.slice (some ⟨g, 0, none⟩) m m) ∧ boolE.Rd w' (.slice (some ⟨g, 0, none⟩) m m) (clo m ms) ∧ Below W0.heap.size W0 w') := hide (fun W h => (closed_any a a' aM c c' cM n m k0 ms W (HMW.out W h).hk (HMW.out W h).hM (HMW.out W h).k4 (by have := hL.m4; omega)).mono (by rintro e w' ⟨⟨g, h1, h2⟩, h3⟩; exact ⟨g, h1, h2.rd, h.trans (h3.mono h.size)⟩))
  clear hL hM hW0 hbox bA
  go_enter Try.func9, Try.ntmps9
  go_upto_region 1 with fail
  rw [HW0.out]
  clear HW0
  go_upto_region 2 with (go_at_call 15; refine (K27.out _ (Below.refl _ _)).mono ?_; rintro e W1 ⟨g, rfl, hC1, hb1⟩; have HC := hide hC1; have Hb1 := hide hb1; clear hC1 hb1)
  clear d0 d1 K27
  have K26 : Hid (∀ (W : World) (s : Nat), Below W0.heap.size W0 W → boolE.Rd W (.slice (some ⟨g, 0, none⟩) m m) (clo m ms) → s < n → Calls Try.prog 14 #[.agg #[.slice a n c, .slice a' m c'], .slice (some ⟨g, 0, none⟩) m m, .int .i64 (s : Int), .int .i64 0] W fun e w' => ∃ g' l, e = .returned (.slice (some ⟨g', 0, none⟩) n n) ∧ intE.Own w' W.heap.size (.slice (some ⟨g', 0, none⟩) n n) l ∧ Far (Eg es (clo m ms) 0) (Tk ns) s n l ∧ Below W.heap.size W w') := hide (fun W s h hc hs => (lengths_from a a' (some ⟨g, 0, none⟩) c c' m n m s ns es (clo m ms) W (HLW.out W h).hn (HLW.out W h).hm (clo_len _ _) (HLW.out W h).hv (HLW.out W h).hu hc (HLW.out W h).n4 (HLW.out W h).m4 hs (HLW.out W h).hE).mono (by rintro e w' ⟨⟨g', l, h1, h2, h3⟩, h4⟩; exact ⟨g', l, h1, h2, h3, h4⟩))
  obtain ⟨d2, d3⟩ := layc HBOX.out Hb1.out
  go_wp2_with fail
  go_loopw [17] (fun v17 wr => ∃ (k : Nat), k ≤ n ∧ v17 = .int .i64 k ∧ Hid (Below W0.heap.size W0 wr) ∧ Hid (boolE.Rd wr (.slice (some ⟨g, 0, none⟩) m m) (clo m ms)) ∧ Hid (∀ i, i < k → Wr ns es (clo m ms) i n)) (fun v17 _ => n - (intOf v17).toNat)
  case atStart => exact ⟨0, by omega, rfl, Hb1, HC, hide (fun i hi => by omega)⟩
  case round =>
    clear d2 d3
    obtain ⟨k, hk, rfl, HB, HCr, HX⟩ := hrel
    by_cases hlt : k < n
    · obtain ⟨p, hp⟩ : ∃ p, ns[k]? = some p := ⟨_, List.getElem?_eq_getElem (by rw [Hn.out]; exact hlt)⟩
      obtain ⟨bN, offN, haN, c0, c1, c2⟩ := nd_at (HLW.out wr HB.out).hv k p hp
      subst haN
      obtain ⟨nm, kd, zn⟩ := p
      simp only at c0 c1 c2
      have Hkd : Hid (kindAt ns (k : Int) = kd) := hide (kind_at hp)
      obtain ⟨WA, hWA⟩ : ∃ WA, wr.alloc (.cells #[.string nm, .int .i64 kd, .int .i64 zn] 43) = WA := ⟨_, rfl⟩
      have bB : Below wr.heap.size wr WA := by rw [← hWA]; exact (Below.refl _ _).alloc (Nat.le_refl _) _
      have HBB : Hid (Below W0.heap.size W0 WA) := hide (HB.out.trans (bB.mono HB.out.size))
      have HC1 := hide (HCr.out.keep bB)
      have hbx : WA.heap[wr.heap.size]? = some (.cells #[.string nm, .int .i64 kd, .int .i64 zn] 43) := by rw [← hWA]; exact heap_new _ _
      have f0 := (cells_at hbx 1).1
      simp at f0
      have HBXA0 := hide hbx
      obtain ⟨x0, x1⟩ := layc HBOX.out HBB.out
      have j0 : (0 : Int) ≤ (k : Int) := by omega
      have j1 : (k : Int) < (n : Int) := by omega
      have HlN := hide hlt
      have HWA := hide hWA
      clear hp hbx bB hWA hk hlt
      go_upto_region 5 with fail
      rw [HWA.out]
      clear HWA
      obtain ⟨gA, hgA⟩ : ∃ gA, wr.heap.size = gA := ⟨_, rfl⟩
      rw [hgA] at HBXA0 f0 ⊢
      have HBXA := HBXA0
      clear hgA HBXA0 HB HCr c0 c1 c2
      by_cases h4 : kd = 4
      · subst h4
        go_upto_region 7 with (go_at_call 14; refine (K26.out _ k HBB.out HC1.out HlN.out).mono ?_; rintro e W6 ⟨gF, l, rfl, hO6, hF6, hb6⟩
                               have HF := hide hF6
                               have HO6 := hide hO6
                               have HB6 := hide hb6
                               clear hO6 hF6 hb6)
        obtain ⟨q0, q1⟩ := layc HBOX.out (HBB.out.trans (HB6.out.mono HBB.out.size))
        go_wp2_with fail
        go_loopw [37] (fun v37 wr => ∃ (j : Nat), j ≤ n ∧ v37 = .int .i64 j ∧ Hid (Below WA.heap.size WA wr) ∧ Hid (intE.Rd wr (.slice (some ⟨gF, 0, none⟩) n n) l) ∧ Hid (Wr ns es (clo m ms) k j)) (fun v37 _ => n - (intOf v37).toNat)
        case atStart => exact ⟨0, by omega, rfl, HB6, hide HO6.out.rd, hide (fun j hj => by omega)⟩
        case round =>
          clear q0 q1
          obtain ⟨j, hj, rfl, HBi, HRi, HWr⟩ := hrel
          by_cases hlt2 : j < n
          · obtain ⟨p2, hp2⟩ : ∃ p, ns[j]? = some p := ⟨_, List.getElem?_eq_getElem (by rw [Hn.out]; exact hlt2)⟩
            have HBW : Hid (Below W0.heap.size W0 wr) := hide (HBB.out.trans (HBi.out.mono HBB.out.size))
            obtain ⟨bN2, offN2, haN, c0, c1, c2⟩ := nd_at (HLW.out wr HBW.out).hv j p2 hp2
            simp only [Option.some.injEq, Addr.mk.injEq] at haN
            obtain ⟨rfl, rfl, _⟩ := haN
            have Hk2 := hide (kind_at hp2)
            obtain ⟨WB, hWB⟩ : ∃ WB, wr.alloc (.cells #[.string p2.name, .int .i64 p2.kind, .int .i64 p2.zone] 43) = WB := ⟨_, rfl⟩
            have bB : Below wr.heap.size wr WB := by rw [← hWB]; exact (Below.refl _ _).alloc (Nat.le_refl _) _
            have HBB2 : Hid (Below WA.heap.size WA WB) := hide (HBi.out.trans (bB.mono HBi.out.size))
            have HRB := hide (HRi.out.keep bB)
            have hbx2 : WB.heap[wr.heap.size]? = some (.cells #[.string p2.name, .int .i64 p2.kind, .int .i64 p2.zone] 43) := by rw [← hWB]; exact heap_new _ _
            have f1 := (cells_at hbx2 1).1
            simp at f1
            have f2 : WB.cell? ⟨gA, 1, none⟩ = some (.int .i64 4) := by
              rw [HBB2.out.cell (p := ⟨gA, 1, none⟩) (heap_lt HBXA.out)]
              exact (cells_at HBXA.out 1).1
            obtain ⟨_, _, hsome, y0⟩ := int_at HRB.out j _ (va_at l j (by rw [HF.out.1]; exact hlt2))
            simp only [Option.some.injEq, Addr.mk.injEq] at hsome
            obtain ⟨rfl, rfl, _⟩ := hsome
            rw [Nat.zero_add] at y0
            have HD := hide (HF.out.2 j hlt2)
            obtain ⟨dj, hdj⟩ : ∃ d, va l j = d := ⟨_, rfl⟩
            rw [hdj] at y0 HD
            have j0 : (0 : Int) ≤ (j : Int) := by omega
            have j1 : (j : Int) < (n : Int) := by omega
            obtain ⟨mb, hmb⟩ : ∃ b, mustB 4 p2.kind = b := ⟨_, rfl⟩
            have Hmb : Hid (mustB (kindAt ns (k : Int)) (kindAt ns (j : Int)) = mb) := hide (by rw [Hkd.out, Hk2.out]; exact hmb)
            have Hlt2 := hide hlt2
            have HWB := hide hWB
            clear hp2 hdj hbx2 bB hWB
            go_upto_region 10 with fail
            rw [HWB.out]
            clear HWB
            cases mb with
            | true =>
              by_cases hz : dj = -1
              · have hno : Hid (¬ Wh ns es (clo m ms)) := hide (fun h => by
                  have h1 := h k j (by rw [Hn.out]; exact HlN.out) (by rw [Hn.out]; exact Hlt2.out) Hmb.out
                  have h2 := HD.out.has.1.2 h1
                  rw [hz] at h2
                  cases h2)
                subst hz
                go_wp2_with (go_at_call 16; refine (must_any _ _ _).mono ?_; rintro e W7 ⟨rfl, rfl⟩; rw [hmb])
                refine bodyPost_ret (v := .bool false) (by simp [results, Try.results9, go_sem]) rfl ⟨(by first | exact ⟨false, rfl, fun h => (by cases h), fun h => absurd h hno.out⟩ | exact .inl ⟨rfl, hno.out⟩), HA.out.trans ((HBB.out.trans (HBB2.out.mono HBB.out.size)).mono HA.out.size)⟩
              · have hzb : (dj == -1) = false := beq_eq_false_iff_ne.2 hz
                have HW1 := hide (HWr.out.step (fun _ => HD.out.has.1.1 (bne_iff_ne.2 hz)))
                clear hz
                go_wp2_with (go_at_call 16; refine (must_any _ _ _).mono ?_; rintro e W7 ⟨rfl, rfl⟩; rw [hmb])
                go_roundw
                case rel => exact ⟨j + 1, by omega, by go_num, HBB2, HRB, HW1⟩
                case measure => simp [intOf]; omega
            | false =>
              have HW1 := hide (HWr.out.step (fun h => by rw [Hmb.out] at h; cases h))
              go_wp2_with (go_at_call 16; refine (must_any _ _ _).mono ?_; rintro e W7 ⟨rfl, rfl⟩; rw [hmb])
              go_roundw
              case rel => exact ⟨j + 1, by omega, by go_num, HBB2, HRB, HW1⟩
              case measure => simp [intOf]; omega
          · obtain rfl : j = n := by omega
            have j1 : ¬ (j : Int) < (j : Int) := by omega
            have HX1 : Hid (∀ i, i < k + 1 → Wr ns es (clo m ms) i j) := hide (fun i hi => by
              rcases Nat.lt_or_ge i k with h' | h'
              · exact HX.out i h'
              · obtain rfl : i = k := by omega
                exact HWr.out)
            have HBE : Hid (Below W0.heap.size W0 wr) := hide (HBB.out.trans (HBi.out.mono HBB.out.size))
            have HCE := hide (HC1.out.keep HBi.out)
            have Hkn := HlN
            go_wp2_with fail
            go_roundw
            case rel => exact ⟨k + 1, by have := Hkn.out; omega, by go_num, HBE, HCE, HX1⟩
            case measure => have := Hkn.out; simp [intOf]; omega
      · by_cases h2 : kd = 2
        · subst h2
          clear h4
          go_upto_region 7 with (go_at_call 14; refine (K26.out _ k HBB.out HC1.out HlN.out).mono ?_; rintro e W6 ⟨gF, l, rfl, hO6, hF6, hb6⟩
                                 have HF := hide hF6
                                 have HO6 := hide hO6
                                 have HB6 := hide hb6
                                 clear hO6 hF6 hb6)
          obtain ⟨q0, q1⟩ := layc HBOX.out (HBB.out.trans (HB6.out.mono HBB.out.size))
          go_wp2_with fail
          go_loopw [37] (fun v37 wr => ∃ (j : Nat), j ≤ n ∧ v37 = .int .i64 j ∧ Hid (Below WA.heap.size WA wr) ∧ Hid (intE.Rd wr (.slice (some ⟨gF, 0, none⟩) n n) l) ∧ Hid (Wr ns es (clo m ms) k j)) (fun v37 _ => n - (intOf v37).toNat)
          case atStart => exact ⟨0, by omega, rfl, HB6, hide HO6.out.rd, hide (fun j hj => by omega)⟩
          case round =>
            clear q0 q1
            obtain ⟨j, hj, rfl, HBi, HRi, HWr⟩ := hrel
            by_cases hlt2 : j < n
            · obtain ⟨p2, hp2⟩ : ∃ p, ns[j]? = some p := ⟨_, List.getElem?_eq_getElem (by rw [Hn.out]; exact hlt2)⟩
              have HBW : Hid (Below W0.heap.size W0 wr) := hide (HBB.out.trans (HBi.out.mono HBB.out.size))
              obtain ⟨bN2, offN2, haN, c0, c1, c2⟩ := nd_at (HLW.out wr HBW.out).hv j p2 hp2
              simp only [Option.some.injEq, Addr.mk.injEq] at haN
              obtain ⟨rfl, rfl, _⟩ := haN
              have Hk2 := hide (kind_at hp2)
              obtain ⟨WB, hWB⟩ : ∃ WB, wr.alloc (.cells #[.string p2.name, .int .i64 p2.kind, .int .i64 p2.zone] 43) = WB := ⟨_, rfl⟩
              have bB : Below wr.heap.size wr WB := by rw [← hWB]; exact (Below.refl _ _).alloc (Nat.le_refl _) _
              have HBB2 : Hid (Below WA.heap.size WA WB) := hide (HBi.out.trans (bB.mono HBi.out.size))
              have HRB := hide (HRi.out.keep bB)
              have hbx2 : WB.heap[wr.heap.size]? = some (.cells #[.string p2.name, .int .i64 p2.kind, .int .i64 p2.zone] 43) := by rw [← hWB]; exact heap_new _ _
              have f1 := (cells_at hbx2 1).1
              simp at f1
              have f2 : WB.cell? ⟨gA, 1, none⟩ = some (.int .i64 2) := by
                rw [HBB2.out.cell (p := ⟨gA, 1, none⟩) (heap_lt HBXA.out)]
                exact (cells_at HBXA.out 1).1
              obtain ⟨_, _, hsome, y0⟩ := int_at HRB.out j _ (va_at l j (by rw [HF.out.1]; exact hlt2))
              simp only [Option.some.injEq, Addr.mk.injEq] at hsome
              obtain ⟨rfl, rfl, _⟩ := hsome
              rw [Nat.zero_add] at y0
              have HD := hide (HF.out.2 j hlt2)
              obtain ⟨dj, hdj⟩ : ∃ d, va l j = d := ⟨_, rfl⟩
              rw [hdj] at y0 HD
              have j0 : (0 : Int) ≤ (j : Int) := by omega
              have j1 : (j : Int) < (n : Int) := by omega
              obtain ⟨mb, hmb⟩ : ∃ b, mustB 2 p2.kind = b := ⟨_, rfl⟩
              have Hmb : Hid (mustB (kindAt ns (k : Int)) (kindAt ns (j : Int)) = mb) := hide (by rw [Hkd.out, Hk2.out]; exact hmb)
              have Hlt2 := hide hlt2
              have HWB := hide hWB
              clear hp2 hdj hbx2 bB hWB
              go_upto_region 10 with fail
              rw [HWB.out]
              clear HWB
              cases mb with
              | true =>
                by_cases hz : dj = -1
                · have hno : Hid (¬ Wh ns es (clo m ms)) := hide (fun h => by
                    have h1 := h k j (by rw [Hn.out]; exact HlN.out) (by rw [Hn.out]; exact Hlt2.out) Hmb.out
                    have h2 := HD.out.has.1.2 h1
                    rw [hz] at h2
                    cases h2)
                  subst hz
                  go_wp2_with (go_at_call 16; refine (must_any _ _ _).mono ?_; rintro e W7 ⟨rfl, rfl⟩; rw [hmb])
                  refine bodyPost_ret (v := .bool false) (by simp [results, Try.results9, go_sem]) rfl ⟨(by first | exact ⟨false, rfl, fun h => (by cases h), fun h => absurd h hno.out⟩ | exact .inl ⟨rfl, hno.out⟩), HA.out.trans ((HBB.out.trans (HBB2.out.mono HBB.out.size)).mono HA.out.size)⟩
                · have hzb : (dj == -1) = false := beq_eq_false_iff_ne.2 hz
                  have HW1 := hide (HWr.out.step (fun _ => HD.out.has.1.1 (bne_iff_ne.2 hz)))
                  clear hz
                  go_wp2_with (go_at_call 16; refine (must_any _ _ _).mono ?_; rintro e W7 ⟨rfl, rfl⟩; rw [hmb])
                  go_roundw
                  case rel => exact ⟨j + 1, by omega, by go_num, HBB2, HRB, HW1⟩
                  case measure => simp [intOf]; omega
              | false =>
                have HW1 := hide (HWr.out.step (fun h => by rw [Hmb.out] at h; cases h))
                go_wp2_with (go_at_call 16; refine (must_any _ _ _).mono ?_; rintro e W7 ⟨rfl, rfl⟩; rw [hmb])
                go_roundw
                case rel => exact ⟨j + 1, by omega, by go_num, HBB2, HRB, HW1⟩
                case measure => simp [intOf]; omega
            · obtain rfl : j = n := by omega
              have j1 : ¬ (j : Int) < (j : Int) := by omega
              have HX1 : Hid (∀ i, i < k + 1 → Wr ns es (clo m ms) i j) := hide (fun i hi => by
                rcases Nat.lt_or_ge i k with h' | h'
                · exact HX.out i h'
                · obtain rfl : i = k := by omega
                  exact HWr.out)
              have HBE : Hid (Below W0.heap.size W0 wr) := hide (HBB.out.trans (HBi.out.mono HBB.out.size))
              have HCE := hide (HC1.out.keep HBi.out)
              have Hkn := HlN
              go_wp2_with fail
              go_roundw
              case rel => exact ⟨k + 1, by have := Hkn.out; omega, by go_num, HBE, HCE, HX1⟩
              case measure => have := Hkn.out; simp [intOf]; omega
        · have b4 : (kd != 4) = true := bne_iff_ne.2 h4
          have b2 : (kd != 2) = true := bne_iff_ne.2 h2
          have HX1 : Hid (∀ i, i < k + 1 → Wr ns es (clo m ms) i n) := hide (fun i hi => by
            rcases Nat.lt_or_ge i k with h' | h'
            · exact HX.out i h'
            · obtain rfl : i = k := by omega
              intro j hj hm'
              rw [Hkd.out, must_no _ _ h4 h2] at hm'
              cases hm')
          clear h4 h2
          go_wp2_with fail
          go_roundw
          case rel => exact ⟨k + 1, by have := HlN.out; omega, by go_num, HBB, HC1, HX1⟩
          case measure => have := HlN.out; simp [intOf]; omega
    · obtain rfl : k = n := by omega
      have j1 : ¬ (k : Int) < (k : Int) := by omega
      have hyes : Hid (Wh ns es (clo m ms)) := hide (fun i j hi hj hm' => HX.out i (by rw [Hn.out] at hi; exact hi) j (by rw [Hn.out] at hj; exact hj) hm')
      go_wp2_with fail
      refine bodyPost_ret (v := .bool true) (by simp [results, Try.results9, go_sem]) rfl ⟨(by first | exact ⟨true, rfl, fun _ => hyes.out, fun _ => rfl⟩ | exact .inr ⟨rfl, hyes.out⟩), HA.out.trans (HB.out.mono HA.out.size)⟩

end Go.Proofs.Ythimeobnfkoefab
