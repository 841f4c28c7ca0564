/- Cut: the devices without which there is no way. -/
import Derived.Test.YthimeobnfkoefabFro
import Derived.Test.YthimeobnfkoefabOwn
namespace Go.Proofs.Ythimeobnfkoefab
open Go.RowKit
set_option linter.unusedVariables false

/-- the numbers from 1 on of the first k for which p holds -/
def Cts (p : Nat → Prop) : Nat → List Int → Prop
  | 0, l => l = []
  | k + 1, l => ∃ l', Cts p k l' ∧ ((p k ∧ l = l' ++ [((k + 1 : Nat) : Int)]) ∨ (¬ p k ∧ l = l'))
theorem Cts.uniq {p : Nat → Prop} : ∀ {k : Nat} {l l' : List Int}, Cts p k l → Cts p k l' → l = l'
  | 0, _, _, h, h' => by rw [show _ = [] from h, show _ = [] from h']
  | k + 1, _, _, ⟨x, hx, h⟩, ⟨y, hy, h'⟩ => by
    obtain rfl := Cts.uniq hx hy
    rcases h with ⟨h1, rfl⟩ | ⟨h1, rfl⟩ <;> rcases h' with ⟨h2, rfl⟩ | ⟨h2, rfl⟩
    · rfl
    · exact absurd h1 h2
    · exact absurd h2 h1
    · rfl
theorem Cts.len {p : Nat → Prop} : ∀ {k : Nat} {l : List Int}, Cts p k l → l.length ≤ k
  | 0, _, h => by rw [show _ = [] from h]; simp
  | k + 1, _, ⟨x, hx, h⟩ => by
    have := Cts.len hx
    rcases h with ⟨_, rfl⟩ | ⟨_, rfl⟩
    · simp; omega
    · omega
theorem Cts.imp {p q : Nat → Prop} : ∀ {k : Nat} {l : List Int}, (∀ i, i < k → (p i ↔ q i)) → Cts p k l → Cts q k l
  | 0, _, _, h => h
  | k + 1, _, hpq, ⟨x, hx, h⟩ => ⟨x, Cts.imp (fun i hi => hpq i (by omega)) hx, by rw [← hpq k (by omega)]; exact h⟩
theorem Cts.mem {p : Nat → Prop} : ∀ {k : Nat} {l : List Int}, Cts p k l → ∀ d : Int, d ∈ l ↔ ∃ i : Nat, i < k ∧ p i ∧ d = ((i + 1 : Nat) : Int)
  | 0, _, h, d => by rw [show _ = [] from h]; simp
  | k + 1, l, ⟨x, hx, h⟩, d => by
    have ih := Cts.mem hx d
    rcases h with ⟨h1, rfl⟩ | ⟨h1, rfl⟩
    · rw [List.mem_append, ih, List.mem_singleton]
      constructor
      · rintro (⟨i, h2, h3⟩ | h)
        · exact ⟨i, by omega, h3⟩
        · exact ⟨k, by omega, h1, h⟩
      · rintro ⟨i, h2, h3, h4⟩
        rcases Nat.lt_or_ge i k with h5 | h5
        · exact .inl ⟨i, h5, h3, h4⟩
        · obtain rfl : i = k := by omega
          exact .inr h4
    · rw [ih]
      constructor
      · rintro ⟨i, h2, h3⟩; exact ⟨i, by omega, h3⟩
      · rintro ⟨i, h2, h3, h4⟩
        rcases Nat.lt_or_ge i k with h5 | h5
        · exact ⟨i, h5, h3, h4⟩
        · obtain rfl : i = k := by omega
          exact absurd h3 h1
/-- is there a way? -/
def Has (ns : List Nd) (es : List Ed) (cl : List Bool) (s t : Nat) : Prop := ∃ k, Way (Eg es cl 0) (Tk ns) s k t
theorem Dst.has {ns : List Nd} {es : List Ed} {cl : List Bool} {s t : Nat} {d : Int} (h : Dst (Eg es cl 0) (Tk ns) s t d) : ((d != -1) = true ↔ Has ns es cl s t) ∧ (-1 ≤ d) := by
  rcases h with ⟨rfl, h⟩ | ⟨k, rfl, h, _⟩
  · exact ⟨⟨fun h => by simp at h, fun ⟨k, hk⟩ => absurd hk (h k)⟩, by omega⟩
  · exact ⟨⟨fun _ => ⟨k, h⟩, fun _ => bne_iff_ne.2 (by omega)⟩, by omega⟩
/-- an edge without which there is none -/
def Ct (ns : List Nd) (es : List Ed) (cl : List Bool) (s t : Nat) (i : Nat) : Prop := cl[i]? = some false ∧ ¬ Has ns es (cl.set i true) s t
/-- what Cut tells -/
def Cuts (ns : List Nd) (es : List Ed) (cl : List Bool) (s t : Nat) (l : List Int) : Prop := (¬ Has ns es cl s t ∧ l = []) ∨ (Has ns es cl s t ∧ Cts (Ct ns es cl s t) es.length l)
theorem Cuts.uniq {ns : List Nd} {es : List Ed} {cl : List Bool} {s t : Nat} {l l' : List Int} (h : Cuts ns es cl s t l) (h' : Cuts ns es cl s t l') : l = l' := by
  rcases h with ⟨h1, rfl⟩ | ⟨h1, h2⟩ <;> rcases h' with ⟨h3, rfl⟩ | ⟨h3, h4⟩
  · rfl
  · exact absurd h3 h1
  · exact absurd h1 h3
  · exact h2.uniq h4
theorem own_ne {α β : Type} {E : El Try.prog α} {F : El Try.prog β} {w : World} {B g n c : Nat} {v : Value} {xs : List α} {ys : List β} (hne : E.e ≠ F.e) (hE : E.Own w B v xs) (hF : F.Own w B (.slice (some ⟨g, 0, none⟩) n c) ys) : v.ownBlock ≠ some g := fun e => by
  rcases hF.2 with ⟨hx, _⟩ | ⟨q, cap, cur, hx, h2, h3, _⟩
  · cases hx
  · simp only [Value.slice.injEq, Option.some.injEq, Addr.mk.injEq] at hx
    obtain ⟨⟨rfl, _⟩, _⟩ := hx
    rcases hE.2 with ⟨hy, _⟩ | ⟨q', cap', cur', hy, h4, h5, _⟩
    · rw [hy] at e; cases e
    · rw [hy] at e
      simp [Value.ownBlock] at e
      subst e
      rw [h5] at h3
      simp only [Option.some.injEq, Obj.cells.injEq] at h3
      exact hne h3.2.1

set_option maxRecDepth 100000 in
set_option maxHeartbeats 400000 in
theorem cut_no (a a' aM : Option Addr) (c c' cM n m k0 : Nat) (x y : Int) (w : World) (hx : ¬ ((0 ≤ x ∧ x < (n : Int)) ∧ (0 ≤ y ∧ y < (n : Int)))) :
    Calls Try.prog 11 #[.agg #[.slice a n c, .slice a' m c'], .slice aM k0 cM, .int .i64 x, .int .i64 y] w fun e w' => e = .returned (.tuple #[.slice none 0 0, .int .i64 1]) ∧ Below w.heap.size w w' := by
  obtain ⟨W0, hW0⟩ : ∃ W0, w.alloc (.cells #[.slice a n c, .slice a' m c'] 25) = W0 := ⟨_, rfl⟩
  have bA : Below w.heap.size w W0 := by rw [← hW0]; exact (Below.refl _ _).alloc (Nat.le_refl _) _
  have hbox : W0.heap[w.heap.size]? = some (.cells #[.slice a n c, .slice a' m c'] 25) := by rw [← hW0]; exact heap_new _ _
  have d0 := (cells_at hbox 0).1
  have d1 := (cells_at hbox 1).1
  simp at d0 d1
  have HBOX := hide hbox
  have HA := hide bA
  have HW0 := hide hW0
  have Hb : Hid (Below W0.heap.size W0 W0) := hide (Below.refl _ _)
  have K25 : Hid (∀ i W, Below W0.heap.size W0 W → Calls Try.prog 13 #[.agg #[.slice a n c, .slice a' m c'], .int .i64 i] W fun e w' => e = .returned (.bool (decide (0 ≤ i ∧ i < (n : Int)))) ∧ Below W0.heap.size W0 w') := hide (fun i W h => (isPlace_any a a' n c m c' i W).mono (by rintro e w' ⟨h1, h2⟩; exact ⟨h1, h.trans (h2.mono h.size)⟩))
  clear hW0 hbox bA
  by_cases h1 : 0 ≤ x ∧ x < (n : Int)
  · have tx : decide (0 ≤ x ∧ x < (n : Int)) = true := decide_eq_true h1
    have ty : decide (0 ≤ y ∧ y < (n : Int)) = false := decide_eq_false (fun h => hx ⟨h1, h⟩)
    clear hx h1
    go_enter Try.func11, Try.ntmps11
    go_upto_region 1 with fail
    rw [HW0.out]
    clear HW0
    go_wp2_with (go_at_call 13; refine (K25.out _ _ Hb.out).mono ?_; rintro e W2 ⟨rfl, hb2⟩; (first | rw [tx] | rw [ty]); have Hb := hide hb2; obtain ⟨z0, z1⟩ := layc HBOX.out hb2; clear hb2)
    refine bodyPost_ret (v := .tuple #[.slice none 0 0, .int .i64 1]) (by simp [results, Try.results11, go_sem]) rfl ⟨rfl, HA.out.trans (Hb.out.mono HA.out.size)⟩
  · have tx : decide (0 ≤ x ∧ x < (n : Int)) = false := decide_eq_false h1
    clear hx h1
    go_enter Try.func11, Try.ntmps11
    go_upto_region 1 with fail
    rw [HW0.out]
    clear HW0
    go_wp2_with (go_at_call 13; refine (K25.out _ _ Hb.out).mono ?_; rintro e W2 ⟨rfl, hb2⟩; rw [tx]; have Hb := hide hb2; clear hb2)
    refine bodyPost_ret (v := .tuple #[.slice none 0 0, .int .i64 1]) (by simp [results, Try.results11, go_sem]) rfl ⟨rfl, HA.out.trans (Hb.out.mono HA.out.size)⟩

set_option maxRecDepth 100000 in
set_option maxHeartbeats 1000000 in
theorem cut_ok (a a' aM : Option Addr) (c c' cM n m k0 s t : Nat) (ns : List Nd) (es : List Ed) (ms : List Int) (w : World) (hL : Ly w a a' c c' n m ns es) (hM : Mk w aM cM k0 ms) (hs : s < n) (ht : t < n) :
    Calls Try.prog 11 #[.agg #[.slice a n c, .slice a' m c'], .slice aM k0 cM, .int .i64 (s : Int), .int .i64 (t : Int)] w fun e w' => (∃ v l, e = .returned (.tuple #[v, .int .i64 0]) ∧ intE.Own w' w.heap.size v l ∧ Cuts ns es (clo m ms) s t l) ∧ Below w.heap.size w w' := by
  obtain ⟨W0, hW0⟩ : ∃ W0, w.alloc (.cells #[.slice a n c, .slice a' m c'] 25) = W0 := ⟨_, rfl⟩
  have bA : Below w.heap.size w W0 := by rw [← hW0]; exact (Below.refl _ _).alloc (Nat.le_refl _) _
  have hbox : W0.heap[w.heap.size]? = some (.cells #[.slice a n c, .slice a' m c'] 25) := by rw [← hW0]; exact heap_new _ _
  have d0 := (cells_at hbox 0).1
  have d1 := (cells_at hbox 1).1
  simp at d0 d1
  have HBOX := hide hbox
  have HA := hide bA
  have HLW : Hid (∀ W, Below W0.heap.size W0 W → Ly W a a' c c' n m ns es) := hide (fun W h => hL.keep (bA.trans (h.mono bA.size)))
  have HMW : Hid (∀ W, Below W0.heap.size W0 W → Mk W aM cM k0 ms) := hide (fun W h => hM.keep (bA.trans (h.mono bA.size)))
  have Hb : Hid (Below W0.heap.size W0 W0) := hide (Below.refl _ _)
  have K25 : Hid (∀ i W, Below W0.heap.size W0 W → Calls Try.prog 13 #[.agg #[.slice a n c, .slice a' m c'], .int .i64 i] W fun e w' => e = .returned (.bool (decide (0 ≤ i ∧ i < (n : Int)))) ∧ Below W0.heap.size W0 w') := hide (fun i W h => (isPlace_any a a' n c m c' i W).mono (by rintro e w' ⟨h1, h2⟩; exact ⟨h1, h.trans (h2.mono h.size)⟩))
  have K27 : Hid (∀ W, Below W0.heap.size W0 W → Calls Try.prog 15 #[.agg #[.slice a n c, .slice a' m c'], .slice aM k0 cM] W fun e w' => ∃ g, e = .returned (.slice (some ⟨g, 0, none⟩) m m) ∧ boolE.Own w' W0.heap.size (.slice (some ⟨g, 0, none⟩) m m) (clo m ms) ∧ Below W0.heap.size W0 w') := hide (fun W h => (closed_any a a' aM c c' cM n m k0 ms W (HMW.out W h).hk (HMW.out W h).hM (HMW.out W h).k4 (by have := hL.m4; omega)).mono (by rintro e w' ⟨⟨g, h1, h2⟩, h3⟩; exact ⟨g, h1, h2.mono h.size, h.trans (h3.mono h.size)⟩))
  have K28 : Hid (∀ (W : World) (g : Nat) (cl : List Bool), Below W0.heap.size W0 W → cl.length = m → boolE.Rd W (.slice (some ⟨g, 0, none⟩) m m) cl → Calls Try.prog 17 #[.agg #[.slice a n c, .slice a' m c'], .slice (some ⟨g, 0, none⟩) m m, .int .i64 (s : Int), .int .i64 (t : Int)] W fun e w' => ∃ b, e = .returned (.bool b) ∧ (b = true ↔ Has ns es cl s t) ∧ Below W.heap.size W w') := hide (fun W g cl h hc hr => (hasWay_any a a' (some ⟨g, 0, none⟩) c c' m n m s t ns es cl W (HLW.out W h) hc hr hs ht).mono (by rintro e w' ⟨⟨d, h1, h2⟩, h3⟩; exact ⟨_, h1, h2.has.1, h3⟩))
  have txs : decide (0 ≤ (s : Int) ∧ (s : Int) < (n : Int)) = true := decide_eq_true ⟨by omega, by omega⟩
  have txt : decide (0 ≤ (t : Int) ∧ (t : Int) < (n : Int)) = true := decide_eq_true ⟨by omega, by omega⟩
  have HW0 := hide hW0
  have Hm : Hid (es.length = m) := hide hL.hm
  have i1 : (m : Int) ≤ 1000 := by have := hL.m4; omega
  clear hL hM hs ht hW0 hbox bA
  go_enter Try.func11, Try.ntmps11
  go_upto_region 1 with fail
  rw [HW0.out]
  clear HW0
  go_upto_region 3 with (go_at_call 13; refine (K25.out _ _ Hb.out).mono ?_; rintro e W2 ⟨rfl, hb2⟩; (first | rw [txs] | rw [txt]); have Hb := hide hb2; obtain ⟨z0, z1⟩ := layc HBOX.out hb2; clear hb2)
  clear d0 d1 txs txt K25
  go_upto_region 4 with (go_at_call 15; refine (K27.out _ Hb.out).mono ?_; rintro e W4 ⟨g, rfl, hO4, hb4⟩; have Hb := hide hb4; have HO4 := hide hO4; obtain ⟨z0, z1⟩ := layc HBOX.out hb4; clear hO4 hb4)
  go_upto_if 31 with (go_at_call 17; refine (K28.out _ g (clo m ms) Hb.out (clo_len _ _) HO4.out.rd).mono ?_; rintro e W5 ⟨hb, rfl, hH, hb5⟩; have HO5 := hide (HO4.out.keep hb5); have Hb5 : Hid (Below W0.heap.size W0 W5) := hide (Hb.out.trans (hb5.mono Hb.out.size)); have HH := hide hH; clear hH hb5)
  cases hb with
  | false =>
    have hno : Hid (¬ Has ns es (clo m ms) s t) := hide (fun h => by have := HH.out.2 h; cases this)
    go_wp2_with fail
    refine bodyPost_ret (v := .tuple #[.slice none 0 0, .int .i64 0]) (by simp [results, Try.results11, go_sem]) rfl ⟨⟨_, [], rfl, El.Own.nil _ _ _, .inl ⟨hno.out, rfl⟩⟩, HA.out.trans (Hb5.out.mono HA.out.size)⟩
  | true =>
    have hyes : Hid (Has ns es (clo m ms) s t) := hide (HH.out.1 rfl)
    go_wp2_with fail
    go_loopw [11, 34] (fun v11 v34 wr => ∃ (i : Nat) (out : List Int), i ≤ m ∧ v34 = .int .i64 i ∧ Hid (boolE.Own wr W0.heap.size (.slice (some ⟨g, 0, none⟩) m m) (clo m ms)) ∧ Hid (intE.Own wr W0.heap.size v11 out) ∧ Hid (Below W0.heap.size W0 wr) ∧ Hid (Cts (Ct ns es (clo m ms) s t) i out)) (fun _ v34 _ => m - (intOf v34).toNat)
    case atStart => exact ⟨0, [], by omega, rfl, HO5, hide (El.Own.nil _ _ _), Hb5, hide rfl⟩
    case round =>
      clear z0 z1 HO4 HO5 Hb Hb5
      obtain ⟨i, out, hi, rfl, HC, HO, HB, HX⟩ := hrel
      by_cases hlt : i < m
      · have hci := clo_at m ms i hlt
        obtain ⟨cb, hcb⟩ : ∃ cb, decide (((i + 1 : Nat) : Int) ∈ ms) = cb := ⟨_, rfl⟩
        rw [hcb] at hci
        obtain ⟨y0, f0⟩ := HC.out.at1 Value.bool (fun _ => rfl) rfl i cb hci
        have Hci := hide hci
        have j0 : (0 : Int) ≤ (i : Int) := by omega
        have j1 : (i : Int) < (m : Int) := by omega
        clear hci hcb
        cases cb with
        | true =>
          have HX1 : Hid (Cts (Ct ns es (clo m ms) s t) (i + 1) out) := hide ⟨out, HX.out, .inr ⟨fun h => (by rw [Ct, Hci.out] at h; cases h.1), rfl⟩⟩
          go_wp2_with fail
          go_roundw
          case rel => exact ⟨i + 1, out, by omega, by go_num, HC, HO, HB, HX1⟩
          case measure => simp [intOf]; omega
        | false =>
          have HC1 : Hid (boolE.Own (wr.setCell ⟨g, i, none⟩ (.bool true)) W0.heap.size (.slice (some ⟨g, 0, none⟩) m m) ((clo m ms).set i true)) := hide (HC.out.set Value.bool (fun _ => rfl) rfl i true)
          have HB1 : Hid (Below W0.heap.size W0 (wr.setCell ⟨g, i, none⟩ (.bool true))) := hide (HB.out.setCell (p := ⟨g, i, none⟩) (HC.out.ge g rfl) _)
          have HO1 : Hid (intE.Own (wr.setCell ⟨g, i, none⟩ (.bool true)) W0.heap.size u11 out) := hide (own_set_other HO.out (own_ne (E := intE) (F := boolE) (by decide) HO.out HC.out))
          obtain ⟨z0, z1⟩ := layc HBOX.out HB1.out
          go_upto_if 49 with (go_at_call 17; refine (K28.out _ g _ HB1.out (by rw [List.length_set, clo_len]) HC1.out.rd).mono ?_; rintro e W6 ⟨hb, rfl, hH, hb6⟩; have HC6 := hide (HC1.out.keep hb6); have HO6 := hide (HO1.out.keep hb6); have HB6 : Hid (Below W0.heap.size W0 W6) := hide (HB1.out.trans (hb6.mono HB1.out.size)); have HH := hide hH; clear hH hb6)
          have hback : ((clo m ms).set i true).set i false = clo m ms := by
            rw [List.set_set]
            apply List.ext_getElem?
            intro k
            rw [List.getElem?_set]
            by_cases e : i = k
            · subst e
              rw [if_pos rfl, if_pos (by rw [clo_len]; exact hlt), Hci.out]
            · rw [if_neg e]
          have Hback := hide hback
          have hl6 : i < ((clo m ms).set i true).length := by rw [List.length_set, clo_len]; exact hlt
          have Hl6 := hide hl6
          clear hback hl6
          cases hb with
          | true =>
            have HX1 : Hid (Cts (Ct ns es (clo m ms) s t) (i + 1) out) := hide ⟨out, HX.out, .inr ⟨fun h => h.2 (HH.out.1 rfl), rfl⟩⟩
            obtain ⟨y6, f6⟩ := HC6.out.at1 Value.bool (fun _ => rfl) rfl i _ (List.getElem?_eq_getElem Hl6.out)
            generalize ((clo m ms).set i true)[i]'Hl6.out = old at y6
            have HC7 : Hid (boolE.Own (W6.setCell ⟨g, i, none⟩ (.bool false)) W0.heap.size (.slice (some ⟨g, 0, none⟩) m m) (clo m ms)) := hide (by rw [← Hback.out]; exact HC6.out.set Value.bool (fun _ => rfl) rfl i false)
            have HB7 : Hid (Below W0.heap.size W0 (W6.setCell ⟨g, i, none⟩ (.bool false))) := hide (HB6.out.setCell (p := ⟨g, i, none⟩) (HC6.out.ge g rfl) _)
            have HO7 : Hid (intE.Own (W6.setCell ⟨g, i, none⟩ (.bool false)) W0.heap.size u11 out) := hide (own_set_other HO6.out (own_ne (E := intE) (F := boolE) (by decide) HO6.out HC6.out))
            go_wp2_with fail
            go_roundw
            case rel => exact ⟨i + 1, out, by omega, by go_num, HC7, HO7, HB7, HX1⟩
            case measure => simp [intOf]; omega
          | false =>
            have HX1 : Hid (Cts (Ct ns es (clo m ms) s t) (i + 1) (out ++ [((i + 1 : Nat) : Int)])) := hide ⟨out, HX.out, .inl ⟨⟨Hci.out, fun h => (by have := HH.out.2 h; cases this)⟩, rfl⟩⟩
            have Hln := hide HX.out.len
            have HA7 : Hid (Below W0.heap.size W0 (W6.alloc (.cells #[.int .i64 ((i : Int) + 1)] 3))) := hide (HB6.out.alloc HB6.out.size _)
            have HOA : Hid (intE.Own (W6.alloc (.cells #[.int .i64 ((i : Int) + 1)] 3)) W0.heap.size u11 out) := hide (World.ownsRow.alloc HO6.out _)
            have HCA : Hid (boolE.Own (W6.alloc (.cells #[.int .i64 ((i : Int) + 1)] 3)) W0.heap.size (.slice (some ⟨g, 0, none⟩) m m) ((clo m ms).set i true)) := hide (World.ownsRow.alloc HC6.out _)
            go_upto_region 14 with (at_builtin; refine intE.wp (w0 := W0) HA7.out (by rfl) _ _ rfl _ _ rfl rfl out [(i : Int) + 1] HOA.out (int_new _ _ _ (by simp)) (by have := Hln.out; simp; omega) ?_; intro v8 W8 ho8 hg8 hv8 hb8
                                    have HO8 := hide ho8
                                    have HC8 := hide (own_other (E := intE) (F := boolE) (by decide) HOA.out HCA.out hg8)
                                    have HB8 := hide hb8
                                    clear ho8 hg8 hv8 hb8)
            obtain ⟨y6, f6⟩ := HC8.out.at1 Value.bool (fun _ => rfl) rfl i _ (List.getElem?_eq_getElem Hl6.out)
            generalize ((clo m ms).set i true)[i]'Hl6.out = old at y6
            have HC7 : Hid (boolE.Own (W8.setCell ⟨g, i, none⟩ (.bool false)) W0.heap.size (.slice (some ⟨g, 0, none⟩) m m) (clo m ms)) := hide (by rw [← Hback.out]; exact HC8.out.set Value.bool (fun _ => rfl) rfl i false)
            have HB7 : Hid (Below W0.heap.size W0 (W8.setCell ⟨g, i, none⟩ (.bool false))) := hide (HB8.out.setCell (p := ⟨g, i, none⟩) (HC8.out.ge g rfl) _)
            have HO7 : Hid (intE.Own (W8.setCell ⟨g, i, none⟩ (.bool false)) W0.heap.size v8 (out ++ [(i : Int) + 1])) := hide (own_set_other HO8.out (own_ne (E := intE) (F := boolE) (by decide) HO8.out HC8.out))
            go_wp2_with fail
            go_roundw
            case rel => exact ⟨i + 1, _, by omega, by go_num, HC7, HO7, HB7, HX1⟩
            case measure => simp [intOf]; omega
      · obtain rfl : i = m := by omega
        have j1 : ¬ (i : Int) < (i : Int) := by omega
        have HX1 : Hid (Cts (Ct ns es (clo i ms) s t) es.length out) := hide (by rw [Hm.out]; exact HX.out)
        go_wp2_with fail
        refine bodyPost_ret (v := .tuple #[u11, .int .i64 0]) (by simp [results, Try.results11, go_sem]) rfl ⟨⟨_, rfl, out, HO.out.mono HA.out.size, .inr ⟨hyes.out, HX1.out⟩⟩, HA.out.trans (HB.out.mono HA.out.size)⟩
end Go.Proofs.Ythimeobnfkoefab
