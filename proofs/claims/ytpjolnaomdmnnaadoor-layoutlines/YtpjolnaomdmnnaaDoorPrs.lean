/- Parse. -/
import Derived.Test.YtpjolnaomdmnnaaDoorTak
namespace Go.Proofs.YtpjolnaomdmnnaaDoor
open Go.RowKit Go.Maps Go.ChangeMaps
set_option linter.unusedVariables false

theorem take_any {w : World} {h : Hd} {vN vE : Value} {st : St} (K : Kept w h vN vE st) (l : ByteArray) (hl : l.size ≤ 5000) :
    Calls Tryd.prog 29 #[.pointer (some ⟨h.g, 0, none⟩), .string l] w fun e w' => ∃ ok, e = .returned (.bool ok) ∧ ((ok = true ∧ ∃ st' vN' vE', lineS lastAt st l = some st' ∧ Rdr w' h vN' vE' st') ∨ (ok = false ∧ lineS lastAt st l = none)) ∧ Chg h w w' := by
  cases hs : skipS l with
  | true =>
    refine (take_skip _ l w hs).mono ?_
    rintro e w' ⟨rfl, rfl⟩
    refine ⟨_, rfl, .inl ⟨rfl, st, vN, vE, ?_, K.r⟩, Chg.refl _ _⟩
    unfold lineS; rw [hs]; rfl
  | false =>
    refine (take_line K l hl hs).mono ?_
    rintro e w' (⟨st', h1, rfl, ⟨v, u, h2⟩, h3⟩ | ⟨h1, rfl, h3⟩)
    · exact ⟨_, rfl, .inl ⟨rfl, st', v, u, h1, h2⟩, h3⟩
    · exact ⟨_, rfl, .inr ⟨rfl, h1⟩, h3⟩
theorem lineS_more {lk : List Nd → ByteArray → Option Int} {st st' : St} {l : ByteArray} (h : lineS lk st l = some st') : st'.1.length ≤ st.1.length + 1 ∧ st'.2.length ≤ st.2.length + 1 ∧ ((∀ n ∈ st.1, n.name.size ≤ maxLen) → ∀ n ∈ st'.1, n.name.size ≤ maxLen) := by
  unfold lineS at h
  split at h
  · cases h; exact ⟨by omega, by omega, fun h => h⟩
  · split at h
    · split at h
      · rw [Option.map_eq_some_iff] at h
        obtain ⟨nd, h1, rfl⟩ := h
        refine ⟨by simp, by simp, fun hh n hn => ?_⟩
        simp at hn
        rcases hn with hn | rfl
        · exact hh n hn
        · obtain ⟨b, c, _, h2, _⟩ := nodeS_form h1
          unfold nameB at h2
          have := (of_decide_eq_true h2).2.1
          unfold maxLen; omega
      · split at h
        · rw [Option.map_eq_some_iff] at h
          obtain ⟨nd, h1, rfl⟩ := h
          exact ⟨by simp, by simp, fun h => h⟩
        · cases h
    · cases h
theorem own_cap {α : Type} {E : El Tryd.prog α} {w : World} {B : Nat} {a : Option Addr} {n c : Nat} {xs : List α} (h : E.Own w B (.slice a n c) xs) : xs.length ≤ c := by
  rcases h.2 with ⟨h1, h2⟩ | ⟨g, cap, cur, h1, _, _, h4, _⟩
  · omega
  · simp only [Value.slice.injEq] at h1
    obtain ⟨_, _, rfl⟩ := h1
    exact h4
theorem linesS_step (lk : List Nd → ByteArray → Option Int) (k : Nat) (st : St) (ls : List ByteArray) (l : ByteArray) (hl : ls[k]? = some l) : linesS lk k st (ls.drop k) = match lineS lk st l with
    | some st' => linesS lk (k + 1) st' (ls.drop (k + 1))
    | none => .inr (k + 1) := by
  have hk : k < ls.length := by
    rcases Nat.lt_or_ge k ls.length with h' | h'
    · exact h'
    · rw [List.getElem?_eq_none h'] at hl; cases hl
  rw [List.getElem?_eq_getElem hk] at hl
  cases hl
  rw [← List.getElem_cons_drop hk]
  rfl
/-- the reader at its beginning -/
theorem Kept.new (w : World) (C : Array Value) (L : Laid w) : Kept (((w.alloc (.cells C 25)).alloc (.map #[] 0)).alloc (.cells #[.slice none 0 0, .slice none 0 0, .map (some (w.heap.size + 1))] 62)) ⟨w.heap.size + 1 + 1, w.heap.size + 1, w.heap.size + 1⟩ (.slice none 0 0) (.slice none 0 0) ([], []) where
  r := {
    box := by
      show (((w.alloc (.cells C 25)).alloc (.map #[] 0)).heap.push _)[w.heap.size + 1 + 1]? = _
      rw [show w.heap.size + 1 + 1 = ((w.alloc (.cells C 25)).alloc (.map #[] 0)).heap.size by simp]
      exact Array.getElem?_push_size
    ns := El.Own.nil _ _ _
    es := El.Own.nil _ _ _
    map := by
      have := Mp.made (w.alloc (.cells C 25))
      have e : (w.alloc (.cells C 25)).heap.size = w.heap.size + 1 := by simp
      rw [e] at this
      exact this.keep (Below.heap_alloc _ _ _ (by simp))
    hg := by simp
    hb := by simp }
  l := L.keep L.size (((Below.refl _ _).alloc (Nat.le_refl _) _).alloc (by simp) _ |>.alloc (by simp; omega) _)
  b := by simp
  b5 := by have := L.size; simp; omega
  n1 := by simp
  n2 := by simp

set_option maxHeartbeats 1000000 in
theorem parse_long (text : ByteArray) (w : World) (hs : 4096 < text.size) :
    Calls Tryd.prog 14 #[.string text] w fun e w' => e = .returned (.tuple #[.agg #[.slice none 0 0, .slice none 0 0], .int .i64 0, .int .i64 3]) ∧ Below w.heap.size w w' := by
  have h1 : (4096 : Int) < text.size := by omega
  have b0 : Hid (∀ o, Below w.heap.size w (w.alloc o)) := hide (fun o => (Below.refl _ _).alloc (Nat.le_refl _) _)
  go_enter Tryd.func14, Tryd.ntmps14
  go_wp2_with fail
  exact bodyPost_ret (v := .tuple #[.agg #[.slice none 0 0, .slice none 0 0], .int .i64 0, .int .i64 3]) (by simp [results, Tryd.results14, go_sem]) rfl ⟨rfl, b0.out _⟩

set_option maxRecDepth 100000 in
set_option maxHeartbeats 4000000 in
theorem parse_any (text : ByteArray) (w : World) (L : Laid w) (hs : text.size ≤ 4096) :
    Calls Tryd.prog 14 #[.string text] w fun e w' => ∃ vN vE, e = .returned (.tuple #[.agg #[vN, vE], .int .i64 (parseS lastAt text).2.1, .int .i64 (parseS lastAt text).2.2]) ∧ ndE.Own w' w.heap.size vN (parseS lastAt text).1.1 ∧ edE.Own w' w.heap.size vE (parseS lastAt text).1.2 ∧ Below w.heap.size w w' := by
  have h1 : ¬ (4096 : Int) < text.size := by omega
  have pS : Hid (parseS lastAt text = match linesS lastAt 0 ([], []) (pieces 10 text) with
    | .inr n => (([], []), n, 60)
    | .inl st => if good st.1 st.2 = true then (st, 0, 0) else (([], []), 0, 61)) := hide (by unfold parseS; rw [if_neg (by omega)]; rfl)
  generalize parseS lastAt text = res at *
  have K0 := Kept.new w #[.slice none 0 0, .slice none 0 0] L
  have hk : ∀ t W, (Instr.makeMap t none).run Tryd.prog W = .ok (.map (some W.heap.size)) (W.alloc (.map #[] 0)) := fun t W => run_makeMap t W
  obtain ⟨W0, hW0⟩ : ∃ W0, ((w.alloc (.cells #[.slice none 0 0, .slice none 0 0] 25)).alloc (.map #[] 0)).alloc (.cells #[.slice none 0 0, .slice none 0 0, .map (some (w.heap.size + 1))] 62) = W0 := ⟨_, rfl⟩
  rw [hW0] at K0
  have hr0 : W0.heap[w.heap.size]? = some (.cells #[.slice none 0 0, .slice none 0 0] 25) := by
    rw [← hW0, Below.heap_alloc _ _ _ (by simp; omega), Below.heap_alloc _ _ _ (by simp)]
    exact heap_new _ _
  have b0 : Below w.heap.size w W0 := by rw [← hW0]; exact ((Below.refl _ _).alloc (Nat.le_refl _) _).alloc (by simp) _ |>.alloc (by simp; omega) _
  have K28 := hide (split_any 10 text ⟨#[10]⟩ rfl W0 (by omega) K0.l.m)
  have hpl : (pieces 10 text).length ≤ 4097 := by
    unfold pieces
    rw [List.length_map]
    have := pieces_len_le 10 text.data.toList
    have hb2 : text.data.toList.length = text.size := rfl
    omega
  have hps : Hid (∀ x ∈ pieces 10 text, x.size ≤ 5000) := hide (fun x hx => by
    unfold pieces at hx
    obtain ⟨y, hy, rfl⟩ := List.mem_map.1 hx
    have := piece_small 10 _ y hy
    have hb2 : text.data.toList.length = text.size := rfl
    rw [str_size]; omega)
  generalize pieces 10 text = ls at *
  obtain ⟨n, hn⟩ : ∃ n, ls.length = n := ⟨_, rfl⟩
  rw [hn] at K28 hpl
  have Hn := hide hn
  have Hpl := hide hpl
  have HK0 := hide K0
  have Hr0 := hide hr0
  have Hb0 := hide b0
  have HW0 := hide hW0
  have i0 : (n : Int) ≤ 4097 := by omega
  have i1 : (0 : Int) ≤ (n : Int) := by omega
  clear hn hpl K0 hr0 b0 hW0 hs L
  go_enter Tryd.func14, Tryd.ntmps14
  go_upto_region 4 with fail
  rw [HW0.out]
  obtain ⟨N, hN⟩ : ∃ N, w.heap.size = N := ⟨_, rfl⟩
  rw [hN] at HK0 Hr0 Hb0 ⊢
  have HN := hide hN
  clear hN HW0 hk
  go_wp2_with (go_at_call 28; refine (K28.out).mono ?_; rintro e W1 ⟨rfl, ho1, hb1⟩; have Ho1 := hide ho1; have Hb1 := hide hb1; clear ho1 hb1)
  have B0 : Hid (∀ W, Chg ⟨N + 1 + 1, N + 1, N + 1⟩ W0 W → W.heap[N]? = some (.cells #[.slice none 0 0, .slice none 0 0] 25) ∧ Below N w W) := hide (fun W hc => ⟨by rw [hc.below.block _ (by show N < N + 1; omega)]; exact Hr0.out, Hb0.out.trans (hc.below.mono (by show N ≤ N + 1; omega))⟩)
  obtain ⟨h, hh⟩ : ∃ h : Hd, (⟨N + 1 + 1, N + 1, N + 1⟩ : Hd) = h := ⟨_, rfl⟩
  have hg : h.g = N + 1 + 1 := by rw [← hh]
  have hB : h.B = N + 1 := by rw [← hh]
  rw [hh] at HK0 B0
  have HhB := hide hB
  have C1 : Hid (Chg h W0 W1) := hide (Chg.of HK0.out.b Hb1.out)
  have HK1 := hide (HK0.out.keep Hb1.out)
  rw [← hg]
  have Hhg := hide hg
  clear hh hB hg Hb1 HK0 K28
  generalize W0.heap.size = G at *
  go_loopw [18] (fun v18 wr => ∃ (k : Nat) (vN vE : Value) (st : St), k ≤ n ∧ v18 = .int .i64 k ∧ Hid (Kept wr h vN vE st) ∧ Hid (st.1.length ≤ k ∧ st.2.length ≤ k ∧ ∀ m ∈ st.1, m.name.size ≤ maxLen) ∧ Hid (strE.Own wr G (.slice (some ⟨G, 0, none⟩) n n) ls) ∧ Hid (linesS lastAt 0 ([], []) ls = linesS lastAt k st (ls.drop k)) ∧ Hid (Chg h W0 wr)) (fun v18 _ => n - (intOf v18).toNat)
  case atStart => exact ⟨0, _, _, _, by omega, rfl, HK1, hide (by simp), Ho1, hide rfl, C1⟩
  case round =>
    clear HK1 Ho1 C1
    obtain ⟨k, vN, vE, st, hk, rfl, HK, HS, HL, HE, HC⟩ := hrel
    by_cases hlt : k < n
    · obtain ⟨l, hl⟩ : ∃ l, ls[k]? = some l := ⟨_, List.getElem?_eq_getElem (by rw [Hn.out]; exact hlt)⟩
      obtain ⟨bb, off, e, c0⟩ := cell_of_get HL.out.rd k l hl
      cases e
      rw [Nat.zero_add] at c0
      have j0 : (0 : Int) ≤ (k : Int) := by omega
      have j1 : (k : Int) < (n : Int) := by omega
      have K29 := hide (take_any HK.out l (hps.out l (List.mem_of_getElem? hl)))
      have Hl := hide hl
      have Hst := hide (linesS_step lastAt k st ls l hl)
      clear hl
      go_upto_region 7 with fail
      go_wp2_with (go_at_call 29; refine (K29.out).mono ?_; rintro e W2 ⟨ok, rfl, hp, hc⟩; have hP := hide hp; have HC2 := hide hc; clear hp hc; refine Hid.out ?_)
      refine hide ?_
      have HCC := hide (HC.out.trans HC2.out)
      rcases hP.out with ⟨rfl, st', vN', vE', h2, h3⟩ | ⟨rfl, h2⟩
      · have HR := hide h3
        have H2 := hide h2
        have HL2 := hide (rd_strs HL.out HC2.out)
        have HM := hide (lineS_more h2)
        clear h2 h3 hP c0
        have HK2 : Hid (Kept W2 h vN' vE' st') := hide ⟨HR.out, HK.out.l.keep HK.out.b5 HC2.out.below, Nat.le_trans HK.out.b HC2.out.below.size, HK.out.b5, by have := HM.out.1; have := HS.out.1; have := Hpl.out; omega, by have := HM.out.2.1; have := HS.out.2.1; have := Hpl.out; omega⟩
        have HS2 : Hid (st'.1.length ≤ k + 1 ∧ st'.2.length ≤ k + 1 ∧ ∀ m ∈ st'.1, m.name.size ≤ maxLen) := hide ⟨by have := HM.out.1; have := HS.out.1; omega, by have := HM.out.2.1; have := HS.out.2.1; omega, HM.out.2.2 HS.out.2.2⟩
        have HE2 : Hid (linesS lastAt 0 ([], []) ls = linesS lastAt (k + 1) st' (ls.drop (k + 1))) := hide (by rw [HE.out, Hst.out, H2.out])
        go_wp2_with fail
        go_roundw
        case rel => exact ⟨k + 1, vN', vE', st', by omega, by go_num, HK2, HS2, HL2, HE2, HCC⟩
        case measure => simp [intOf]; omega
      · have H2 := hide h2
        obtain ⟨z0, z1⟩ := B0.out _ HCC.out
        have y0 := (cells_at z0 0).1
        have y1 := (cells_at z0 1).1
        have f0 := (cells_at z0 0).2
        have f1 := (cells_at z0 1).2
        simp at y0 y1
        have Hz := hide z1
        have rE : res = (([], []), k + 1, 60) := by rw [pS.out, HE.out, Hst.out, H2.out]
        subst rE
        have fin : Hid (Below w.heap.size w ((W2.setCell ⟨N, 0, none⟩ (.slice none 0 0)).setCell ⟨N, 1, none⟩ (.slice none 0 0))) := hide (by
          rw [HN.out]
          exact (z1.setCell (p := ⟨N, 0, none⟩) (Nat.le_refl _) _).setCell (p := ⟨N, 1, none⟩) (Nat.le_refl _) _)
        have hb2 := (heap_put (i := 1) (heap_put (i := 0) z0 (.slice none 0 0)) (.slice none 0 0))
        have q0 := (cells_at hb2 0).1
        have q1 := (cells_at hb2 1).1
        simp at q0 q1
        clear h2 hP c0 z1 z0 hb2
        go_wp2_with fail
        refine bodyPost_ret (v := .tuple #[.agg #[.slice none 0 0, .slice none 0 0], .int .i64 ((k + 1 : Nat) : Int), .int .i64 60]) (by simp [results, Tryd.results14, go_sem, q0, q1]) rfl ?_
        exact ⟨_, _, rfl, El.Own.nil _ _ _, El.Own.nil _ _ _, fin.out⟩
    · obtain rfl : k = n := by omega
      have j1 : ¬ (k : Int) < (k : Int) := by omega
      have hE : linesS lastAt 0 ([], []) ls = .inl st := by rw [HE.out, List.drop_of_length_le (by rw [Hn.out]; omega)]; rfl
      obtain ⟨z0, z1⟩ := B0.out _ HC.out
      have HKr := HK.out.r
      obtain ⟨aN, cN, rfl⟩ := HKr.ns.rd.form
      obtain ⟨aE, cE, rfl⟩ := HKr.es.rd.form
      have bx := HKr.box
      have b0 := (cells_at bx 0).1
      have b1 := (cells_at bx 1).1
      simp at b0 b1
      have K13 := hide (check_any aN aE cN cE st.1 st.2 wr HKr.ns.rd HKr.es.rd (own_cap HKr.es) HS.out.2.2)
      have pR : res = if good st.1 st.2 = true then (st, 0, 0) else (([], []), 0, 61) := by rw [pS.out, hE]
      have Hz0 := hide z0
      have Hz1 := hide z1
      have HR := hide HKr
      have glt : h.g < wr.heap.size := heap_lt bx
      have nlt : N < wr.heap.size := heap_lt z0
      obtain ⟨n1, hn1⟩ : ∃ n1, st.1.length = n1 := ⟨_, rfl⟩
      obtain ⟨n2, hn2⟩ : ∃ n2, st.2.length = n2 := ⟨_, rfl⟩
      rw [hn1, hn2] at K13
      rw [hn1] at b0
      rw [hn2] at b1
      have Hn1 := hide hn1
      have Hn2 := hide hn2
      have HBx := hide bx
      have Hlt := hide (And.intro glt nlt)
      clear hE z0 z1 HKr bx glt nlt hn1 hn2
      have X : Hid (∀ W, Below wr.heap.size wr W → W.heap[N]? = some (.cells #[.slice none 0 0, .slice none 0 0] 25) ∧ W.heap[h.g]? = wr.heap[h.g]? ∧ Below N w W ∧ Rdr W h (.slice aN st.1.length cN) (.slice aE st.2.length cE) st) := hide (fun W hb => ⟨by rw [hb.block _ Hlt.out.2]; exact Hz0.out, hb.block _ Hlt.out.1, Hz1.out.trans (hb.mono (Nat.le_of_lt Hlt.out.2)), HR.out.keep hb⟩)
      cases hgd : good st.1 st.2 with
      | false =>
        rw [hgd] at K13 pR
        simp only [Bool.false_eq_true, if_false] at K13 pR
        subst pR
        go_wp2_with (go_at_call 13; refine (K13.out).mono ?_; rintro e W3 ⟨rfl, hb3⟩; have ⟨z0, _, z1, _⟩ := X.out _ hb3; have y0 := (cells_at z0 0).1; have y1 := (cells_at z0 1).1; have f0 := (cells_at z0 0).2; have f1 := (cells_at z0 1).2; simp at y0 y1; have hb2 := (heap_put (i := 1) (heap_put (i := 0) z0 (.slice none 0 0)) (.slice none 0 0)); have q0 := (cells_at hb2 0).1; have q1 := (cells_at hb2 1).1; simp at q0 q1; have Hz := hide z1; clear hb3 z0 z1 hb2)
        have fin : Hid (Below w.heap.size w ((W3.setCell ⟨N, 0, none⟩ (.slice none 0 0)).setCell ⟨N, 1, none⟩ (.slice none 0 0))) := hide (by
          rw [HN.out]
          exact (Hz.out.setCell (p := ⟨N, 0, none⟩) (Nat.le_refl _) _).setCell (p := ⟨N, 1, none⟩) (Nat.le_refl _) _)
        refine bodyPost_ret (v := .tuple #[.agg #[.slice none 0 0, .slice none 0 0], .int .i64 0, .int .i64 61]) (by simp [results, Tryd.results14, go_sem, q0, q1]) rfl ?_
        exact ⟨_, _, rfl, El.Own.nil _ _ _, El.Own.nil _ _ _, fin.out⟩
      | true =>
        rw [hgd] at K13 pR
        simp only [if_true] at K13 pR
        subst pR
        go_wp2_with (go_at_call 13; refine (K13.out).mono ?_; rintro e W3 ⟨rfl, hb3⟩; have ⟨z0, z2, z1, z3⟩ := X.out _ hb3; rw [HBx.out] at z2; have b2 := (cells_at z2 0).1; have b3 := (cells_at z2 1).1; simp at b2 b3; rw [Hn1.out] at b2; rw [Hn2.out] at b3; have y0 := (cells_at z0 0).1; have y1 := (cells_at z0 1).1; have f0 := (cells_at z0 0).2; have f1 := (cells_at z0 1).2; simp at y0 y1; have hb2 := (heap_put (i := 1) (heap_put (i := 0) z0 (.slice aN n1 cN)) (.slice aE n2 cE)); have q0 := (cells_at hb2 0).1; have q1 := (cells_at hb2 1).1; simp at q0 q1; have Hz := hide z1; have Hz3 := hide z3; have Hz0 := hide z0; clear hb3 z0 z1 hb2 z2 z3)
        have fin : Hid (Below w.heap.size w ((W3.setCell ⟨N, 0, none⟩ (.slice aN n1 cN)).setCell ⟨N, 1, none⟩ (.slice aE n2 cE))) := hide (by
          rw [HN.out]
          exact (Hz.out.setCell (p := ⟨N, 0, none⟩) (Nat.le_refl _) _).setCell (p := ⟨N, 1, none⟩) (Nat.le_refl _) _)
        have ns4 : Hid (ndE.Own ((W3.setCell ⟨N, 0, none⟩ (.slice aN n1 cN)).setCell ⟨N, 1, none⟩ (.slice aE n2 cE)) w.heap.size (.slice aN n1 cN) st.1) := hide (by
          have h0 := Hz3.out.ns
          rw [Hn1.out] at h0
          refine (own_chg h0 fun q cur _ hq => ?_).mono (by rw [HN.out, HhB.out]; omega)
          have ne : q ≠ N := fun e => by subst e; rw [Hz0.out] at hq; simp only [Option.some.injEq, Obj.cells.injEq] at hq; exact absurd hq.2.1 (by decide)
          rw [Below.heap_setCell _ _ _ _ ne, Below.heap_setCell _ _ _ _ ne])
        have es4 : Hid (edE.Own ((W3.setCell ⟨N, 0, none⟩ (.slice aN n1 cN)).setCell ⟨N, 1, none⟩ (.slice aE n2 cE)) w.heap.size (.slice aE n2 cE) st.2) := hide (by
          have h0 := Hz3.out.es
          rw [Hn2.out] at h0
          refine (own_chg h0 fun q cur _ hq => ?_).mono (by rw [HN.out, HhB.out]; omega)
          have ne : q ≠ N := fun e => by subst e; rw [Hz0.out] at hq; simp only [Option.some.injEq, Obj.cells.injEq] at hq; exact absurd hq.2.1 (by decide)
          rw [Below.heap_setCell _ _ _ _ ne, Below.heap_setCell _ _ _ _ ne])
        refine bodyPost_ret (v := .tuple #[.agg #[.slice aN n1 cN, .slice aE n2 cE], .int .i64 0, .int .i64 0]) (by simp [results, Tryd.results14, go_sem, q0, q1]) rfl ?_
        exact ⟨_, _, rfl, ns4.out, es4.out, fin.out⟩
end Go.Proofs.YtpjolnaomdmnnaaDoor
