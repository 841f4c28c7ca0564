/- The document's line. -/
import Derived.Test.YtpjolnaomdmnnaaDoorWrd
import Derived.Test.YtpjolnaomdmnnaaDoorRgd
import Derived.Test.YtpjolnaomdmnnaaDoorOw2
namespace Go.Proofs.YtpjolnaomdmnnaaDoor
open Go.RowKit
set_option linter.unusedVariables false

theorem cut_cons (c : UInt8) (l : List UInt8) : cutL c l ≠ [] := by
  cases l with
  | nil => simp [cutL]
  | cons x l => unfold cutL; split <;> (try split) <;> simp
theorem pieces_cons (c : UInt8) (s : ByteArray) : ∃ w ws, pieces c s = w :: ws := by
  cases h : pieces c s with
  | nil => exact absurd (List.map_eq_nil_iff.1 h) (cut_cons c _)
  | cons w ws => exact ⟨w, ws, rfl⟩
def NodeOk (ws : List ByteArray) (nd : Nd) : Prop := ∃ w1 w2 w3, ws = [nodeWd, w1, w2, w3] ∧ nd.name = w1 ∧ nameB w1 = true ∧ kindS w2 = some nd.kind ∧ zoneS w3 = some nd.zone
def EdgeOk (ns : List Nd) (ws : List ByteArray) (e : Ed) : Prop := ∃ w1 w2, ws = [edgeWd, w1, w2] ∧ firstAt ns w1 = some e.1 ∧ firstAt ns w2 = some e.2
theorem wd_ne : edgeWd ≠ nodeWd := by intro h; have := str_inj h; simp at this
theorem line_node {lk : List Nd → ByteArray → Option Int} {st : St} {s : ByteArray} {nd : Nd} (h0 : skipS s = false) (h : NodeOk (pieces 32 s) nd) : lineS lk st s = some (st.1 ++ [nd], st.2) := by
  obtain ⟨w1, w2, w3, h1, h2, h3, h4, h5⟩ := h
  unfold lineS
  rw [h0, if_neg (by simp), h1]
  obtain ⟨a, b, c⟩ := nd
  simp only at h2 h4 h5
  subst h2
  simp [nodeS, h3, h4, h5]
theorem line_edge {st : St} {s : ByteArray} {e : Ed} (h0 : skipS s = false) (h : EdgeOk st.1 (pieces 32 s) e) : lineS firstAt st s = some (st.1, st.2 ++ [e]) := by
  obtain ⟨w1, w2, h1, h2, h3⟩ := h
  unfold lineS
  rw [h0, if_neg (by simp), h1]
  simp only
  simp [wd_ne, edgeS, h2, h3]
theorem line_none {st : St} {s : ByteArray} (h0 : skipS s = false) (h1 : ¬ ∃ nd, NodeOk (pieces 32 s) nd) (h2 : ¬ ∃ e, EdgeOk st.1 (pieces 32 s) e) : lineS firstAt st s = none := by
  unfold lineS
  rw [h0, if_neg (by simp)]
  obtain ⟨w, ws, hw⟩ := pieces_cons 32 s
  rw [hw] at h1 h2 ⊢
  simp only
  by_cases e1 : w = nodeWd
  · subst e1
    rw [if_pos rfl]
    cases hn : nodeS ws with
    | none => rfl
    | some nd =>
      exfalso
      apply h1
      unfold nodeS at hn
      split at hn
      · next a b c =>
        split at hn
        · next hna =>
          split at hn
          · next k z hk hz =>
            cases hn
            exact ⟨⟨a, k, z⟩, a, b, c, rfl, rfl, hna, hk, hz⟩
          · cases hn
        · cases hn
      · cases hn
  · rw [if_neg e1]
    by_cases e2 : w = edgeWd
    · subst e2
      rw [if_pos rfl]
      cases hn : edgeS (firstAt st.1) ws with
      | none => rfl
      | some e =>
        exfalso
        apply h2
        unfold edgeS at hn
        split at hn
        · next a b =>
          split at hn
          · next x y hx hy =>
            cases hn
            exact ⟨(x, y), a, b, rfl, hx, hy⟩
          · cases hn
        · cases hn
    · rw [if_neg e2]
theorem first_ge (ns : List Nd) (x : ByteArray) : 0 ≤ (firstAt ns x).getD (-1) ↔ ∃ y, firstAt ns x = some y := by
  cases h : firstAt ns x with
  | none => simp
  | some y => exact ⟨fun _ => ⟨y, rfl⟩, fun _ => firstFrom_ge x ns 0 y h⟩
theorem str_at {w : World} {a : Option Addr} {n c : Nat} {xs : List ByteArray} (h : strE.Rd w (.slice a n c) xs) (i : Nat) (p : ByteArray) (hp : xs[i]? = some p) : ∃ b off, a = some ⟨b, off, none⟩ ∧ w.cell? ⟨b, off + i, none⟩ = some (.string p) := by
  obtain ⟨b, off, h1, h2⟩ := h.at i p hp
  refine ⟨b, off, h1, ?_⟩
  have := h2 0 (by show 0 < 1; omega)
  simpa [strE] using this
theorem below_hp {B : Nat} {w W W' : World} (h : Below B w W) (e : W'.heap = W.heap) (e1 : W'.os = W.os) (e2 : W'.tape = W.tape) (e3 : W'.output = W.output) : Below B w W' :=
  ⟨by rw [e1]; exact h.os, by rw [e2]; exact h.tape, by rw [e3]; exact h.output, by rw [e]; exact h.size, by rw [e]; exact h.block⟩
theorem fin_ok {w W0 W5 : World} {p q v : Value} (i : Nat) (hA : Below w.heap.size w W0) (x1 : W0.heap[w.heap.size]? = some (.cells #[p, q] 25)) (x2 : W0.heap[w.heap.size + 1]? = some (.cells #[.slice none 0 0, .slice none 0 0] 25)) (hb : Below W0.heap.size W0 W5) :
    (W5.setCell ⟨w.heap.size, i, none⟩ v).heap[w.heap.size]? = some (.cells (#[p, q].setIfInBounds i v) 25) ∧ (W5.setCell ⟨w.heap.size, i, none⟩ v).heap[w.heap.size + 1]? = some (.cells #[.slice none 0 0, .slice none 0 0] 25) ∧ Below w.heap.size w (W5.setCell ⟨w.heap.size, i, none⟩ v) ∧ ∀ {α : Type} (E : El Tryd.prog α) (B : Nat) (u : Value) (xs : List α), E.e ≠ 25 → E.Own W5 B u xs → E.Own (W5.setCell ⟨w.heap.size, i, none⟩ v) B u xs := by
  have h1 : W5.heap[w.heap.size]? = some (.cells #[p, q] 25) := by rw [hb.block _ (heap_lt x1)]; exact x1
  have h2 : W5.heap[w.heap.size + 1]? = some (.cells #[.slice none 0 0, .slice none 0 0] 25) := by rw [hb.block _ (heap_lt x2)]; exact x2
  refine ⟨heap_put h1 v, by rw [Below.heap_setCell _ _ _ _ (by simp)]; exact h2, (hA.trans (hb.mono hA.size)).setCell (p := ⟨w.heap.size, i, none⟩) (Nat.le_refl _) _, fun E B u xs hE hO => own_chg hO fun k cur _ hk => Below.heap_setCell _ _ _ _ (fun e => ?_)⟩
  subst e
  rw [h1] at hk
  simp only [Option.some.injEq, Obj.cells.injEq] at hk
  exact hE hk.2.1.symm
theorem fin_two {w W6 : World} {p q : Value} (x2 : W6.heap[w.heap.size + 1]? = some (.cells #[.slice none 0 0, .slice none 0 0] 25)) (hb : Below w.heap.size w W6) :
    ((W6.setCell ⟨w.heap.size + 1, 0, none⟩ p).setCell ⟨w.heap.size + 1, 1, none⟩ q).heap[w.heap.size + 1]? = some (.cells #[p, q] 25) ∧ Below w.heap.size w ((W6.setCell ⟨w.heap.size + 1, 0, none⟩ p).setCell ⟨w.heap.size + 1, 1, none⟩ q) ∧ ∀ {α : Type} (E : El Tryd.prog α) (B : Nat) (u : Value) (xs : List α), E.e ≠ 25 → E.Own W6 B u xs → E.Own ((W6.setCell ⟨w.heap.size + 1, 0, none⟩ p).setCell ⟨w.heap.size + 1, 1, none⟩ q) B u xs := by
  refine ⟨heap_put (heap_put x2 p) q, (hb.setCell (p := ⟨w.heap.size + 1, 0, none⟩) (by simp) _).setCell (p := ⟨w.heap.size + 1, 1, none⟩) (by simp) _, fun E B u xs hE hO => own_chg hO fun k cur _ hk => ?_⟩
  have ne : k ≠ w.heap.size + 1 := fun e => by
    subst e
    rw [x2] at hk
    simp only [Option.some.injEq, Obj.cells.injEq] at hk
    exact hE hk.2.1.symm
  rw [Below.heap_setCell _ _ _ _ ne, Below.heap_setCell _ _ _ _ ne]
theorem kind_pos {s : ByteArray} {k : Int} (h : kindS s = some k) : 1 ≤ k ∧ k ≤ 4 := by
  unfold kindS at h
  repeat (split at h; · (have := Option.some.inj h; omega))
  cases h
/-- what the call leaves: a layout that reads so -/
def RLn (w' : World) (st : St) (v : Value) : Prop := ∃ b b' d d', v = .agg #[.slice b st.1.length d, .slice b' st.2.length d'] ∧ ndE.Rd w' (.slice b st.1.length d) st.1 ∧ edE.Rd w' (.slice b' st.2.length d') st.2
def RLret (o : Option St) (e : Ending) (w' : World) : Prop := match o with
  | some st => ∃ v, e = .returned (.tuple #[v, .bool true]) ∧ RLn w' st v
  | none => ∃ b n d b' m d', e = .returned (.tuple #[.agg #[.slice b n d, .slice b' m d'], .bool false])

set_option maxRecDepth 100000 in
set_option maxHeartbeats 16000000 in
theorem rline_any (a a' : Option Addr) (c c' n m : Nat) (ns : List Nd) (es : List Ed) (s : ByteArray) (w : World) (hn : ns.length = n) (hm : es.length = m) (hv : ndE.Rd w (.slice a n c) ns) (hu : edE.Rd w (.slice a' m c') es) (hl : n ≤ 5000) (hl' : m ≤ 5000) (hs : s.size ≤ 5000) :
    Calls Tryd.prog 30 #[.agg #[.slice a n c, .slice a' m c'], .string s] w fun e w' => RLret (lineS firstAt (ns, es) s) e w' ∧ Below w.heap.size w w' := by
  obtain ⟨W0, hW0⟩ : ∃ W0, (w.alloc (.cells #[.slice a n c, .slice a' m c'] 25)).alloc (.cells #[.slice none 0 0, .slice none 0 0] 25) = W0 := ⟨_, rfl⟩
  have bA : Below w.heap.size w W0 := by rw [← hW0]; exact ((Below.refl _ _).alloc (Nat.le_refl _) _).alloc (by simp) _
  have x1 : W0.heap[w.heap.size]? = some (.cells #[.slice a n c, .slice a' m c'] 25) := by rw [← hW0, Below.heap_alloc _ _ _ (by simp)]; exact heap_new _ _
  have x2 : W0.heap[w.heap.size + 1]? = some (.cells #[.slice none 0 0, .slice none 0 0] 25) := by
    rw [← hW0]
    have := heap_new (w.alloc (.cells #[.slice a n c, .slice a' m c'] 25)) (.cells #[.slice none 0 0, .slice none 0 0] 25)
    rwa [show (w.alloc (.cells #[.slice a n c, .slice a' m c'] 25)).heap.size = w.heap.size + 1 by simp] at this
  have HB1 := hide x1
  have HB2 := hide x2
  have HA := hide bA
  have HW0 := hide hW0
  have HC : Hid (∀ W, Below W0.heap.size W0 W → (W.cell? ⟨w.heap.size, 0, none⟩ = some (.slice a n c) ∧ W.cell? ⟨w.heap.size, 1, none⟩ = some (.slice a' m c')) ∧ (W.cell? ⟨w.heap.size + 1, 0, none⟩ = some (.slice none 0 0) ∧ W.cell? ⟨w.heap.size + 1, 1, none⟩ = some (.slice none 0 0)) ∧ (W.frozen? ⟨w.heap.size + 1, 0, none⟩ = false ∧ W.frozen? ⟨w.heap.size + 1, 1, none⟩ = false) ∧ W.frozen? ⟨w.heap.size, 0, none⟩ = false ∧ W.frozen? ⟨w.heap.size, 1, none⟩ = false) := hide (fun W h => by
    have h1 : W.heap[w.heap.size]? = some (.cells #[.slice a n c, .slice a' m c'] 25) := by rw [h.block _ (heap_lt x1)]; exact x1
    have h2 : W.heap[w.heap.size + 1]? = some (.cells #[.slice none 0 0, .slice none 0 0] 25) := by rw [h.block _ (heap_lt x2)]; exact x2
    exact ⟨⟨(cells_at h1 0).1, (cells_at h1 1).1⟩, ⟨(cells_at h2 0).1, (cells_at h2 1).1⟩, ⟨(cells_at h2 0).2, (cells_at h2 1).2⟩, (cells_at h1 0).2, (cells_at h1 1).2⟩)
  have HR : Hid (∀ W, Below W0.heap.size W0 W → ndE.Rd W (.slice a n c) ns ∧ edE.Rd W (.slice a' m c') es) := hide (fun W h => have b := bA.trans (h.mono bA.size); ⟨hv.keep b, hu.keep b⟩)
  have HRw : Hid (∀ W, Below w.heap.size w W → ndE.Rd W (.slice a n c) ns ∧ edE.Rd W (.slice a' m c') es) := hide (fun W b => ⟨hv.keep b, hu.keep b⟩)
  have Hn := hide hn
  have Hm := hide hm
  have Hl := hide hl
  have Hl' := hide hl'
  have K45 := hide (fun W => words_any s W hs)
  have Hs := hide hs
  have K20 : Hid (∀ W x, Below W0.heap.size W0 W → Calls Tryd.prog 20 #[.agg #[.slice a n c, .slice a' m c'], .string x] W fun e w' => e = .returned (.int .i64 ((firstAt ns x).getD (-1))) ∧ Below W.heap.size W w') := hide (fun W x h => by
    have := rfind_any a c (.slice a' m c') ns x W (by rw [hn]; exact (HR.out W h).1) (by omega) ⟨_, _, _, rfl⟩
    rwa [hn] at this)
  obtain ⟨⟨d0, d1⟩, ⟨d2, d3⟩, ⟨f2, f3⟩, f0, f1⟩ := HC.out W0 (Below.refl _ _)
  have hr0 : Hid (∀ W, Below W0.heap.size W0 W → ∀ W', W' = (W.setCell ⟨w.heap.size + 1, 0, none⟩ (.slice a n c)).setCell ⟨w.heap.size + 1, 1, none⟩ (.slice a' m c') → (W'.cell? ⟨w.heap.size + 1, 0, none⟩ = some (.slice a n c) ∧ W'.cell? ⟨w.heap.size + 1, 1, none⟩ = some (.slice a' m c')) ∧ Below w.heap.size w W') := hide (fun W h W' hW' => by
    subst hW'
    have h2 : W.heap[w.heap.size + 1]? = some (.cells #[.slice none 0 0, .slice none 0 0] 25) := by rw [h.block _ (heap_lt x2)]; exact x2
    have h3 := heap_put (i := 1) (heap_put (i := 0) h2 (.slice a n c)) (.slice a' m c')
    refine ⟨⟨(cells_at h3 0).1, (cells_at h3 1).1⟩, ?_⟩
    exact ((bA.trans (h.mono bA.size)).setCell (p := ⟨w.heap.size + 1, 0, none⟩) (by simp) _).setCell (p := ⟨w.heap.size + 1, 1, none⟩) (by simp) _)
  clear hW0 x1 x2 bA hv hu hl hl' hn hm
  by_cases hsk : skipS s = true
  · have hln : lineS firstAt (ns, es) s = some (ns, es) := by unfold lineS; rw [if_pos hsk]
    rw [hln]
    obtain ⟨⟨r0, r1⟩, rb⟩ := hr0.out W0 (Below.refl _ _) _ rfl
    have HRB := hide rb
    have Hfin : Hid (∀ W', Below w.heap.size w W' → RLn W' (ns, es) (.agg #[.slice a n c, .slice a' m c'])) := hide (fun W' h => ⟨a, a', c, c', by rw [Hn.out, Hm.out], by rw [Hn.out]; exact (HRw.out W' h).1, by rw [Hm.out]; exact (HRw.out W' h).2⟩)
    unfold skipS at hsk
    by_cases h0 : s.size = 0
    · have h0' : (s.size : Int) = 0 := by omega
      have h0b : ((s.size : Int) == 0) = true := beq_iff_eq.2 h0'
      clear hsk h0 hln
      go_enter Tryd.func30, Tryd.ntmps30
      go_upto_region 1 with fail
      rw [HW0.out]
      clear HW0
      go_wp2_with fail
      refine bodyPost_ret (v := .tuple #[.agg #[.slice a n c, .slice a' m c'], .bool true]) (by simp [results, Tryd.results30, go_sem, r0, r1]) rfl ?_
      exact ⟨⟨_, rfl, Hfin.out _ HRB.out⟩, HRB.out⟩
    · have h35 : byteAt s 0 = 35 := by simpa [h0] using hsk
      have j1 : (0 : Int) < (s.size : Int) := by omega
      have h0b : ((s.size : Int) == 0) = false := beq_eq_false_iff_ne.2 (by omega)
      have h0n : ¬ (s.size : Int) = 0 := by omega
      have hidx : ∀ W : World, (Instr.index 9 (.string s) (.int .i64 0)).run Tryd.prog W = .ok (.int .u8 35) W := fun W => by
        rw [run_index_string W 9 s .i64 0 Tryd.underlying9, dif_pos ⟨by omega, j1⟩]
        have hz : 0 < s.size := by omega
        have := byteAt_eq s 0 hz
        rw [h35] at this
        simp only [Int.toNat_zero]
        rw [← this]
        rfl
      clear hsk h0 hln h35
      go_enter Tryd.func30, Tryd.ntmps30
      go_upto_region 1 with fail
      rw [HW0.out]
      clear HW0
      go_wp2_with fail
      refine bodyPost_ret (v := .tuple #[.agg #[.slice a n c, .slice a' m c'], .bool true]) (by simp [results, Tryd.results30, go_sem, r0, r1]) rfl ?_
      exact ⟨⟨_, rfl, Hfin.out _ HRB.out⟩, HRB.out⟩
  · have hskf : skipS s = false := by simpa using hsk
    have Hskf := hide hskf
    have hs2 : ¬ s.size = 0 ∧ ¬ byteAt s 0 = 35 := by
      unfold skipS at hsk
      simpa using hsk
    have j1 : (0 : Int) < (s.size : Int) := by omega
    have h0b : ((s.size : Int) == 0) = false := beq_eq_false_iff_ne.2 (by omega)
    have h0n : ¬ (s.size : Int) = 0 := by omega
    obtain ⟨r0, hr0'⟩ : ∃ r : Int, (byteAt s 0 : Int) = r := ⟨_, rfl⟩
    have hidx : ∀ W : World, (Instr.index 9 (.string s) (.int .i64 0)).run Tryd.prog W = .ok (.int .u8 r0) W := fun W => by
      rw [run_index_string W 9 s .i64 0 Tryd.underlying9, dif_pos ⟨by omega, j1⟩]
      have hz : 0 < s.size := by omega
      have := byteAt_eq s 0 hz
      rw [← hr0', this]
      rfl
    have h35b : (r0 == 35) = false := beq_eq_false_iff_ne.2 (by omega)
    have h35n : ¬ r0 = 35 := by omega
    clear hs2 hr0' hsk hskf
    go_enter Tryd.func30, Tryd.ntmps30
    go_upto_region 1 with fail
    rw [HW0.out]
    clear HW0
    go_upto_region 4 with (go_at_call 45; refine (K45.out _).mono ?_; rintro e W3 ⟨v, rfl, hO3, hb3⟩
                           obtain ⟨aS, cS, hvS⟩ := hO3.rd.form
                           subst hvS
                           have HRS := hide hO3.rd
                           have Hb3 : Hid (Below W0.heap.size W0 W3) := hide hb3
                           clear hO3 hb3)
    clear d0 d1 d2 d3 f0 f1 f2 f3 K45 hidx j1 h0b h0n h35b h35n
    obtain ⟨ws, hws⟩ : ∃ ws, pieces 32 s = ws := ⟨_, rfl⟩
    have Hws := hide hws
    rw [hws] at HRS ⊢
    obtain ⟨nw, hnw⟩ : ∃ nw, ws.length = nw := ⟨_, rfl⟩
    have Hnw := hide hnw
    rw [hnw] at HRS ⊢
    clear hws hnw
    have Hwl : Hid (∀ (i : Nat) x, ws[i]? = some x → ∃ b off, aS = some ⟨b, off, none⟩ ∧ ∀ W, Below W3.heap.size W3 W → W.cell? ⟨b, off + i, none⟩ = some (.string x)) := hide (fun i x hx => by
      obtain ⟨b, off, h1, h2⟩ := str_at HRS.out i x hx
      exact ⟨b, off, h1, fun W h => by rw [h.cell (p := ⟨b, off + i, none⟩) (cell_lt h2)]; exact h2⟩)
    have nwd : nodeWd.toList = [110, 111, 100, 101] := by rw [ByteArray.toList_eq]; rfl
    have ewd : edgeWd.toList = [101, 100, 103, 101] := by rw [ByteArray.toList_eq]; rfl
    have Hnwd := hide nwd
    have Hewd := hide ewd
    clear nwd ewd
    have Hnw0 : Hid (nw ≤ 100000) := hide (by
      rw [← Hnw.out, ← Hws.out]
      unfold pieces
      rw [List.length_map]
      have h1 := pieces_len_le 32 s.data.toList
      have h2 : s.data.toList.length = s.size := rfl
      have h3 := Hs.out
      omega)
    have K22 := hide (fun x W => rname_any x W)
    have K46 := hide (fun x W => rkind_any x W)
    go_cut [60] (fun v60 wx => ∃ (b : Bool) (W : World), wx = W ∧ v60 = .bool b ∧ Hid ((b = true → ∃ nd, NodeOk ws nd) ∧ (b = false → ¬ ∃ nd, NodeOk ws nd) ∧ Below W3.heap.size W3 W))
    case first =>
      by_cases h4 : nw = 4
      · subst h4
        obtain ⟨w0, w1, w2, w3, hw4⟩ : ∃ w0 w1 w2 w3, ws = [w0, w1, w2, w3] := by
          have := Hnw.out
          match ws, this with
          | [w0, w1, w2, w3], _ => exact ⟨w0, w1, w2, w3, rfl⟩
        subst hw4
        obtain ⟨bS, oS, haS, c0⟩ := Hwl.out 0 w0 rfl
        obtain ⟨_, _, haS1, c1⟩ := Hwl.out 1 w1 rfl
        obtain ⟨_, _, haS2, c2⟩ := Hwl.out 2 w2 rfl
        obtain ⟨_, _, haS3, c3⟩ := Hwl.out 3 w3 rfl
        subst haS
        simp only [Option.some.injEq, Addr.mk.injEq] at haS1 haS2 haS3
        obtain ⟨rfl, rfl, _⟩ := haS1
        obtain ⟨rfl, rfl, _⟩ := haS2
        obtain ⟨rfl, rfl, _⟩ := haS3
        have HC1 := hide c1
        have HC2 := hide c2
        have HC3 := hide c3
        have y0 := c0 W3 (Below.refl _ _)
        have y1 := c1 W3 (Below.refl _ _)
        have y2 := c2 W3 (Below.refl _ _)
        have y3 := c3 W3 (Below.refl _ _)
        rw [Nat.add_zero] at y0
        have ee := eq_bytes w0 nodeWd
        rw [Hnwd.out] at ee
        have HNO : Hid ((∃ nd, NodeOk [w0, w1, w2, w3] nd) ↔ w0 = nodeWd ∧ nameB w1 = true ∧ (∃ k, kindS w2 = some k) ∧ ∃ z, zoneS w3 = some z) := hide ⟨fun ⟨nd, u1, u2, u3, h1, h2, h3, h4, h5⟩ => by
            simp only [List.cons.injEq, and_true] at h1
            obtain ⟨rfl, rfl, rfl, rfl⟩ := h1
            exact ⟨rfl, h3, ⟨_, h4⟩, _, h5⟩,
          fun ⟨h1, h2, ⟨k, h3⟩, z, h4⟩ => ⟨⟨w1, k, z⟩, w1, w2, w3, by rw [h1], rfl, h2, h3, h4⟩⟩
        clear c0 c1 c2 c3
        by_cases e0 : w0 = nodeWd
        · rw [decide_eq_true e0] at ee
          have He0 := hide e0
          clear e0
          cases hnb : nameB w1 with
          | false =>
            have Hno : Hid (¬ ∃ nd, NodeOk [w0, w1, w2, w3] nd) := hide (fun h => by have := (HNO.out.1 h).2.1; rw [hnb] at this; cases this)
            go_wp2_with (go_at_call 22; refine (K22.out _ _).mono ?_; rintro e W4 ⟨rfl, rfl⟩; rw [hnb])
            go_meet
            exact ⟨false, _, rfl, by first | rfl | trivial, hide ⟨fun h => (by cases h), fun _ => Hno.out, Below.refl _ _⟩⟩
          | true =>
            have Hnb := hide hnb
            cases hkd : kindS w2 with
            | none =>
              have Hno : Hid (¬ ∃ nd, NodeOk [w0, w1, w2, w3] nd) := hide (fun h => by obtain ⟨k, hk⟩ := (HNO.out.1 h).2.2.1; rw [hkd] at hk; cases hk)
              go_wp2_with (first
                | (go_at_call 22; refine (K22.out _ _).mono ?_; rintro e W4 ⟨rfl, rfl⟩; rw [hnb])
                | (go_at_call 46; refine (K46.out _ _).mono ?_; rintro e W5 ⟨rfl, hb5⟩; rw [hkd]; have Hb5 := hide hb5; clear hb5; simp only [Option.getD_none]))
              go_meet
              exact ⟨false, _, rfl, by first | rfl | trivial, hide ⟨fun h => (by cases h), fun _ => Hno.out, Hb5.out⟩⟩
            | some k =>
              have hk0 : Hid (1 ≤ k ∧ k ≤ 4) := hide (kind_pos hkd)
              have Hkd := hide hkd
              have hkg : (0 : Int) < k := by have := hk0.out; omega
              by_cases hz1 : w3.size = 1
              · have q1 : ((w3.size : Int) == 1) = true := beq_iff_eq.2 (by omega)
                have q1' : (w3.size : Int) = 1 := by omega
                obtain ⟨r, hr⟩ : ∃ r : Int, (byteAt w3 0 : Int) = r := ⟨_, rfl⟩
                have hidx : ∀ W : World, (Instr.index 9 (.string w3) (.int .i64 0)).run Tryd.prog W = .ok (.int .u8 r) W := fun W => by
                  rw [run_index_string W 9 w3 .i64 0 Tryd.underlying9, dif_pos ⟨by omega, by omega⟩]
                  have hz : 0 < w3.size := by omega
                  have := byteAt_eq w3 0 hz
                  rw [← hr, this]
                  rfl
                have Hzo : Hid ((∃ z, zoneS w3 = some z) ↔ 48 ≤ r ∧ r ≤ 55) := hide ⟨fun ⟨z, h⟩ => (by
                    unfold zoneS at h
                    split at h
                    · next hh => omega
                    · exact absurd h (by simp)),
                  fun h => ⟨_, by unfold zoneS; rw [if_pos ⟨hz1, by omega, by omega⟩]⟩⟩
                clear hr hz1
                have j1 : (0 : Int) < (w3.size : Int) := by omega
                by_cases hr1 : 48 ≤ r
                · by_cases hr2 : r ≤ 55
                  · have Hyes : Hid (∃ nd, NodeOk [w0, w1, w2, w3] nd) := hide (HNO.out.2 ⟨He0.out, Hnb.out, ⟨k, Hkd.out⟩, Hzo.out.2 ⟨hr1, hr2⟩⟩)
                    go_wp2_with (first
                      | (go_at_call 22; refine (K22.out _ _).mono ?_; rintro e W4 ⟨rfl, rfl⟩; rw [hnb])
                      | (go_at_call 46; refine (K46.out _ _).mono ?_; rintro e W5 ⟨rfl, hb5⟩; rw [hkd]; have y5 := HC3.out W5 hb5; have Hb5 := hide hb5; clear hb5; simp only [Option.getD_some]))
                    go_meet
                    exact ⟨true, _, rfl, by first | rfl | trivial, hide ⟨fun _ => Hyes.out, fun h => (by cases h), Hb5.out⟩⟩
                  · have hd2 : decide (r ≤ 55) = false := decide_eq_false hr2
                    have Hno : Hid (¬ ∃ nd, NodeOk [w0, w1, w2, w3] nd) := hide (fun h => hr2 (Hzo.out.1 (HNO.out.1 h).2.2.2).2)
                    go_wp2_with (first
                      | (go_at_call 22; refine (K22.out _ _).mono ?_; rintro e W4 ⟨rfl, rfl⟩; rw [hnb])
                      | (go_at_call 46; refine (K46.out _ _).mono ?_; rintro e W5 ⟨rfl, hb5⟩; rw [hkd]; have y5 := HC3.out W5 hb5; have Hb5 := hide hb5; clear hb5; simp only [Option.getD_some]))
                    go_meet
                    exact ⟨false, _, rfl, by first | rfl | trivial | (rw [hd2]) | (simp; omega), hide ⟨fun h => (by cases h), fun _ => Hno.out, Hb5.out⟩⟩
                · have Hno : Hid (¬ ∃ nd, NodeOk [w0, w1, w2, w3] nd) := hide (fun h => hr1 (Hzo.out.1 (HNO.out.1 h).2.2.2).1)
                  go_wp2_with (first
                    | (go_at_call 22; refine (K22.out _ _).mono ?_; rintro e W4 ⟨rfl, rfl⟩; rw [hnb])
                    | (go_at_call 46; refine (K46.out _ _).mono ?_; rintro e W5 ⟨rfl, hb5⟩; rw [hkd]; have y5 := HC3.out W5 hb5; have Hb5 := hide hb5; clear hb5; simp only [Option.getD_some]))
                  go_meet
                  exact ⟨false, _, rfl, by first | rfl | trivial, hide ⟨fun h => (by cases h), fun _ => Hno.out, Hb5.out⟩⟩
              · have Hno : Hid (¬ ∃ nd, NodeOk [w0, w1, w2, w3] nd) := hide (fun h => by
                  obtain ⟨z, hz⟩ := (HNO.out.1 h).2.2.2
                  unfold zoneS at hz
                  split at hz
                  · next hh => exact hz1 hh.1
                  · cases hz)
                have q1 : ((w3.size : Int) == 1) = false := beq_eq_false_iff_ne.2 (by omega)
                have q1' : ¬ (w3.size : Int) = 1 := by omega
                clear hz1
                go_wp2_with (first
                  | (go_at_call 22; refine (K22.out _ _).mono ?_; rintro e W4 ⟨rfl, rfl⟩; rw [hnb])
                  | (go_at_call 46; refine (K46.out _ _).mono ?_; rintro e W5 ⟨rfl, hb5⟩; rw [hkd]; have y5 := HC3.out W5 hb5; have Hb5 := hide hb5; clear hb5; simp only [Option.getD_some]))
                go_meet
                exact ⟨false, _, rfl, by first | rfl | trivial, hide ⟨fun h => (by cases h), fun _ => Hno.out, Hb5.out⟩⟩
        · rw [decide_eq_false e0] at ee
          have Hno : Hid (¬ ∃ nd, NodeOk [w0, w1, w2, w3] nd) := hide (fun h => e0 (HNO.out.1 h).1)
          clear e0
          go_wp2_with fail
          go_meet
          exact ⟨false, _, rfl, by first | rfl | trivial, hide ⟨fun h => (by cases h), fun _ => Hno.out, Below.refl _ _⟩⟩
      · have q4 : ((nw : Int) == 4) = false := beq_eq_false_iff_ne.2 (by omega)
        have q4' : ¬ (nw : Int) = 4 := by omega
        have Hno : Hid (¬ ∃ nd, NodeOk ws nd) := hide (fun ⟨nd, _, _, _, h1, _⟩ => h4 (by rw [← Hnw.out, h1]; rfl))
        clear h4
        go_wp2_with fail
        go_meet
        exact ⟨false, _, rfl, by first | rfl | trivial, hide ⟨fun h => (by cases h), fun _ => Hno.out, Below.refl _ _⟩⟩
    case rest =>
    obtain ⟨b, W, rfl, rfl, HH⟩ := hcut
    have HbC : Hid (Below W0.heap.size W0 wc) := hide (Hb3.out.trans (HH.out.2.2.mono Hb3.out.size))
    have Hb3c : Hid (Below W3.heap.size W3 wc) := hide HH.out.2.2
    obtain ⟨SS, hSS⟩ : ∃ SS : World → Prop, SS = fun W' => Below wc.heap.size wc W' := ⟨_, rfl⟩
    have s9 : Hid (∀ W', SS W' → Below wc.heap.size wc W') := hide (fun W' h => by rw [hSS] at h; exact h)
    have s8 : Hid (∀ W', Below wc.heap.size wc W' → SS W') := hide (fun W' h => by rw [hSS]; exact h)
    have s7 : Hid (∀ W', SS W' → Below W0.heap.size W0 W') := hide (fun W' h => HbC.out.trans ((s9.out W' h).mono HbC.out.size))
    have s6 : Hid (∀ W', SS W' → Below W3.heap.size W3 W') := hide (fun W' h => Hb3c.out.trans ((s9.out W' h).mono Hb3c.out.size))
    have s1 : ∀ W', SS W' → W'.cell? ⟨w.heap.size, 0, none⟩ = some (.slice a n c) ∧ W'.cell? ⟨w.heap.size, 1, none⟩ = some (.slice a' m c') := fun W' h => (HC.out W' (s7.out W' h)).1
    have hS0 := s8.out wc.drew (below_hp (Below.refl _ _) rfl rfl rfl rfl)
    clear hSS
    cases b with
    | true =>
      obtain ⟨nd, hok⟩ := HH.out.1 rfl
      have Hln : Hid (lineS firstAt (ns, es) s = some (ns ++ [nd], es)) := hide (line_node Hskf.out (by rw [Hws.out]; exact hok))
      obtain ⟨w1, w2, w3, hw, hnm, _, hkd, hzo⟩ := hok
      obtain ⟨nm, k, z⟩ := nd
      simp only at hnm hkd hzo
      have hnm' := hnm.symm
      subst hnm'
      subst hw
      have hnw4 : nw = 4 := by rw [← Hnw.out]; rfl
      subst hnw4
      obtain ⟨bS, oS, haS, c0⟩ := Hwl.out 0 nodeWd rfl
      subst haS
      obtain ⟨_, _, haS, c1⟩ := Hwl.out 1 w1 rfl
      simp only [Option.some.injEq, Addr.mk.injEq] at haS
      obtain ⟨rfl, rfl, _⟩ := haS
      obtain ⟨_, _, haS, c2⟩ := Hwl.out 2 w2 rfl
      simp only [Option.some.injEq, Addr.mk.injEq] at haS
      obtain ⟨rfl, rfl, _⟩ := haS
      obtain ⟨_, _, haS, c3⟩ := Hwl.out 3 w3 rfl
      simp only [Option.some.injEq, Addr.mk.injEq] at haS
      obtain ⟨rfl, rfl, _⟩ := haS
      obtain ⟨r, hr⟩ : ∃ r : Int, (byteAt w3 0 : Int) = r := ⟨_, rfl⟩
      have hz' : w3.size = 1 ∧ 48 ≤ r ∧ r ≤ 55 ∧ z = r - 48 := by
        unfold zoneS at hzo
        split at hzo
        · next hh => have := Option.some.inj hzo; omega
        · cases hzo
      have hpos : (0 : Int) < (w3.size : Int) := by omega
      have hidx : ∀ W : World, (Instr.index 9 (.string w3) (.int .i64 0)).run Tryd.prog W = .ok (.int .u8 r) W := fun W => by
        rw [run_index_string W 9 w3 .i64 0 Tryd.underlying9, dif_pos ⟨Int.le_refl 0, hpos⟩]
        have hz : 0 < w3.size := by omega
        have := byteAt_eq w3 0 hz
        rw [← hr, this]
        rfl
      have h76 : IntKind.u8.wrap (r - 48) = z := by unfold IntKind.wrap; simp [IntKind.bits, IntKind.signed]; omega
      have h77 : IntKind.i64.wrap z = z := by unfold IntKind.wrap; simp [IntKind.bits, IntKind.signed]; omega
      have j1 : (0 : Int) < (w3.size : Int) := by omega
      have HkdG : Hid ((kindS w2).getD 0 = k) := hide (by rw [hkd]; rfl)
      have s2 : ∀ W', SS W' → W'.cell? ⟨bS, oS + 1, none⟩ = some (.string w1) := fun W' h => c1 W' (s6.out W' h)
      have s3 : ∀ W', SS W' → W'.cell? ⟨bS, oS + 2, none⟩ = some (.string w2) := fun W' h => c2 W' (s6.out W' h)
      have s4 : ∀ W', SS W' → W'.cell? ⟨bS, oS + 3, none⟩ = some (.string w3) := fun W' h => c3 W' (s6.out W' h)
      clear hr hz' hzo hkd c0 c1 c2 c3 HH
      go_upto_region 5 with fail
      refine wp_region_E SS 21 (by kernel_rfl) ?_
      refine wpAnyE_take (i := 1) (v := .pointer (some ⟨w.heap.size, 0, none⟩)) rfl (by kernel_rfl) (by kernel_rfl) (by kernel_rfl) (by kernel_rfl) (fun _ _ _ h => h) (Or.inl ⟨by rfl, fun W' hW => by go_simp⟩) hS0 ?_
      refine wpAnyE_take (i := 2) (v := .slice a n c) rfl (by kernel_rfl) (by kernel_rfl) (by kernel_rfl) (by kernel_rfl) (fun _ _ _ h => h) (Or.inl ⟨by rfl, fun W' hW => by have x0 := (s1 W' hW).1; go_simp⟩) hS0 ?_
      refine wpAnyE_take (i := 4) (v := .slice (some ⟨bS, oS, none⟩) 4 cS) rfl (by kernel_rfl) (by kernel_rfl) (by kernel_rfl) (by kernel_rfl) (fun _ _ _ h => h) (Or.inl ⟨by rfl, fun W' hW => by go_simp⟩) hS0 ?_
      refine wpAnyE_take (i := 5) (v := .pointer (some ⟨bS, oS + 1, none⟩)) rfl (by kernel_rfl) (by kernel_rfl) (by kernel_rfl) (by kernel_rfl) (fun _ _ _ h => h) (Or.inl ⟨by rfl, fun W' hW => by go_simp⟩) hS0 ?_
      refine wpAnyE_take (i := 6) (v := .string w1) rfl (by kernel_rfl) (by kernel_rfl) (by kernel_rfl) (by kernel_rfl) (fun _ _ _ h => h) (Or.inl ⟨by rfl, fun W' hW => by have x0 := s2 W' hW; go_simp⟩) hS0 ?_
      refine wpAnyE_take (i := 7) (v := .slice (some ⟨bS, oS, none⟩) 4 cS) rfl (by kernel_rfl) (by kernel_rfl) (by kernel_rfl) (by kernel_rfl) (fun _ _ _ h => h) (Or.inl ⟨by rfl, fun W' hW => by go_simp⟩) hS0 ?_
      refine wpAnyE_take (i := 8) (v := .pointer (some ⟨bS, oS + 2, none⟩)) rfl (by kernel_rfl) (by kernel_rfl) (by kernel_rfl) (by kernel_rfl) (fun _ _ _ h => h) (Or.inl ⟨by rfl, fun W' hW => by go_simp⟩) hS0 ?_
      refine wpAnyE_take (i := 9) (v := .string w2) rfl (by kernel_rfl) (by kernel_rfl) (by kernel_rfl) (by kernel_rfl) (fun _ _ _ h => h) (Or.inl ⟨by rfl, fun W' hW => by have x0 := s3 W' hW; go_simp⟩) hS0 ?_
      refine wpAnyE_take (i := 11) (v := .slice (some ⟨bS, oS, none⟩) 4 cS) rfl (by kernel_rfl) (by kernel_rfl) (by kernel_rfl) (by kernel_rfl) (fun _ _ _ h => h) (Or.inl ⟨by rfl, fun W' hW => by go_simp⟩) hS0 ?_
      refine wpAnyE_take (i := 12) (v := .pointer (some ⟨bS, oS + 3, none⟩)) rfl (by kernel_rfl) (by kernel_rfl) (by kernel_rfl) (by kernel_rfl) (fun _ _ _ h => h) (Or.inl ⟨by rfl, fun W' hW => by go_simp⟩) hS0 ?_
      refine wpAnyE_take (i := 13) (v := .string w3) rfl (by kernel_rfl) (by kernel_rfl) (by kernel_rfl) (by kernel_rfl) (fun _ _ _ h => h) (Or.inl ⟨by rfl, fun W' hW => by have x0 := s4 W' hW; go_simp⟩) hS0 ?_
      refine wpAnyE_take (i := 14) (v := .int .u8 r) rfl (by kernel_rfl) (by kernel_rfl) (by kernel_rfl) (by kernel_rfl) (fun _ _ _ h => h) (Or.inl ⟨by rfl, fun W' hW => by go_simp⟩) hS0 ?_
      refine wpAnyE_take (i := 15) (v := .int .u8 z) rfl (by kernel_rfl) (by kernel_rfl) (by kernel_rfl) (by kernel_rfl) (fun _ _ _ h => h) (Or.inl ⟨by rfl, fun W' hW => by go_simp⟩) hS0 ?_
      refine wpAnyE_take (i := 16) (v := .int .i64 z) rfl (by kernel_rfl) (by kernel_rfl) (by kernel_rfl) (by kernel_rfl) (fun _ _ _ h => h) (Or.inl ⟨by rfl, fun W' hW => by go_simp⟩) hS0 ?_
      refine wpAnyE_ready (rs := [0]) (by kernel_rfl) (by simp) ?_
      refine AllReadyE.cons rfl (fun K hK => ?_) AllReadyE.nil
      go_simp
      have S1 := s8.out _ ((s9.out _ hS0).alloc (s9.out _ hS0).size (.cells #[] 44))
      have O1 : Hid (ndE.Own (wc.drew.alloc (.cells #[] 44)) wc.heap.size (.slice (some ⟨wc.heap.size, 0, none⟩) 0 0) []) := hide (El.Own.new ndE wc.drew _ (s9.out _ hS0).size #[] [] rfl (by simp) _ _ _ (by simp) rfl rfl)
      refine hK.out _ _ (fun _ => S1) ?_
      clear hK K
      refine wpAnyE_ready (rs := [3]) (by kernel_rfl) (by simp) ?_
      refine AllReadyE.cons rfl (fun K hK => ?_) AllReadyE.nil
      refine stepB ndE (B := wc.heap.size) (s9.out _ S1).size rfl (.tmp 61) (.tmp 63) rfl _ _ rfl rfl [] ns O1.out (HR.out _ (s7.out _ S1)).1 (by rw [Hn.out]; have := Hl.out; simp; omega) ?_
      intro v2 U2 ho2 hg2
      rw [List.nil_append] at ho2
      have S2 := s8.out _ ((s9.out _ S1).grown hg2 (s9.out _ S1).size (fun q hq => O1.out.ge q hq))
      have O2 := hide ho2
      clear ho2 hg2
      refine hK.out _ _ (fun _ => S2) ?_
      clear hK K
      refine wpAnyE_ready (rs := [10]) (by kernel_rfl) (by simp) ?_
      refine AllReadyE.cons rfl (fun K hK => ?_) AllReadyE.nil
      go_simp
      refine (K46.out _ _).mono ?_
      rintro e U3 ⟨rfl, hb⟩
      rw [HkdG.out]
      have S3 := s8.out _ ((s9.out _ S2).trans (hb.mono (s9.out _ S2).size))
      have O3 := hide (O2.out.keep hb)
      refine hK.out _ _ (fun _ => S3) ?_
      clear hK K hb
      refine wpAnyE_ready (rs := [17]) (by kernel_rfl) (by simp) ?_
      refine AllReadyE.cons rfl (fun K hK => ?_) AllReadyE.nil
      go_simp
      refine hK.out _ _ (fun _ => S3) ?_
      clear hK K
      refine wpAnyE_ready (rs := [18]) (by kernel_rfl) (by simp) ?_
      refine AllReadyE.cons rfl (fun K hK => ?_) AllReadyE.nil
      go_simp
      have S4 := s8.out _ ((s9.out _ S3).alloc (s9.out _ S3).size (.cells #[.string w1, .int .i64 k, .int .i64 z] 44))
      have O4 : Hid (ndE.Own (U3.alloc (.cells #[.string w1, .int .i64 k, .int .i64 z] 44)) wc.heap.size v2 ns) := hide (World.ownsRow.alloc O3.out _)
      have N4 : Hid (ndE.Rd (U3.alloc (.cells #[.string w1, .int .i64 k, .int .i64 z] 44)) (.slice (some ⟨U3.heap.size, 0, none⟩) 1 1) [⟨w1, k, z⟩]) := hide (nd_new U3 ⟨w1, k, z⟩ _ rfl)
      refine hK.out _ _ (fun _ => S4) ?_
      clear hK K
      refine wpAnyE_ready (rs := [19]) (by kernel_rfl) (by simp) ?_
      refine AllReadyE.cons rfl (fun K hK => ?_) AllReadyE.nil
      refine stepB ndE (B := wc.heap.size) (s9.out _ S4).size rfl (.tmp 64) (.tmp 79) rfl _ _ rfl rfl ns [⟨w1, k, z⟩] O4.out N4.out (by rw [Hn.out]; have := Hl.out; simp; omega) ?_
      intro v5 U5 ho5 hg5
      have S5 := s8.out _ ((s9.out _ S4).grown hg5 (s9.out _ S4).size (fun q hq => O4.out.ge q hq))
      obtain ⟨aQ, cQ, hvQ⟩ := ho5.rd.form
      have hlQ : (ns ++ [(⟨w1, k, z⟩ : Nd)]).length = n + 1 := by rw [List.length_append, Hn.out]; rfl
      rw [hlQ] at hvQ
      subst hvQ
      have HlQ := hide hlQ
      clear hlQ
      have O5 := hide ho5
      clear ho5 hg5
      refine hK.out _ _ (fun _ => S5) ?_
      clear hK K
      obtain ⟨⟨k0, k1⟩, _, _, kf0, kf1⟩ := HC.out U5 (s7.out _ S5)
      obtain ⟨B1, B2, B3, B4⟩ := fin_ok (v := .slice aQ (n + 1) cQ) 0 HA.out HB1.out HB2.out (s7.out _ S5)
      obtain ⟨D1, D2, D3⟩ := fin_two (p := .slice aQ (n + 1) cQ) (q := .slice a' m c') B2 B3
      have HO7 := hide (D3 ndE _ _ _ (by decide) (B4 ndE _ _ _ (by decide) O5.out))
      have HD2 := hide D2
      have m0 := (cells_at B1 0).1
      have m1 := (cells_at B1 1).1
      have m2 := (cells_at B2 0).1
      have m3 := (cells_at B2 1).1
      have m4 := (cells_at B2 0).2
      have m5 := (cells_at B2 1).2
      have m6 := (cells_at D1 0).1
      have m7 := (cells_at D1 1).1
      simp at m0 m1 m2 m3 m6 m7
      clear B1 B2 B3 B4 D1 D2 D3
      refine wpAnyE_ready (rs := [20]) (by kernel_rfl) (by simp) ?_
      refine AllReadyE.cons rfl (fun K hK => ?_) AllReadyE.nil
      go_simp
      refine hK.out _ _ (fun _ => S5) ?_
      clear hK K
      refine wpAnyE_ready (rs := [21]) (by kernel_rfl) (by simp) ?_
      refine AllReadyE.cons rfl (fun K hK => ?_) AllReadyE.nil
      go_simp
      refine hK.out _ _ (fun h => absurd rfl h) ?_
      clear hK K
      refine wpAnyE_done (by kernel_rfl) ?_ _
      clear s1 s2 s3 s4 k0 k1 kf0 kf1 hidx h76 h77
      go_wp2_with fail
      refine bodyPost_ret (v := .tuple #[.agg #[.slice aQ (n + 1) cQ, .slice a' m c'], .bool true]) (by simp [results, Tryd.results30, go_sem, m6, m7]) rfl ?_
      refine ⟨?_, HD2.out⟩
      rw [Hln.out]
      exact ⟨_, rfl, aQ, a', cQ, c', by rw [HlQ.out, Hm.out], by rw [HlQ.out]; exact HO7.out.rd, by rw [Hm.out]; exact (HRw.out _ HD2.out).2⟩
    | false =>
      have Hno4 : Hid (¬ ∃ nd, NodeOk ws nd) := hide (HH.out.2.1 rfl)
      clear HH
      obtain ⟨WOLD, hWOLD⟩ : ∃ W, W = wc := ⟨_, rfl⟩
      subst hWOLD
      go_upto_region 7 with fail
      go_cut [107] (fun v107 wx => ∃ (b : Bool) (W : World), wx = W ∧ v107 = .bool b ∧ Hid ((b = true → ∃ e, EdgeOk ns ws e) ∧ (b = false → ¬ ∃ e, EdgeOk ns ws e) ∧ Below WOLD.heap.size WOLD W))
      case first =>
        by_cases h3 : nw = 3
        · subst h3
          obtain ⟨w0, w1, w2, hw3⟩ : ∃ w0 w1 w2, ws = [w0, w1, w2] := by
            have := Hnw.out
            match ws, this with
            | [w0, w1, w2], _ => exact ⟨w0, w1, w2, rfl⟩
          subst hw3
          obtain ⟨bS, oS, haS, c0⟩ := Hwl.out 0 w0 rfl
          subst haS
          obtain ⟨_, _, haS, c1⟩ := Hwl.out 1 w1 rfl
          simp only [Option.some.injEq, Addr.mk.injEq] at haS
          obtain ⟨rfl, rfl, _⟩ := haS
          obtain ⟨_, _, haS, c2⟩ := Hwl.out 2 w2 rfl
          simp only [Option.some.injEq, Addr.mk.injEq] at haS
          obtain ⟨rfl, rfl, _⟩ := haS
          have ee := eq_bytes w0 edgeWd
          rw [Hewd.out] at ee
          have HEO : Hid ((∃ e, EdgeOk ns [w0, w1, w2] e) ↔ w0 = edgeWd ∧ (∃ x, firstAt ns w1 = some x) ∧ ∃ y, firstAt ns w2 = some y) := hide ⟨fun ⟨e, u1, u2, h1, h2, h3⟩ => (by
              simp only [List.cons.injEq, and_true] at h1
              obtain ⟨rfl, rfl, rfl⟩ := h1
              exact ⟨rfl, ⟨_, h2⟩, _, h3⟩),
            fun ⟨h1, ⟨x, h2⟩, y, h3⟩ => ⟨(x, y), w1, w2, by rw [h1], h2, h3⟩⟩
          have s2 : ∀ W', SS W' → W'.cell? ⟨bS, oS, none⟩ = some (.string w0) := fun W' h => by have := c0 W' (s6.out W' h); rwa [Nat.add_zero] at this
          have s3 : ∀ W', SS W' → W'.cell? ⟨bS, oS + 1, none⟩ = some (.string w1) := fun W' h => c1 W' (s6.out W' h)
          have s4 : ∀ W', SS W' → W'.cell? ⟨bS, oS + 2, none⟩ = some (.string w2) := fun W' h => c2 W' (s6.out W' h)
          obtain ⟨F1, hF1⟩ : ∃ F, (firstAt ns w1).getD (-1) = F := ⟨_, rfl⟩
          obtain ⟨F2, hF2⟩ : ∃ F, (firstAt ns w2).getD (-1) = F := ⟨_, rfl⟩
          have HF1 := hide hF1
          have HF2 := hide hF2
          have Hp1 : Hid (0 ≤ F1 ↔ ∃ x, firstAt ns w1 = some x) := hide (by rw [← hF1]; exact first_ge ns w1)
          have Hp2 : Hid (0 ≤ F2 ↔ ∃ x, firstAt ns w2 = some x) := hide (by rw [← hF2]; exact first_ge ns w2)
          clear hF1 hF2 c0 c1 c2
          by_cases e0 : w0 = edgeWd
          · rw [decide_eq_true e0] at ee
            have He0 := hide e0
            clear e0
            by_cases p1 : 0 ≤ F1
            · have p1d : decide (0 ≤ F1) = true := decide_eq_true p1
              by_cases p2 : 0 ≤ F2
              · have p2d : decide (0 ≤ F2) = true := decide_eq_true p2
                have Hb : Hid (∃ e, EdgeOk ns [w0, w1, w2] e) := hide (HEO.out.2 ⟨He0.out, Hp1.out.1 p1, Hp2.out.1 p2⟩)
                refine wp_region_held_drew (S := SS) (by kernel_rfl) (hS0) (fun hS1 => ?_)
                refine wpAnyH_ready (rs := [0]) (by kernel_rfl) (by simp) ?_
                refine AllReadyH.cons rfl (fun K hK => ?_) AllReadyH.nil
                go_simp
                refine hK.out _ _ hS1 (fun _ => ?_)
                clear hK K
                refine wpAnyH_ready (rs := [1]) (by kernel_rfl) (by simp) ?_
                refine AllReadyH.cons rfl (fun K hK => ?_) AllReadyH.nil
                go_simp
                refine hK.out _ _ hS1 (fun _ => ?_)
                clear hK K
                refine wpAnyH_ready (rs := [2]) (by kernel_rfl) (by simp) ?_
                refine AllReadyH.cons rfl (fun K hK => ?_) AllReadyH.nil
                go_simp
                refine hK.out _ _ hS1 (fun _ => ?_)
                clear hK K
                refine wpAnyH_ready (rs := [3]) (by kernel_rfl) (by simp) ?_
                refine AllReadyH.cons rfl (fun K hK => ?_) AllReadyH.nil
                go_simp
                refine hK.out _ _ hS1 (fun _ => ?_)
                clear hK K
                refine wpAnyH_ready (rs := [4]) (by kernel_rfl) (by simp) ?_
                refine AllReadyH.cons rfl (fun K hK => ?_) AllReadyH.nil
                go_simp
                refine hK.out _ _ hS1 (fun _ => ?_)
                clear hK K
                refine wpAnyH_ready (rs := [5]) (by kernel_rfl) (by simp) ?_
                refine AllReadyH.cons rfl (fun K hK => ?_) AllReadyH.nil
                go_simp
                refine hK.out _ _ hS1 (fun _ => ?_)
                clear hK K
                have z0 := s2 _ hS1
                refine wpAnyH_ready (rs := [6]) (by kernel_rfl) (by simp) ?_
                refine AllReadyH.cons rfl (fun K hK => ?_) AllReadyH.nil
                go_simp
                refine hK.out _ _ hS1 (fun _ => ?_)
                clear hK K
                refine wpAnyH_ready (rs := [7]) (by kernel_rfl) (by simp) ?_
                refine AllReadyH.cons rfl (fun K hK => ?_) AllReadyH.nil
                go_simp
                refine hK.out _ _ hS1 (fun _ => ?_)
                clear hK K
                refine wpAnyH_ready (rs := [8]) (by kernel_rfl) (by simp) ?_
                refine AllReadyH.cons rfl (fun K hK => ?_) AllReadyH.nil
                go_simp
                refine hK.out _ _ hS1 (fun _ => ?_)
                clear hK K
                refine wpAnyH_ready (rs := [9]) (by kernel_rfl) (by simp) ?_
                refine AllReadyH.cons rfl (fun K hK => ?_) AllReadyH.nil
                go_simp
                refine hK.out _ _ hS1 (fun _ => ?_)
                clear hK K
                refine wpAnyH_take (i := 10) (v := .agg #[.slice a n c, .slice a' m c']) rfl (by kernel_rfl) (by kernel_rfl) (by kernel_rfl) (fun _ _ _ h => h) (Or.inl ⟨by rfl, fun W' hW => by have x0 := (s1 W' hW).1; have x1 := (s1 W' hW).2; go_simp⟩) hS1 ?_
                refine wpAnyH_ready (rs := [11]) (by kernel_rfl) (by simp) ?_
                refine AllReadyH.cons rfl (fun K hK => ?_) AllReadyH.nil
                go_simp
                refine hK.out _ _ hS1 (fun _ => ?_)
                clear hK K
                refine wpAnyH_ready (rs := [12]) (by kernel_rfl) (by simp) ?_
                refine AllReadyH.cons rfl (fun K hK => ?_) AllReadyH.nil
                go_simp
                refine hK.out _ _ hS1 (fun _ => ?_)
                clear hK K
                have z1 := s3 _ hS1
                refine wpAnyH_ready (rs := [13]) (by kernel_rfl) (by simp) ?_
                refine AllReadyH.cons rfl (fun K hK => ?_) AllReadyH.nil
                go_simp
                refine hK.out _ _ hS1 (fun _ => ?_)
                clear hK K
                refine wpAnyH_ready (rs := [14]) (by kernel_rfl) (by simp) ?_
                refine AllReadyH.cons rfl (fun K hK => ?_) AllReadyH.nil
                go_simp
                refine (K20.out _ w1 (s7.out _ hS1)).mono ?_
                rintro e U1 ⟨rfl, hb⟩
                rw [HF1.out]
                have S1 := s8.out _ ((s9.out _ hS1).trans (hb.mono (s9.out _ hS1).size))
                refine hK.out _ _ S1 (fun _ => ?_)
                clear hK K hb
                refine wpAnyH_ready (rs := [15]) (by kernel_rfl) (by simp) ?_
                refine AllReadyH.cons rfl (fun K hK => ?_) AllReadyH.nil
                go_simp
                refine hK.out _ _ S1 (fun _ => ?_)
                clear hK K
                refine wpAnyH_ready (rs := [16]) (by kernel_rfl) (by simp) ?_
                refine AllReadyH.cons rfl (fun K hK => ?_) AllReadyH.nil
                go_simp
                refine hK.out _ _ S1 (fun _ => ?_)
                clear hK K
                refine wpAnyH_ready (rs := [17]) (by kernel_rfl) (by simp) ?_
                refine AllReadyH.cons rfl (fun K hK => ?_) AllReadyH.nil
                go_simp
                refine hK.out _ _ S1 (fun _ => ?_)
                clear hK K
                refine wpAnyH_take (i := 18) (v := .agg #[.slice a n c, .slice a' m c']) rfl (by kernel_rfl) (by kernel_rfl) (by kernel_rfl) (fun _ _ _ h => h) (Or.inl ⟨by rfl, fun W' hW => by have x0 := (s1 W' hW).1; have x1 := (s1 W' hW).2; go_simp⟩) S1 ?_
                refine wpAnyH_ready (rs := [19]) (by kernel_rfl) (by simp) ?_
                refine AllReadyH.cons rfl (fun K hK => ?_) AllReadyH.nil
                go_simp
                refine hK.out _ _ S1 (fun _ => ?_)
                clear hK K
                refine wpAnyH_ready (rs := [20]) (by kernel_rfl) (by simp) ?_
                refine AllReadyH.cons rfl (fun K hK => ?_) AllReadyH.nil
                go_simp
                refine hK.out _ _ S1 (fun _ => ?_)
                clear hK K
                have z2 := s4 _ S1
                refine wpAnyH_ready (rs := [21]) (by kernel_rfl) (by simp) ?_
                refine AllReadyH.cons rfl (fun K hK => ?_) AllReadyH.nil
                go_simp
                refine hK.out _ _ S1 (fun _ => ?_)
                clear hK K
                refine wpAnyH_ready (rs := [22]) (by kernel_rfl) (by simp) ?_
                refine AllReadyH.cons rfl (fun K hK => ?_) AllReadyH.nil
                go_simp
                refine (K20.out _ w2 (s7.out _ S1)).mono ?_
                rintro e U2 ⟨rfl, hb⟩
                rw [HF2.out]
                have S2 := s8.out _ ((s9.out _ S1).trans (hb.mono (s9.out _ S1).size))
                refine hK.out _ _ S2 (fun _ => ?_)
                clear hK K hb
                refine wpAnyH_ready (rs := [23]) (by kernel_rfl) (by simp) ?_
                refine AllReadyH.cons rfl (fun K hK => ?_) AllReadyH.nil
                go_simp
                refine hK.out _ _ S2 (fun _ => ?_)
                clear hK K
                refine wpAnyH_ready (rs := [24]) (by kernel_rfl) (by simp) ?_
                refine AllReadyH.cons rfl (fun K hK => ?_) AllReadyH.nil
                go_simp
                refine hK.out _ _ S2 (fun _ => ?_)
                clear hK K
                have SZ := S2
                refine wpAnyH_done (by kernel_rfl) ?_ _
                go_wp2_with fail
                go_meet
                exact ⟨true, _, rfl, by first | rfl | trivial, hide ⟨fun _ => Hb.out, fun h => (by cases h), s9.out _ SZ⟩⟩
              · have p2d : decide (0 ≤ F2) = false := decide_eq_false p2
                have Hb : Hid (¬ ∃ e, EdgeOk ns [w0, w1, w2] e) := hide (fun h => p2 (Hp2.out.2 (HEO.out.1 h).2.2))
                refine wp_region_held_drew (S := SS) (by kernel_rfl) (hS0) (fun hS1 => ?_)
                refine wpAnyH_ready (rs := [0]) (by kernel_rfl) (by simp) ?_
                refine AllReadyH.cons rfl (fun K hK => ?_) AllReadyH.nil
                go_simp
                refine hK.out _ _ hS1 (fun _ => ?_)
                clear hK K
                refine wpAnyH_ready (rs := [1]) (by kernel_rfl) (by simp) ?_
                refine AllReadyH.cons rfl (fun K hK => ?_) AllReadyH.nil
                go_simp
                refine hK.out _ _ hS1 (fun _ => ?_)
                clear hK K
                refine wpAnyH_ready (rs := [2]) (by kernel_rfl) (by simp) ?_
                refine AllReadyH.cons rfl (fun K hK => ?_) AllReadyH.nil
                go_simp
                refine hK.out _ _ hS1 (fun _ => ?_)
                clear hK K
                refine wpAnyH_ready (rs := [3]) (by kernel_rfl) (by simp) ?_
                refine AllReadyH.cons rfl (fun K hK => ?_) AllReadyH.nil
                go_simp
                refine hK.out _ _ hS1 (fun _ => ?_)
                clear hK K
                refine wpAnyH_ready (rs := [4]) (by kernel_rfl) (by simp) ?_
                refine AllReadyH.cons rfl (fun K hK => ?_) AllReadyH.nil
                go_simp
                refine hK.out _ _ hS1 (fun _ => ?_)
                clear hK K
                refine wpAnyH_ready (rs := [5]) (by kernel_rfl) (by simp) ?_
                refine AllReadyH.cons rfl (fun K hK => ?_) AllReadyH.nil
                go_simp
                refine hK.out _ _ hS1 (fun _ => ?_)
                clear hK K
                have z0 := s2 _ hS1
                refine wpAnyH_ready (rs := [6]) (by kernel_rfl) (by simp) ?_
                refine AllReadyH.cons rfl (fun K hK => ?_) AllReadyH.nil
                go_simp
                refine hK.out _ _ hS1 (fun _ => ?_)
                clear hK K
                refine wpAnyH_ready (rs := [7]) (by kernel_rfl) (by simp) ?_
                refine AllReadyH.cons rfl (fun K hK => ?_) AllReadyH.nil
                go_simp
                refine hK.out _ _ hS1 (fun _ => ?_)
                clear hK K
                refine wpAnyH_ready (rs := [8]) (by kernel_rfl) (by simp) ?_
                refine AllReadyH.cons rfl (fun K hK => ?_) AllReadyH.nil
                go_simp
                refine hK.out _ _ hS1 (fun _ => ?_)
                clear hK K
                refine wpAnyH_ready (rs := [9]) (by kernel_rfl) (by simp) ?_
                refine AllReadyH.cons rfl (fun K hK => ?_) AllReadyH.nil
                go_simp
                refine hK.out _ _ hS1 (fun _ => ?_)
                clear hK K
                refine wpAnyH_take (i := 10) (v := .agg #[.slice a n c, .slice a' m c']) rfl (by kernel_rfl) (by kernel_rfl) (by kernel_rfl) (fun _ _ _ h => h) (Or.inl ⟨by rfl, fun W' hW => by have x0 := (s1 W' hW).1; have x1 := (s1 W' hW).2; go_simp⟩) hS1 ?_
                refine wpAnyH_ready (rs := [11]) (by kernel_rfl) (by simp) ?_
                refine AllReadyH.cons rfl (fun K hK => ?_) AllReadyH.nil
                go_simp
                refine hK.out _ _ hS1 (fun _ => ?_)
                clear hK K
                refine wpAnyH_ready (rs := [12]) (by kernel_rfl) (by simp) ?_
                refine AllReadyH.cons rfl (fun K hK => ?_) AllReadyH.nil
                go_simp
                refine hK.out _ _ hS1 (fun _ => ?_)
                clear hK K
                have z1 := s3 _ hS1
                refine wpAnyH_ready (rs := [13]) (by kernel_rfl) (by simp) ?_
                refine AllReadyH.cons rfl (fun K hK => ?_) AllReadyH.nil
                go_simp
                refine hK.out _ _ hS1 (fun _ => ?_)
                clear hK K
                refine wpAnyH_ready (rs := [14]) (by kernel_rfl) (by simp) ?_
                refine AllReadyH.cons rfl (fun K hK => ?_) AllReadyH.nil
                go_simp
                refine (K20.out _ w1 (s7.out _ hS1)).mono ?_
                rintro e U1 ⟨rfl, hb⟩
                rw [HF1.out]
                have S1 := s8.out _ ((s9.out _ hS1).trans (hb.mono (s9.out _ hS1).size))
                refine hK.out _ _ S1 (fun _ => ?_)
                clear hK K hb
                refine wpAnyH_ready (rs := [15]) (by kernel_rfl) (by simp) ?_
                refine AllReadyH.cons rfl (fun K hK => ?_) AllReadyH.nil
                go_simp
                refine hK.out _ _ S1 (fun _ => ?_)
                clear hK K
                refine wpAnyH_ready (rs := [16]) (by kernel_rfl) (by simp) ?_
                refine AllReadyH.cons rfl (fun K hK => ?_) AllReadyH.nil
                go_simp
                refine hK.out _ _ S1 (fun _ => ?_)
                clear hK K
                refine wpAnyH_ready (rs := [17]) (by kernel_rfl) (by simp) ?_
                refine AllReadyH.cons rfl (fun K hK => ?_) AllReadyH.nil
                go_simp
                refine hK.out _ _ S1 (fun _ => ?_)
                clear hK K
                refine wpAnyH_take (i := 18) (v := .agg #[.slice a n c, .slice a' m c']) rfl (by kernel_rfl) (by kernel_rfl) (by kernel_rfl) (fun _ _ _ h => h) (Or.inl ⟨by rfl, fun W' hW => by have x0 := (s1 W' hW).1; have x1 := (s1 W' hW).2; go_simp⟩) S1 ?_
                refine wpAnyH_ready (rs := [19]) (by kernel_rfl) (by simp) ?_
                refine AllReadyH.cons rfl (fun K hK => ?_) AllReadyH.nil
                go_simp
                refine hK.out _ _ S1 (fun _ => ?_)
                clear hK K
                refine wpAnyH_ready (rs := [20]) (by kernel_rfl) (by simp) ?_
                refine AllReadyH.cons rfl (fun K hK => ?_) AllReadyH.nil
                go_simp
                refine hK.out _ _ S1 (fun _ => ?_)
                clear hK K
                have z2 := s4 _ S1
                refine wpAnyH_ready (rs := [21]) (by kernel_rfl) (by simp) ?_
                refine AllReadyH.cons rfl (fun K hK => ?_) AllReadyH.nil
                go_simp
                refine hK.out _ _ S1 (fun _ => ?_)
                clear hK K
                refine wpAnyH_ready (rs := [22]) (by kernel_rfl) (by simp) ?_
                refine AllReadyH.cons rfl (fun K hK => ?_) AllReadyH.nil
                go_simp
                refine (K20.out _ w2 (s7.out _ S1)).mono ?_
                rintro e U2 ⟨rfl, hb⟩
                rw [HF2.out]
                have S2 := s8.out _ ((s9.out _ S1).trans (hb.mono (s9.out _ S1).size))
                refine hK.out _ _ S2 (fun _ => ?_)
                clear hK K hb
                refine wpAnyH_ready (rs := [23]) (by kernel_rfl) (by simp) ?_
                refine AllReadyH.cons rfl (fun K hK => ?_) AllReadyH.nil
                go_simp
                refine hK.out _ _ S2 (fun _ => ?_)
                clear hK K
                refine wpAnyH_ready (rs := [24]) (by kernel_rfl) (by simp) ?_
                refine AllReadyH.cons rfl (fun K hK => ?_) AllReadyH.nil
                go_simp
                refine hK.out _ _ S2 (fun _ => ?_)
                clear hK K
                have SZ := S2
                refine wpAnyH_done (by kernel_rfl) ?_ _
                go_wp2_with fail
                go_meet
                exact ⟨false, _, rfl, by first | rfl | trivial, hide ⟨fun h => (by cases h), fun _ => Hb.out, s9.out _ SZ⟩⟩
            · have p1d : decide (0 ≤ F1) = false := decide_eq_false p1
              have Hb : Hid (¬ ∃ e, EdgeOk ns [w0, w1, w2] e) := hide (fun h => p1 (Hp1.out.2 (HEO.out.1 h).2.1))
              refine wp_region_held_drew (S := SS) (by kernel_rfl) (hS0) (fun hS1 => ?_)
              refine wpAnyH_ready (rs := [0]) (by kernel_rfl) (by simp) ?_
              refine AllReadyH.cons rfl (fun K hK => ?_) AllReadyH.nil
              go_simp
              refine hK.out _ _ hS1 (fun _ => ?_)
              clear hK K
              refine wpAnyH_ready (rs := [1]) (by kernel_rfl) (by simp) ?_
              refine AllReadyH.cons rfl (fun K hK => ?_) AllReadyH.nil
              go_simp
              refine hK.out _ _ hS1 (fun _ => ?_)
              clear hK K
              refine wpAnyH_ready (rs := [2]) (by kernel_rfl) (by simp) ?_
              refine AllReadyH.cons rfl (fun K hK => ?_) AllReadyH.nil
              go_simp
              refine hK.out _ _ hS1 (fun _ => ?_)
              clear hK K
              refine wpAnyH_ready (rs := [3]) (by kernel_rfl) (by simp) ?_
              refine AllReadyH.cons rfl (fun K hK => ?_) AllReadyH.nil
              go_simp
              refine hK.out _ _ hS1 (fun _ => ?_)
              clear hK K
              refine wpAnyH_ready (rs := [4]) (by kernel_rfl) (by simp) ?_
              refine AllReadyH.cons rfl (fun K hK => ?_) AllReadyH.nil
              go_simp
              refine hK.out _ _ hS1 (fun _ => ?_)
              clear hK K
              refine wpAnyH_ready (rs := [5]) (by kernel_rfl) (by simp) ?_
              refine AllReadyH.cons rfl (fun K hK => ?_) AllReadyH.nil
              go_simp
              refine hK.out _ _ hS1 (fun _ => ?_)
              clear hK K
              have z0 := s2 _ hS1
              refine wpAnyH_ready (rs := [6]) (by kernel_rfl) (by simp) ?_
              refine AllReadyH.cons rfl (fun K hK => ?_) AllReadyH.nil
              go_simp
              refine hK.out _ _ hS1 (fun _ => ?_)
              clear hK K
              refine wpAnyH_ready (rs := [7]) (by kernel_rfl) (by simp) ?_
              refine AllReadyH.cons rfl (fun K hK => ?_) AllReadyH.nil
              go_simp
              refine hK.out _ _ hS1 (fun _ => ?_)
              clear hK K
              refine wpAnyH_ready (rs := [8]) (by kernel_rfl) (by simp) ?_
              refine AllReadyH.cons rfl (fun K hK => ?_) AllReadyH.nil
              go_simp
              refine hK.out _ _ hS1 (fun _ => ?_)
              clear hK K
              refine wpAnyH_ready (rs := [9]) (by kernel_rfl) (by simp) ?_
              refine AllReadyH.cons rfl (fun K hK => ?_) AllReadyH.nil
              go_simp
              refine hK.out _ _ hS1 (fun _ => ?_)
              clear hK K
              refine wpAnyH_take (i := 10) (v := .agg #[.slice a n c, .slice a' m c']) rfl (by kernel_rfl) (by kernel_rfl) (by kernel_rfl) (fun _ _ _ h => h) (Or.inl ⟨by rfl, fun W' hW => by have x0 := (s1 W' hW).1; have x1 := (s1 W' hW).2; go_simp⟩) hS1 ?_
              refine wpAnyH_ready (rs := [11]) (by kernel_rfl) (by simp) ?_
              refine AllReadyH.cons rfl (fun K hK => ?_) AllReadyH.nil
              go_simp
              refine hK.out _ _ hS1 (fun _ => ?_)
              clear hK K
              refine wpAnyH_ready (rs := [12]) (by kernel_rfl) (by simp) ?_
              refine AllReadyH.cons rfl (fun K hK => ?_) AllReadyH.nil
              go_simp
              refine hK.out _ _ hS1 (fun _ => ?_)
              clear hK K
              have z1 := s3 _ hS1
              refine wpAnyH_ready (rs := [13]) (by kernel_rfl) (by simp) ?_
              refine AllReadyH.cons rfl (fun K hK => ?_) AllReadyH.nil
              go_simp
              refine hK.out _ _ hS1 (fun _ => ?_)
              clear hK K
              refine wpAnyH_ready (rs := [14]) (by kernel_rfl) (by simp) ?_
              refine AllReadyH.cons rfl (fun K hK => ?_) AllReadyH.nil
              go_simp
              refine (K20.out _ w1 (s7.out _ hS1)).mono ?_
              rintro e U1 ⟨rfl, hb⟩
              rw [HF1.out]
              have S1 := s8.out _ ((s9.out _ hS1).trans (hb.mono (s9.out _ hS1).size))
              refine hK.out _ _ S1 (fun _ => ?_)
              clear hK K hb
              refine wpAnyH_ready (rs := [15]) (by kernel_rfl) (by simp) ?_
              refine AllReadyH.cons rfl (fun K hK => ?_) AllReadyH.nil
              go_simp
              refine hK.out _ _ S1 (fun _ => ?_)
              clear hK K
              refine wpAnyH_ready (rs := [16]) (by kernel_rfl) (by simp) ?_
              refine AllReadyH.cons rfl (fun K hK => ?_) AllReadyH.nil
              go_simp
              refine hK.out _ _ S1 (fun _ => ?_)
              clear hK K
              refine wpAnyH_ready (rs := [17]) (by kernel_rfl) (by simp) ?_
              refine AllReadyH.cons rfl (fun K hK => ?_) AllReadyH.nil
              go_simp
              refine hK.out _ _ S1 (fun _ => ?_)
              clear hK K
              refine wpAnyH_take (i := 18) (v := undef) rfl (by kernel_rfl) (by kernel_rfl) (by kernel_rfl) (fun _ _ _ h => h) (Or.inr ⟨by kernel_rfl, rfl⟩) S1 ?_
              refine wpAnyH_ready (rs := [19]) (by kernel_rfl) (by simp) ?_
              refine AllReadyH.cons rfl (fun K hK => ?_) AllReadyH.nil
              go_simp
              refine hK.out _ _ S1 (fun _ => ?_)
              clear hK K
              refine wpAnyH_ready (rs := [20]) (by kernel_rfl) (by simp) ?_
              refine AllReadyH.cons rfl (fun K hK => ?_) AllReadyH.nil
              go_simp
              refine hK.out _ _ S1 (fun _ => ?_)
              clear hK K
              refine wpAnyH_ready (rs := [21]) (by kernel_rfl) (by simp) ?_
              refine AllReadyH.cons rfl (fun K hK => ?_) AllReadyH.nil
              go_simp
              refine hK.out _ _ S1 (fun _ => ?_)
              clear hK K
              refine wpAnyH_ready (rs := [22]) (by kernel_rfl) (by simp) ?_
              refine AllReadyH.cons rfl (fun K hK => ?_) AllReadyH.nil
              go_simp
              refine hK.out _ _ S1 (fun _ => ?_)
              clear hK K
              refine wpAnyH_ready (rs := [23]) (by kernel_rfl) (by simp) ?_
              refine AllReadyH.cons rfl (fun K hK => ?_) AllReadyH.nil
              go_simp
              refine hK.out _ _ S1 (fun _ => ?_)
              clear hK K
              refine wpAnyH_ready (rs := [24]) (by kernel_rfl) (by simp) ?_
              refine AllReadyH.cons rfl (fun K hK => ?_) AllReadyH.nil
              go_simp
              refine hK.out _ _ S1 (fun _ => ?_)
              clear hK K
              have SZ := S1
              refine wpAnyH_done (by kernel_rfl) ?_ _
              go_wp2_with fail
              go_meet
              exact ⟨false, _, rfl, by first | rfl | trivial, hide ⟨fun h => (by cases h), fun _ => Hb.out, s9.out _ SZ⟩⟩
          · rw [decide_eq_false e0] at ee
            have Hb : Hid (¬ ∃ e, EdgeOk ns [w0, w1, w2] e) := hide (fun h => e0 (HEO.out.1 h).1)
            clear e0
            refine wp_region_held_drew (S := SS) (by kernel_rfl) (hS0) (fun hS1 => ?_)
            refine wpAnyH_ready (rs := [0]) (by kernel_rfl) (by simp) ?_
            refine AllReadyH.cons rfl (fun K hK => ?_) AllReadyH.nil
            go_simp
            refine hK.out _ _ hS1 (fun _ => ?_)
            clear hK K
            refine wpAnyH_ready (rs := [1]) (by kernel_rfl) (by simp) ?_
            refine AllReadyH.cons rfl (fun K hK => ?_) AllReadyH.nil
            go_simp
            refine hK.out _ _ hS1 (fun _ => ?_)
            clear hK K
            refine wpAnyH_ready (rs := [2]) (by kernel_rfl) (by simp) ?_
            refine AllReadyH.cons rfl (fun K hK => ?_) AllReadyH.nil
            go_simp
            refine hK.out _ _ hS1 (fun _ => ?_)
            clear hK K
            refine wpAnyH_ready (rs := [3]) (by kernel_rfl) (by simp) ?_
            refine AllReadyH.cons rfl (fun K hK => ?_) AllReadyH.nil
            go_simp
            refine hK.out _ _ hS1 (fun _ => ?_)
            clear hK K
            refine wpAnyH_ready (rs := [4]) (by kernel_rfl) (by simp) ?_
            refine AllReadyH.cons rfl (fun K hK => ?_) AllReadyH.nil
            go_simp
            refine hK.out _ _ hS1 (fun _ => ?_)
            clear hK K
            refine wpAnyH_ready (rs := [5]) (by kernel_rfl) (by simp) ?_
            refine AllReadyH.cons rfl (fun K hK => ?_) AllReadyH.nil
            go_simp
            refine hK.out _ _ hS1 (fun _ => ?_)
            clear hK K
            have z0 := s2 _ hS1
            refine wpAnyH_ready (rs := [6]) (by kernel_rfl) (by simp) ?_
            refine AllReadyH.cons rfl (fun K hK => ?_) AllReadyH.nil
            go_simp
            refine hK.out _ _ hS1 (fun _ => ?_)
            clear hK K
            refine wpAnyH_ready (rs := [7]) (by kernel_rfl) (by simp) ?_
            refine AllReadyH.cons rfl (fun K hK => ?_) AllReadyH.nil
            go_simp
            refine hK.out _ _ hS1 (fun _ => ?_)
            clear hK K
            refine wpAnyH_ready (rs := [8]) (by kernel_rfl) (by simp) ?_
            refine AllReadyH.cons rfl (fun K hK => ?_) AllReadyH.nil
            go_simp
            refine hK.out _ _ hS1 (fun _ => ?_)
            clear hK K
            refine wpAnyH_ready (rs := [9]) (by kernel_rfl) (by simp) ?_
            refine AllReadyH.cons rfl (fun K hK => ?_) AllReadyH.nil
            go_simp
            refine hK.out _ _ hS1 (fun _ => ?_)
            clear hK K
            refine wpAnyH_take (i := 10) (v := undef) rfl (by kernel_rfl) (by kernel_rfl) (by kernel_rfl) (fun _ _ _ h => h) (Or.inr ⟨by kernel_rfl, rfl⟩) hS1 ?_
            refine wpAnyH_ready (rs := [11]) (by kernel_rfl) (by simp) ?_
            refine AllReadyH.cons rfl (fun K hK => ?_) AllReadyH.nil
            go_simp
            refine hK.out _ _ hS1 (fun _ => ?_)
            clear hK K
            refine wpAnyH_ready (rs := [12]) (by kernel_rfl) (by simp) ?_
            refine AllReadyH.cons rfl (fun K hK => ?_) AllReadyH.nil
            go_simp
            refine hK.out _ _ hS1 (fun _ => ?_)
            clear hK K
            refine wpAnyH_ready (rs := [13]) (by kernel_rfl) (by simp) ?_
            refine AllReadyH.cons rfl (fun K hK => ?_) AllReadyH.nil
            go_simp
            refine hK.out _ _ hS1 (fun _ => ?_)
            clear hK K
            refine wpAnyH_ready (rs := [14]) (by kernel_rfl) (by simp) ?_
            refine AllReadyH.cons rfl (fun K hK => ?_) AllReadyH.nil
            go_simp
            refine hK.out _ _ hS1 (fun _ => ?_)
            clear hK K
            refine wpAnyH_ready (rs := [15]) (by kernel_rfl) (by simp) ?_
            refine AllReadyH.cons rfl (fun K hK => ?_) AllReadyH.nil
            go_simp
            refine hK.out _ _ hS1 (fun _ => ?_)
            clear hK K
            refine wpAnyH_ready (rs := [16]) (by kernel_rfl) (by simp) ?_
            refine AllReadyH.cons rfl (fun K hK => ?_) AllReadyH.nil
            go_simp
            refine hK.out _ _ hS1 (fun _ => ?_)
            clear hK K
            refine wpAnyH_ready (rs := [17]) (by kernel_rfl) (by simp) ?_
            refine AllReadyH.cons rfl (fun K hK => ?_) AllReadyH.nil
            go_simp
            refine hK.out _ _ hS1 (fun _ => ?_)
            clear hK K
            refine wpAnyH_take (i := 18) (v := undef) rfl (by kernel_rfl) (by kernel_rfl) (by kernel_rfl) (fun _ _ _ h => h) (Or.inr ⟨by kernel_rfl, rfl⟩) hS1 ?_
            refine wpAnyH_ready (rs := [19]) (by kernel_rfl) (by simp) ?_
            refine AllReadyH.cons rfl (fun K hK => ?_) AllReadyH.nil
            go_simp
            refine hK.out _ _ hS1 (fun _ => ?_)
            clear hK K
            refine wpAnyH_ready (rs := [20]) (by kernel_rfl) (by simp) ?_
            refine AllReadyH.cons rfl (fun K hK => ?_) AllReadyH.nil
            go_simp
            refine hK.out _ _ hS1 (fun _ => ?_)
            clear hK K
            refine wpAnyH_ready (rs := [21]) (by kernel_rfl) (by simp) ?_
            refine AllReadyH.cons rfl (fun K hK => ?_) AllReadyH.nil
            go_simp
            refine hK.out _ _ hS1 (fun _ => ?_)
            clear hK K
            refine wpAnyH_ready (rs := [22]) (by kernel_rfl) (by simp) ?_
            refine AllReadyH.cons rfl (fun K hK => ?_) AllReadyH.nil
            go_simp
            refine hK.out _ _ hS1 (fun _ => ?_)
            clear hK K
            refine wpAnyH_ready (rs := [23]) (by kernel_rfl) (by simp) ?_
            refine AllReadyH.cons rfl (fun K hK => ?_) AllReadyH.nil
            go_simp
            refine hK.out _ _ hS1 (fun _ => ?_)
            clear hK K
            refine wpAnyH_ready (rs := [24]) (by kernel_rfl) (by simp) ?_
            refine AllReadyH.cons rfl (fun K hK => ?_) AllReadyH.nil
            go_simp
            refine hK.out _ _ hS1 (fun _ => ?_)
            clear hK K
            have SZ := hS1
            refine wpAnyH_done (by kernel_rfl) ?_ _
            go_wp2_with fail
            go_meet
            exact ⟨false, _, rfl, by first | rfl | trivial, hide ⟨fun h => (by cases h), fun _ => Hb.out, s9.out _ SZ⟩⟩
        · have q3 : ((nw : Int) == 3) = false := beq_eq_false_iff_ne.2 (by omega)
          have q3' : ¬ (nw : Int) = 3 := by omega
          have Hb : Hid (¬ ∃ e, EdgeOk ns ws e) := hide (fun ⟨e, _, _, h1, _⟩ => h3 (by rw [← Hnw.out, h1]; rfl))
          clear h3
          refine wp_region_held_drew (S := SS) (by kernel_rfl) (hS0) (fun hS1 => ?_)
          refine wpAnyH_ready (rs := [0]) (by kernel_rfl) (by simp) ?_
          refine AllReadyH.cons rfl (fun K hK => ?_) AllReadyH.nil
          go_simp
          refine hK.out _ _ hS1 (fun _ => ?_)
          clear hK K
          refine wpAnyH_ready (rs := [1]) (by kernel_rfl) (by simp) ?_
          refine AllReadyH.cons rfl (fun K hK => ?_) AllReadyH.nil
          go_simp
          refine hK.out _ _ hS1 (fun _ => ?_)
          clear hK K
          refine wpAnyH_ready (rs := [2]) (by kernel_rfl) (by simp) ?_
          refine AllReadyH.cons rfl (fun K hK => ?_) AllReadyH.nil
          go_simp
          refine hK.out _ _ hS1 (fun _ => ?_)
          clear hK K
          refine wpAnyH_ready (rs := [3]) (by kernel_rfl) (by simp) ?_
          refine AllReadyH.cons rfl (fun K hK => ?_) AllReadyH.nil
          go_simp
          refine hK.out _ _ hS1 (fun _ => ?_)
          clear hK K
          refine wpAnyH_ready (rs := [4]) (by kernel_rfl) (by simp) ?_
          refine AllReadyH.cons rfl (fun K hK => ?_) AllReadyH.nil
          go_simp
          refine hK.out _ _ hS1 (fun _ => ?_)
          clear hK K
          refine wpAnyH_ready (rs := [5]) (by kernel_rfl) (by simp) ?_
          refine AllReadyH.cons rfl (fun K hK => ?_) AllReadyH.nil
          go_simp
          refine hK.out _ _ hS1 (fun _ => ?_)
          clear hK K
          refine wpAnyH_ready (rs := [6]) (by kernel_rfl) (by simp) ?_
          refine AllReadyH.cons rfl (fun K hK => ?_) AllReadyH.nil
          go_simp
          refine hK.out _ _ hS1 (fun _ => ?_)
          clear hK K
          refine wpAnyH_ready (rs := [7]) (by kernel_rfl) (by simp) ?_
          refine AllReadyH.cons rfl (fun K hK => ?_) AllReadyH.nil
          go_simp
          refine hK.out _ _ hS1 (fun _ => ?_)
          clear hK K
          refine wpAnyH_ready (rs := [8]) (by kernel_rfl) (by simp) ?_
          refine AllReadyH.cons rfl (fun K hK => ?_) AllReadyH.nil
          go_simp
          refine hK.out _ _ hS1 (fun _ => ?_)
          clear hK K
          refine wpAnyH_ready (rs := [9]) (by kernel_rfl) (by simp) ?_
          refine AllReadyH.cons rfl (fun K hK => ?_) AllReadyH.nil
          go_simp
          refine hK.out _ _ hS1 (fun _ => ?_)
          clear hK K
          refine wpAnyH_take (i := 10) (v := undef) rfl (by kernel_rfl) (by kernel_rfl) (by kernel_rfl) (fun _ _ _ h => h) (Or.inr ⟨by kernel_rfl, rfl⟩) hS1 ?_
          refine wpAnyH_ready (rs := [11]) (by kernel_rfl) (by simp) ?_
          refine AllReadyH.cons rfl (fun K hK => ?_) AllReadyH.nil
          go_simp
          refine hK.out _ _ hS1 (fun _ => ?_)
          clear hK K
          refine wpAnyH_ready (rs := [12]) (by kernel_rfl) (by simp) ?_
          refine AllReadyH.cons rfl (fun K hK => ?_) AllReadyH.nil
          go_simp
          refine hK.out _ _ hS1 (fun _ => ?_)
          clear hK K
          refine wpAnyH_ready (rs := [13]) (by kernel_rfl) (by simp) ?_
          refine AllReadyH.cons rfl (fun K hK => ?_) AllReadyH.nil
          go_simp
          refine hK.out _ _ hS1 (fun _ => ?_)
          clear hK K
          refine wpAnyH_ready (rs := [14]) (by kernel_rfl) (by simp) ?_
          refine AllReadyH.cons rfl (fun K hK => ?_) AllReadyH.nil
          go_simp
          refine hK.out _ _ hS1 (fun _ => ?_)
          clear hK K
          refine wpAnyH_ready (rs := [15]) (by kernel_rfl) (by simp) ?_
          refine AllReadyH.cons rfl (fun K hK => ?_) AllReadyH.nil
          go_simp
          refine hK.out _ _ hS1 (fun _ => ?_)
          clear hK K
          refine wpAnyH_ready (rs := [16]) (by kernel_rfl) (by simp) ?_
          refine AllReadyH.cons rfl (fun K hK => ?_) AllReadyH.nil
          go_simp
          refine hK.out _ _ hS1 (fun _ => ?_)
          clear hK K
          refine wpAnyH_ready (rs := [17]) (by kernel_rfl) (by simp) ?_
          refine AllReadyH.cons rfl (fun K hK => ?_) AllReadyH.nil
          go_simp
          refine hK.out _ _ hS1 (fun _ => ?_)
          clear hK K
          refine wpAnyH_take (i := 18) (v := undef) rfl (by kernel_rfl) (by kernel_rfl) (by kernel_rfl) (fun _ _ _ h => h) (Or.inr ⟨by kernel_rfl, rfl⟩) hS1 ?_
          refine wpAnyH_ready (rs := [19]) (by kernel_rfl) (by simp) ?_
          refine AllReadyH.cons rfl (fun K hK => ?_) AllReadyH.nil
          go_simp
          refine hK.out _ _ hS1 (fun _ => ?_)
          clear hK K
          refine wpAnyH_ready (rs := [20]) (by kernel_rfl) (by simp) ?_
          refine AllReadyH.cons rfl (fun K hK => ?_) AllReadyH.nil
          go_simp
          refine hK.out _ _ hS1 (fun _ => ?_)
          clear hK K
          refine wpAnyH_ready (rs := [21]) (by kernel_rfl) (by simp) ?_
          refine AllReadyH.cons rfl (fun K hK => ?_) AllReadyH.nil
          go_simp
          refine hK.out _ _ hS1 (fun _ => ?_)
          clear hK K
          refine wpAnyH_ready (rs := [22]) (by kernel_rfl) (by simp) ?_
          refine AllReadyH.cons rfl (fun K hK => ?_) AllReadyH.nil
          go_simp
          refine hK.out _ _ hS1 (fun _ => ?_)
          clear hK K
          refine wpAnyH_ready (rs := [23]) (by kernel_rfl) (by simp) ?_
          refine AllReadyH.cons rfl (fun K hK => ?_) AllReadyH.nil
          go_simp
          refine hK.out _ _ hS1 (fun _ => ?_)
          clear hK K
          refine wpAnyH_ready (rs := [24]) (by kernel_rfl) (by simp) ?_
          refine AllReadyH.cons rfl (fun K hK => ?_) AllReadyH.nil
          go_simp
          refine hK.out _ _ hS1 (fun _ => ?_)
          clear hK K
          have SZ := hS1
          refine wpAnyH_done (by kernel_rfl) ?_ _
          go_wp2_with fail
          go_meet
          exact ⟨false, _, rfl, by first | rfl | trivial, hide ⟨fun h => (by cases h), fun _ => Hb.out, s9.out _ SZ⟩⟩
      case rest =>
      obtain ⟨b, W, rfl, rfl, HH⟩ := hcut
      have HbD : Hid (Below WOLD.heap.size WOLD wc) := hide HH.out.2.2
      have HbE : Hid (Below W0.heap.size W0 wc) := hide (HbC.out.trans (HbD.out.mono HbC.out.size))
      have Hb3d : Hid (Below W3.heap.size W3 wc) := hide (Hb3c.out.trans (HbD.out.mono Hb3c.out.size))
      clear s9 s8 s7 s6 s1 hS0
      cases b with
      | false =>
        have Hln : Hid (lineS firstAt (ns, es) s = none) := hide (line_none Hskf.out (by rw [Hws.out]; exact Hno4.out) (by rw [Hws.out]; exact HH.out.2.1 rfl))
        obtain ⟨⟨k0, k1⟩, ⟨k2, k3⟩, ⟨k4, k5⟩, _, _⟩ := HC.out wc HbE.out
        obtain ⟨⟨m6, m7⟩, mb⟩ := hr0.out wc HbE.out _ rfl
        have HMB := hide mb
        clear HH mb
        go_wp2_with fail
        refine bodyPost_ret (v := .tuple #[.agg #[.slice a n c, .slice a' m c'], .bool false]) (by simp [results, Tryd.results30, go_sem, m6, m7]) rfl ?_
        refine ⟨?_, HMB.out⟩
        rw [Hln.out]
        exact ⟨a, n, c, a', m, c', rfl⟩
      | true =>
        obtain ⟨SS, hSS⟩ : ∃ SS : World → Prop, SS = fun W' => Below wc.heap.size wc W' := ⟨_, rfl⟩
        have s9 : Hid (∀ W', SS W' → Below wc.heap.size wc W') := hide (fun W' h => by rw [hSS] at h; exact h)
        have s8 : Hid (∀ W', Below wc.heap.size wc W' → SS W') := hide (fun W' h => by rw [hSS]; exact h)
        have s7 : Hid (∀ W', SS W' → Below W0.heap.size W0 W') := hide (fun W' h => HbE.out.trans ((s9.out W' h).mono HbE.out.size))
        have s6 : Hid (∀ W', SS W' → Below W3.heap.size W3 W') := hide (fun W' h => Hb3d.out.trans ((s9.out W' h).mono Hb3d.out.size))
        have s1 : ∀ W', SS W' → W'.cell? ⟨w.heap.size, 0, none⟩ = some (.slice a n c) ∧ W'.cell? ⟨w.heap.size, 1, none⟩ = some (.slice a' m c') := fun W' h => (HC.out W' (s7.out W' h)).1
        have hS0 := s8.out wc.drew (below_hp (Below.refl _ _) rfl rfl rfl rfl)
        clear hSS
        obtain ⟨e, hok⟩ := HH.out.1 rfl
        have Hln : Hid (lineS firstAt (ns, es) s = some (ns, es ++ [e])) := hide (line_edge (st := (ns, es)) Hskf.out (by rw [Hws.out]; exact hok))
        obtain ⟨w1, w2, hw, hf1, hf2⟩ := hok
        obtain ⟨x, y⟩ := e
        simp only at hf1 hf2
        subst hw
        have hnw3 : nw = 3 := by rw [← Hnw.out]; rfl
        subst hnw3
        obtain ⟨bS, oS, haS, c0⟩ := Hwl.out 0 edgeWd rfl
        subst haS
        obtain ⟨_, _, haS, c1⟩ := Hwl.out 1 w1 rfl
        simp only [Option.some.injEq, Addr.mk.injEq] at haS
        obtain ⟨rfl, rfl, _⟩ := haS
        obtain ⟨_, _, haS, c2⟩ := Hwl.out 2 w2 rfl
        simp only [Option.some.injEq, Addr.mk.injEq] at haS
        obtain ⟨rfl, rfl, _⟩ := haS
        have HF1 : Hid ((firstAt ns w1).getD (-1) = x) := hide (by rw [hf1]; rfl)
        have HF2 : Hid ((firstAt ns w2).getD (-1) = y) := hide (by rw [hf2]; rfl)
        have s2 : ∀ W', SS W' → W'.cell? ⟨bS, oS + 1, none⟩ = some (.string w1) := fun W' h => c1 W' (s6.out W' h)
        have s3 : ∀ W', SS W' → W'.cell? ⟨bS, oS + 2, none⟩ = some (.string w2) := fun W' h => c2 W' (s6.out W' h)
        clear hf1 hf2 c0 c1 c2 HH
        go_upto_region 8 with fail
        refine wp_region_E SS 18 (by kernel_rfl) ?_
        refine wpAnyE_take (i := 1) (v := .pointer (some ⟨w.heap.size, 1, none⟩)) rfl (by kernel_rfl) (by kernel_rfl) (by kernel_rfl) (by kernel_rfl) (fun _ _ _ h => h) (Or.inl ⟨by rfl, fun W' hW => by go_simp⟩) hS0 ?_
        refine wpAnyE_take (i := 2) (v := .slice a' m c') rfl (by kernel_rfl) (by kernel_rfl) (by kernel_rfl) (by kernel_rfl) (fun _ _ _ h => h) (Or.inl ⟨by rfl, fun W' hW => by have x0 := (s1 W' hW).2; go_simp⟩) hS0 ?_
        refine wpAnyE_take (i := 4) (v := .agg #[.slice a n c, .slice a' m c']) rfl (by kernel_rfl) (by kernel_rfl) (by kernel_rfl) (by kernel_rfl) (fun _ _ _ h => h) (Or.inl ⟨by rfl, fun W' hW => by have x0 := (s1 W' hW).1; have x1 := (s1 W' hW).2; go_simp⟩) hS0 ?_
        refine wpAnyE_take (i := 5) (v := .slice (some ⟨bS, oS, none⟩) 3 cS) rfl (by kernel_rfl) (by kernel_rfl) (by kernel_rfl) (by kernel_rfl) (fun _ _ _ h => h) (Or.inl ⟨by rfl, fun W' hW => by go_simp⟩) hS0 ?_
        refine wpAnyE_take (i := 6) (v := .pointer (some ⟨bS, oS + 1, none⟩)) rfl (by kernel_rfl) (by kernel_rfl) (by kernel_rfl) (by kernel_rfl) (fun _ _ _ h => h) (Or.inl ⟨by rfl, fun W' hW => by go_simp⟩) hS0 ?_
        refine wpAnyE_take (i := 7) (v := .string w1) rfl (by kernel_rfl) (by kernel_rfl) (by kernel_rfl) (by kernel_rfl) (fun _ _ _ h => h) (Or.inl ⟨by rfl, fun W' hW => by have x0 := s2 W' hW; go_simp⟩) hS0 ?_
        refine wpAnyE_take (i := 9) (v := .agg #[.slice a n c, .slice a' m c']) rfl (by kernel_rfl) (by kernel_rfl) (by kernel_rfl) (by kernel_rfl) (fun _ _ _ h => h) (Or.inl ⟨by rfl, fun W' hW => by have x0 := (s1 W' hW).1; have x1 := (s1 W' hW).2; go_simp⟩) hS0 ?_
        refine wpAnyE_take (i := 10) (v := .slice (some ⟨bS, oS, none⟩) 3 cS) rfl (by kernel_rfl) (by kernel_rfl) (by kernel_rfl) (by kernel_rfl) (fun _ _ _ h => h) (Or.inl ⟨by rfl, fun W' hW => by go_simp⟩) hS0 ?_
        refine wpAnyE_take (i := 11) (v := .pointer (some ⟨bS, oS + 2, none⟩)) rfl (by kernel_rfl) (by kernel_rfl) (by kernel_rfl) (by kernel_rfl) (fun _ _ _ h => h) (Or.inl ⟨by rfl, fun W' hW => by go_simp⟩) hS0 ?_
        refine wpAnyE_take (i := 12) (v := .string w2) rfl (by kernel_rfl) (by kernel_rfl) (by kernel_rfl) (by kernel_rfl) (fun _ _ _ h => h) (Or.inl ⟨by rfl, fun W' hW => by have x0 := s3 W' hW; go_simp⟩) hS0 ?_
        refine wpAnyE_ready (rs := [0]) (by kernel_rfl) (by simp) ?_
        refine AllReadyE.cons rfl (fun K hK => ?_) AllReadyE.nil
        go_simp
        have S1 := s8.out _ ((s9.out _ hS0).alloc (s9.out _ hS0).size (.cells #[] 47))
        have O1 : Hid (edE.Own (wc.drew.alloc (.cells #[] 47)) wc.heap.size (.slice (some ⟨wc.heap.size, 0, none⟩) 0 0) []) := hide (El.Own.new edE wc.drew _ (s9.out _ hS0).size #[] [] rfl (by simp) _ _ _ (by simp) rfl rfl)
        refine hK.out _ _ (fun _ => S1) ?_
        clear hK K
        refine wpAnyE_ready (rs := [3]) (by kernel_rfl) (by simp) ?_
        refine AllReadyE.cons rfl (fun K hK => ?_) AllReadyE.nil
        refine stepB edE (B := wc.heap.size) (s9.out _ S1).size rfl (.tmp 108) (.tmp 110) rfl _ _ rfl rfl [] es O1.out (HR.out _ (s7.out _ S1)).2 (by rw [Hm.out]; have := Hl'.out; simp; omega) ?_
        intro v2 U2 ho2 hg2
        rw [List.nil_append] at ho2
        have S2 := s8.out _ ((s9.out _ S1).grown hg2 (s9.out _ S1).size (fun q hq => O1.out.ge q hq))
        have O2 := hide ho2
        clear ho2 hg2
        refine hK.out _ _ (fun _ => S2) ?_
        clear hK K
        refine wpAnyE_ready (rs := [8]) (by kernel_rfl) (by simp) ?_
        refine AllReadyE.cons rfl (fun K hK => ?_) AllReadyE.nil
        go_simp
        refine (K20.out _ w1 (s7.out _ S2)).mono ?_
        rintro e U3 ⟨rfl, hb⟩
        rw [HF1.out]
        have S3 := s8.out _ ((s9.out _ S2).trans (hb.mono (s9.out _ S2).size))
        have O3 := hide (O2.out.keep hb)
        refine hK.out _ _ (fun _ => S3) ?_
        clear hK K hb
        refine wpAnyE_ready (rs := [13]) (by kernel_rfl) (by simp) ?_
        refine AllReadyE.cons rfl (fun K hK => ?_) AllReadyE.nil
        go_simp
        refine (K20.out _ w2 (s7.out _ S3)).mono ?_
        rintro e U4 ⟨rfl, hb⟩
        rw [HF2.out]
        have S4 := s8.out _ ((s9.out _ S3).trans (hb.mono (s9.out _ S3).size))
        have O4 := hide (O3.out.keep hb)
        refine hK.out _ _ (fun _ => S4) ?_
        clear hK K hb
        refine wpAnyE_ready (rs := [14]) (by kernel_rfl) (by simp) ?_
        refine AllReadyE.cons rfl (fun K hK => ?_) AllReadyE.nil
        go_simp
        refine hK.out _ _ (fun _ => S4) ?_
        clear hK K
        refine wpAnyE_ready (rs := [15]) (by kernel_rfl) (by simp) ?_
        refine AllReadyE.cons rfl (fun K hK => ?_) AllReadyE.nil
        go_simp
        have S5 := s8.out _ ((s9.out _ S4).alloc (s9.out _ S4).size (.cells #[.int .i64 x, .int .i64 y] 47))
        have O5 : Hid (edE.Own (U4.alloc (.cells #[.int .i64 x, .int .i64 y] 47)) wc.heap.size v2 es) := hide (World.ownsRow.alloc O4.out _)
        have N5 : Hid (edE.Rd (U4.alloc (.cells #[.int .i64 x, .int .i64 y] 47)) (.slice (some ⟨U4.heap.size, 0, none⟩) 1 1) [((x, y) : Ed)]) := hide (ed_new U4 (x, y) _ rfl)
        refine hK.out _ _ (fun _ => S5) ?_
        clear hK K
        refine wpAnyE_ready (rs := [16]) (by kernel_rfl) (by simp) ?_
        refine AllReadyE.cons rfl (fun K hK => ?_) AllReadyE.nil
        refine stepB edE (B := wc.heap.size) (s9.out _ S5).size rfl (.tmp 111) (.tmp 123) rfl _ _ rfl rfl es [((x, y) : Ed)] O5.out N5.out (by rw [Hm.out]; have := Hl'.out; simp; omega) ?_
        intro v5 U5 ho5 hg5
        have S6 := s8.out _ ((s9.out _ S5).grown hg5 (s9.out _ S5).size (fun q hq => O5.out.ge q hq))
        obtain ⟨aQ, cQ, hvQ⟩ := ho5.rd.form
        have hlQ : (es ++ [((x, y) : Ed)]).length = m + 1 := by rw [List.length_append, Hm.out]; rfl
        rw [hlQ] at hvQ
        subst hvQ
        have HlQ := hide hlQ
        clear hlQ
        have O6 := hide ho5
        clear ho5 hg5
        refine hK.out _ _ (fun _ => S6) ?_
        clear hK K
        obtain ⟨⟨k0, k1⟩, _, _, kf0, kf1⟩ := HC.out U5 (s7.out _ S6)
        obtain ⟨B1, B2, B3, B4⟩ := fin_ok (v := .slice aQ (m + 1) cQ) 1 HA.out HB1.out HB2.out (s7.out _ S6)
        obtain ⟨D1, D2, D3⟩ := fin_two (p := .slice a n c) (q := .slice aQ (m + 1) cQ) B2 B3
        have HO7 := hide (D3 edE _ _ _ (by decide) (B4 edE _ _ _ (by decide) O6.out))
        have HD2 := hide D2
        have m0 := (cells_at B1 0).1
        have m1 := (cells_at B1 1).1
        have m2 := (cells_at B2 0).1
        have m3 := (cells_at B2 1).1
        have m4 := (cells_at B2 0).2
        have m5 := (cells_at B2 1).2
        have m6 := (cells_at D1 0).1
        have m7 := (cells_at D1 1).1
        simp at m0 m1 m2 m3 m6 m7
        clear B1 B2 B3 B4 D1 D2 D3
        refine wpAnyE_ready (rs := [17]) (by kernel_rfl) (by simp) ?_
        refine AllReadyE.cons rfl (fun K hK => ?_) AllReadyE.nil
        go_simp
        refine hK.out _ _ (fun _ => S6) ?_
        clear hK K
        refine wpAnyE_ready (rs := [18]) (by kernel_rfl) (by simp) ?_
        refine AllReadyE.cons rfl (fun K hK => ?_) AllReadyE.nil
        go_simp
        refine hK.out _ _ (fun h => absurd rfl h) ?_
        clear hK K
        refine wpAnyE_done (by kernel_rfl) ?_ _
        clear s1 s2 s3 k0 k1 kf0 kf1
        go_wp2_with fail
        refine bodyPost_ret (v := .tuple #[.agg #[.slice a n c, .slice aQ (m + 1) cQ], .bool true]) (by simp [results, Tryd.results30, go_sem, m6, m7]) rfl ?_
        refine ⟨?_, HD2.out⟩
        rw [Hln.out]
        exact ⟨_, rfl, a, aQ, c, cQ, by rw [HlQ.out, Hn.out], by rw [Hn.out]; exact (HRw.out _ HD2.out).1, by rw [HlQ.out]; exact HO7.out.rd⟩
end Go.Proofs.YtpjolnaomdmnnaaDoor
