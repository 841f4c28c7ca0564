/- The document's Parse. -/
import Derived.Test.YtpjolnaomdmnnaaDoorRln
namespace Go.Proofs.YtpjolnaomdmnnaaDoor
open Go.RowKit
set_option linter.unusedVariables false

theorem line_len {lk : List Nd → ByteArray → Option Int} {st st' : St} {l : ByteArray} (h : lineS lk st l = some st') : st'.1.length ≤ st.1.length + 1 ∧ st'.2.length ≤ st.2.length + 1 := by
  unfold lineS at h
  split at h
  · cases h; omega
  · split at h
    · split at h
      · obtain ⟨x, _, rfl⟩ := Option.map_eq_some_iff.1 h
        simp
      · split at h
        · obtain ⟨x, _, rfl⟩ := Option.map_eq_some_iff.1 h
          simp
        · cases h
    · cases h
theorem cell_set {w : World} {g i : Nat} {u : Value} {y : Addr} (h : y.block ≠ g) : (w.setCell ⟨g, i, none⟩ u).cell? y = w.cell? y := by
  unfold World.cell?
  rw [Below.heap_setCell _ _ _ _ h]
theorem rd_box {α : Type} {E : El Tryd.prog α} {w : World} {g i : Nat} {v u p q : Value} {xs : List α} (h : E.Rd w v xs) (hb : w.heap[g]? = some (.cells #[p, q] 25)) (hp : ∃ a n c, p = .slice a n c) (hq : ∃ a n c, q = .slice a n c) (hE : ∀ x, ∀ z ∈ E.enc x, ∀ a n c, z ≠ .slice a n c) : E.Rd (w.setCell ⟨g, i, none⟩ u) v xs := by
  rcases h with h | ⟨x, cap, h1, h2⟩
  · exact .inl h
  · refine .inr ⟨x, cap, h1, fun k hk => ?_⟩
    have hc := h2 k hk
    have hl : k < (E.fl xs).length := by rw [E.fl_len]; exact hk
    rw [List.getElem?_eq_getElem hl] at hc ⊢
    rw [← hc]
    refine cell_set (fun e => ?_)
    have hmem : (E.fl xs)[k] ∈ E.fl xs := List.getElem_mem hl
    obtain ⟨y, _, hy⟩ := List.mem_flatMap.1 hmem
    have hne := hE y _ hy
    have hbk : (x.add k).block = g := e
    unfold World.cell? at hc
    rw [hbk, hb] at hc
    simp only at hc
    have hsp : (x.add k).spot = none := World.cell?_spot (h2 k hk |>.trans (List.getElem?_eq_getElem hl))
    obtain ⟨a1, n1, c1, rfl⟩ := hp
    obtain ⟨a2, n2, c2, rfl⟩ := hq
    rw [hsp] at hc
    have hm : (E.fl xs)[k] ∈ (#[Value.slice a1 n1 c1, Value.slice a2 n2 c2] : Array Value) := Array.mem_of_getElem? hc
    simp at hm
    rcases hm with hm | hm
    · exact hne _ _ _ hm
    · exact hne _ _ _ hm
theorem nd_noslice : ∀ x : Nd, ∀ z ∈ ndE.enc x, ∀ a n c, z ≠ .slice a n c := by
  intro x z hz a n c
  simp [ndE] at hz
  rcases hz with rfl | rfl | rfl <;> simp
theorem ed_noslice : ∀ x : Ed, ∀ z ∈ edE.enc x, ∀ a n c, z ≠ .slice a n c := by
  intro x z hz a n c
  simp [edE] at hz
  rcases hz with rfl | rfl <;> simp
/-- where the reading stands: the boxes, the layout so far -/
structure Pst (w : World) (W : World) (st : St) (a a' : Option Addr) (c c' n m : Nat) : Prop where
  b1 : W.heap[w.heap.size]? = some (.cells #[.slice none 0 0, .slice none 0 0] 25)
  b2 : W.heap[w.heap.size + 1]? = some (.cells #[.slice a n c, .slice a' m c'] 25)
  hn : st.1.length = n
  hm : st.2.length = m
  rn : ndE.Rd W (.slice a n c) st.1
  re : edE.Rd W (.slice a' m c') st.2
  bel : Below w.heap.size w W
theorem Pst.put {w W W6 : World} {st st' : St} {a a' b b' : Option Addr} {c c' d d' n m : Nat} (h : Pst w W st a a' c c' n m) (hb : Below W.heap.size W W6) (hr : ndE.Rd W6 (.slice b st'.1.length d) st'.1) (hr' : edE.Rd W6 (.slice b' st'.2.length d') st'.2) :
    Pst w ((W6.setCell ⟨w.heap.size + 1, 0, none⟩ (.slice b st'.1.length d)).setCell ⟨w.heap.size + 1, 1, none⟩ (.slice b' st'.2.length d')) st' b b' d d' st'.1.length st'.2.length := by
  have x2 : W6.heap[w.heap.size + 1]? = some (.cells #[.slice a n c, .slice a' m c'] 25) := by rw [hb.block _ (heap_lt h.b2)]; exact h.b2
  have y2 := heap_put (i := 0) x2 (.slice b st'.1.length d)
  refine ⟨?_, heap_put (i := 1) y2 (.slice b' st'.2.length d'), rfl, rfl, ?_, ?_, ?_⟩
  · rw [Below.heap_setCell _ _ _ _ (by simp), Below.heap_setCell _ _ _ _ (by simp), hb.block _ (heap_lt h.b1)]; exact h.b1
  · exact rd_box (rd_box hr x2 ⟨_, _, _, rfl⟩ ⟨_, _, _, rfl⟩ nd_noslice) y2 ⟨_, _, _, rfl⟩ ⟨_, _, _, rfl⟩ nd_noslice
  · exact rd_box (rd_box hr' x2 ⟨_, _, _, rfl⟩ ⟨_, _, _, rfl⟩ ed_noslice) y2 ⟨_, _, _, rfl⟩ ⟨_, _, _, rfl⟩ ed_noslice
  · exact ((h.bel.trans (hb.mono h.bel.size)).setCell (p := ⟨w.heap.size + 1, 0, none⟩) (by simp) _).setCell (p := ⟨w.heap.size + 1, 1, none⟩) (by simp) _
theorem Pst.cells {w W : World} {st : St} {a a' : Option Addr} {c c' n m : Nat} (h : Pst w W st a a' c c' n m) : (W.cell? ⟨w.heap.size, 0, none⟩ = some (.slice none 0 0) ∧ W.cell? ⟨w.heap.size, 1, none⟩ = some (.slice none 0 0)) ∧ (W.frozen? ⟨w.heap.size, 0, none⟩ = false ∧ W.frozen? ⟨w.heap.size, 1, none⟩ = false) ∧ (W.cell? ⟨w.heap.size + 1, 0, none⟩ = some (.slice a n c) ∧ W.cell? ⟨w.heap.size + 1, 1, none⟩ = some (.slice a' m c')) ∧ W.frozen? ⟨w.heap.size + 1, 0, none⟩ = false ∧ W.frozen? ⟨w.heap.size + 1, 1, none⟩ = false :=
  ⟨⟨(cells_at h.b1 0).1, (cells_at h.b1 1).1⟩, ⟨(cells_at h.b1 0).2, (cells_at h.b1 1).2⟩, ⟨(cells_at h.b2 0).1, (cells_at h.b2 1).1⟩, (cells_at h.b2 0).2, (cells_at h.b2 1).2⟩
theorem Pst.keep {w W W' : World} {st : St} {a a' : Option Addr} {c c' n m : Nat} (h : Pst w W st a a' c c' n m) (hb : Below W.heap.size W W') : Pst w W' st a a' c c' n m :=
  ⟨by rw [hb.block _ (heap_lt h.b1)]; exact h.b1, by rw [hb.block _ (heap_lt h.b2)]; exact h.b2, h.hn, h.hm, h.rn.keep hb, h.re.keep hb, h.bel.trans (hb.mono h.bel.size)⟩
/-- the result's box is filled -/
theorem Pst.out {w W : World} {st : St} {a a' : Option Addr} {c c' n m : Nat} (h : Pst w W st a a' c c' n m) (p q : Value) :
    let W' := (W.setCell ⟨w.heap.size, 0, none⟩ p).setCell ⟨w.heap.size, 1, none⟩ q
    (W'.cell? ⟨w.heap.size, 0, none⟩ = some p ∧ W'.cell? ⟨w.heap.size, 1, none⟩ = some q) ∧ Below w.heap.size w W' ∧ ((∃ x y z, p = .slice x y z) → ndE.Rd W' (.slice a n c) st.1 ∧ edE.Rd W' (.slice a' m c') st.2) := by
  have y1 := heap_put (i := 0) h.b1 p
  have y2 := heap_put (i := 1) y1 q
  refine ⟨⟨(cells_at y2 0).1, (cells_at y2 1).1⟩, (h.bel.setCell (p := ⟨w.heap.size, 0, none⟩) (Nat.le_refl _) _).setCell (p := ⟨w.heap.size, 1, none⟩) (Nat.le_refl _) _, fun hp => ?_⟩
  exact ⟨rd_box (rd_box h.rn h.b1 ⟨_, _, _, rfl⟩ ⟨_, _, _, rfl⟩ nd_noslice) y1 hp ⟨_, _, _, rfl⟩ nd_noslice, rd_box (rd_box h.re h.b1 ⟨_, _, _, rfl⟩ ⟨_, _, _, rfl⟩ ed_noslice) y1 hp ⟨_, _, _, rfl⟩ ed_noslice⟩
theorem Pst.bad {w W : World} {st : St} {a a' : Option Addr} {c c' n m : Nat} (h : Pst w W st a a' c c' n m) (p q : Value) :
    let W' := (W.setCell ⟨w.heap.size + 1, 0, none⟩ p).setCell ⟨w.heap.size + 1, 1, none⟩ q
    let W'' := (W'.setCell ⟨w.heap.size, 0, none⟩ (.slice none 0 0)).setCell ⟨w.heap.size, 1, none⟩ (.slice none 0 0)
    (W'.cell? ⟨w.heap.size, 0, none⟩ = some (.slice none 0 0) ∧ W'.cell? ⟨w.heap.size, 1, none⟩ = some (.slice none 0 0)) ∧ (W'.frozen? ⟨w.heap.size, 0, none⟩ = false ∧ W'.frozen? ⟨w.heap.size, 1, none⟩ = false) ∧ (W''.cell? ⟨w.heap.size, 0, none⟩ = some (.slice none 0 0) ∧ W''.cell? ⟨w.heap.size, 1, none⟩ = some (.slice none 0 0)) ∧ Below w.heap.size w W'' := by
  have b1 : ((W.setCell ⟨w.heap.size + 1, 0, none⟩ p).setCell ⟨w.heap.size + 1, 1, none⟩ q).heap[w.heap.size]? = some (.cells #[.slice none 0 0, .slice none 0 0] 25) := by
    rw [Below.heap_setCell _ _ _ _ (by simp), Below.heap_setCell _ _ _ _ (by simp)]; exact h.b1
  have y1 := heap_put (i := 0) b1 (.slice none 0 0)
  have y2 := heap_put (i := 1) y1 (.slice none 0 0)
  exact ⟨⟨(cells_at b1 0).1, (cells_at b1 1).1⟩, ⟨(cells_at b1 0).2, (cells_at b1 1).2⟩, ⟨(cells_at y2 0).1, (cells_at y2 1).1⟩, (((h.bel.setCell (p := ⟨w.heap.size + 1, 0, none⟩) (by simp) _).setCell (p := ⟨w.heap.size + 1, 1, none⟩) (by simp) _).setCell (p := ⟨w.heap.size, 0, none⟩) (Nat.le_refl _) _).setCell (p := ⟨w.heap.size, 1, none⟩) (Nat.le_refl _) _⟩
/-- what Parse leaves -/
def PRet (o : St × Nat × Int) (e : Ending) (w' : World) : Prop := ∃ a c a' c', e = .returned (.tuple #[.agg #[.slice a o.1.1.length c, .slice a' o.1.2.length c'], .int .i64 (o.2.1 : Int), .int .i64 o.2.2]) ∧ ndE.Rd w' (.slice a o.1.1.length c) o.1.1 ∧ edE.Rd w' (.slice a' o.1.2.length c') o.1.2

set_option maxRecDepth 100000 in
set_option maxHeartbeats 4000000 in
theorem rparse_long (text : ByteArray) (w : World) (hs : 4096 < text.size) : Calls Tryd.prog 17 #[.string text] w fun e w' => e = .returned (.tuple #[.agg #[.slice none 0 0, .slice none 0 0], .int .i64 0, .int .i64 3]) ∧ Below w.heap.size w w' := by
  have h1 : (4096 : Int) < text.size := by omega
  have b0 : Hid (Below w.heap.size w (w.alloc (.cells #[.slice none 0 0, .slice none 0 0] 25))) := hide ((Below.refl _ _).alloc (Nat.le_refl _) _)
  clear hs
  go_enter Tryd.func17, Tryd.ntmps17
  go_wp2_with fail
  refine bodyPost_ret (v := .tuple #[.agg #[.slice none 0 0, .slice none 0 0], .int .i64 0, .int .i64 3]) (by simp [results, Tryd.results17, go_sem]) rfl ?_
  exact ⟨rfl, b0.out⟩

set_option maxRecDepth 100000 in
set_option maxHeartbeats 8000000 in
theorem rparse_any (text : ByteArray) (w : World) (hs : text.size ≤ 4096) : Calls Tryd.prog 17 #[.string text] w fun e w' => PRet (parseS firstAt text) e w' ∧ Below w.heap.size w w' := by
  have h1 : ¬ (4096 : Int) < text.size := by omega
  have pS : Hid (parseS firstAt text = match linesS firstAt 0 ([], []) (pieces 10 text) with
    | .inr n => (([], []), n, 60)
    | .inl st => if good st.1 st.2 = true then (st, 0, 0) else (([], []), 0, 61)) := hide (by unfold parseS; rw [if_neg (by omega)]; cases linesS firstAt 0 ([], []) (pieces 10 text) <;> rfl)
  generalize parseS firstAt text = PS at *
  obtain ⟨W0, hW0⟩ : ∃ W0, (w.alloc (.cells #[.slice none 0 0, .slice none 0 0] 25)).alloc (.cells #[.slice none 0 0, .slice none 0 0] 25) = W0 := ⟨_, rfl⟩
  have P0 : Pst w W0 ([], []) none none 0 0 0 0 := by
    refine ⟨by rw [← hW0, Below.heap_alloc _ _ _ (by simp)]; exact heap_new _ _, ?_, rfl, rfl, .inl ⟨rfl, rfl⟩, .inl ⟨rfl, rfl⟩, by rw [← hW0]; exact ((Below.refl _ _).alloc (Nat.le_refl _) _).alloc (by simp) _⟩
    rw [← hW0]
    have := heap_new (w.alloc (.cells #[.slice none 0 0, .slice none 0 0] 25)) (.cells #[.slice none 0 0, .slice none 0 0] 25)
    rwa [show (w.alloc (.cells #[.slice none 0 0, .slice none 0 0] 25)).heap.size = w.heap.size + 1 by simp] at this
  have HP0 := hide P0
  have HW0 := hide hW0
  have Hll : Hid (text.data.toList.length = text.size) := hide rfl
  have z0 : (text.size : Int) ≤ 4096 := by omega
  have Hs := hide hs
  clear P0 hW0 hs
  go_enter Tryd.func17, Tryd.ntmps17
  go_upto_region 4 with fail
  rw [HW0.out]
  clear HW0
  go_wp2_with fail
  go_loopw [6, 7, 8] (fun v6 v7 v8 wr => ∃ (i f k : Nat) (st : St) (a a' : Option Addr) (c c' n m : Nat), i ≤ text.size + 1 ∧ v6 = .int .i64 f ∧ v7 = .int .i64 ((k + 1 : Nat) : Int) ∧ v8 = .int .i64 i ∧ Hid (Pst w wr st a a' c c' n m) ∧ Hid (k ≤ i ∧ n ≤ i ∧ m ≤ i) ∧ Hid ((i ≤ text.size → f ≤ i ∧ linesS firstAt 0 ([], []) (pieces 10 text) = linesS firstAt k st ((cutL 10 (text.data.toList.drop f)).map str) ∧ ∀ j, f ≤ j → j < i → text.data.toList[j]? ≠ some 10) ∧ (text.size < i → linesS firstAt 0 ([], []) (pieces 10 text) = .inl st))) (fun _ _ v8 _ => text.size + 1 - (intOf v8).toNat)
  case atStart => exact ⟨0, 0, 0, ([], []), none, none, 0, 0, 0, 0, by omega, rfl, rfl, rfl, HP0, hide ⟨by omega, by omega, by omega⟩, hide ⟨fun _ => ⟨by omega, rfl, fun j _ h => by omega⟩, fun h => by omega⟩⟩
  case round =>
    clear HP0
    obtain ⟨i, f, k, st, a, a', c, c', n, m, hi, rfl, rfl, rfl, HP, HK, HX⟩ := hrel
    have hkk : ((k + 1 : Nat) : Int) ≤ 100000 := by have := HK.out; omega
    by_cases hle : i ≤ text.size
    · obtain ⟨hf, hc, hno⟩ := HX.out.1 hle
      have j1 : (i : Int) ≤ (text.size : Int) := by omega
      have j2 : (f : Int) ≤ (i : Int) := by omega
      have j3 : (0 : Int) ≤ (f : Int) := by omega
      have j4 : (0 : Int) ≤ (i : Int) := by omega
      obtain ⟨ln, hln⟩ : ∃ ln, text.extract f i = ln := ⟨_, rfl⟩
      have Hst : Hid (str ((text.data.toList.drop f).take (i - f)) = ln) := hide (by rw [← hln]; exact sub_str text f i hf hle)
      have Hls : Hid (ln.size ≤ 5000) := hide (by
        rw [← Hst.out, str_size, List.length_take, List.length_drop, Hll.out]
        have := Hs.out
        omega)
      have dn : ∀ q, f + q < i → (text.data.toList.drop f)[q]? ≠ some 10 := fun q hq => by rw [List.getElem?_drop]; exact hno (f + q) (by omega) hq
      have K30 : Hid (∀ W, Pst w W st a a' c c' n m → Calls Tryd.prog 30 #[.agg #[.slice a n c, .slice a' m c'], .string ln] W fun e w' => RLret (lineS firstAt st ln) e w' ∧ Below W.heap.size W w') := hide (fun W h => by
        have := rline_any a a' c c' n m st.1 st.2 ln W h.hn h.hm h.rn h.re (by have := HK.out; have := Hs.out; omega) (by have := HK.out; have := Hs.out; omega) Hls.out
        exact this)
      by_cases he : i = text.size
      · subst he
        have Hcut : Hid (cutL 10 (text.data.toList.drop f) = [(text.data.toList.drop f).take (text.size - f)]) := hide (by
          rw [cut_none 10 (text.data.toList.drop f) (fun q => by
            rcases Nat.lt_or_ge (f + q) text.size with h | h
            · exact dn q h
            · rw [List.getElem?_eq_none (by rw [List.length_drop, Hll.out]; omega)]; simp)]
          rw [List.take_of_length_le (by rw [List.length_drop, Hll.out]; omega)])
        have Hl1 : Hid (linesS firstAt 0 ([], []) (pieces 10 text) = match lineS firstAt st ln with | some st' => .inl st' | none => .inr (k + 1)) := hide (by
          rw [hc, Hcut.out, List.map_cons, List.map_nil, Hst.out]
          show (match lineS firstAt st ln with | some st' => linesS firstAt (k + 1) st' [] | none => .inr (k + 1)) = _
          cases lineS firstAt st ln <;> rfl)
        have j5 : ¬ (text.size : Int) < (text.size : Int) := by omega
        clear hf hc hno dn HX
        go_upto_region 10 with fail
        obtain ⟨⟨k0, k1⟩, ⟨kf0, kf1⟩, ⟨k2, k3⟩, kf2, kf3⟩ := HP.out.cells
        obtain ⟨SS, hSS⟩ : ∃ SS : World → Prop, SS = fun _ => True := ⟨_, rfl⟩
        have TT : ∀ W', SS W' := fun W' => by rw [hSS]; trivial
        clear hSS
        have HPd : Hid (Pst w wr.drew st a a' c c' n m) := hide (HP.out.keep ⟨rfl, rfl, rfl, Nat.le_refl _, fun _ _ => rfl⟩)
        refine wp_region_held_drew (S := SS) (by kernel_rfl) (TT _) (fun hS0 => ?_)
        refine wpAnyH_take (i := 1) (v := .string text) rfl (by kernel_rfl) (by kernel_rfl) (by kernel_rfl) (fun _ _ _ h => h) (Or.inl ⟨by rfl, fun W' hW => by go_simp⟩) hS0 ?_
        refine wpAnyH_take (i := 2) (v := .int .i64 (f : Int)) rfl (by kernel_rfl) (by kernel_rfl) (by kernel_rfl) (fun _ _ _ h => h) (Or.inl ⟨by rfl, fun W' hW => by go_simp⟩) hS0 ?_
        refine wpAnyH_take (i := 3) (v := .int .i64 (text.size : Int)) rfl (by kernel_rfl) (by kernel_rfl) (by kernel_rfl) (fun _ _ _ h => h) (Or.inl ⟨by rfl, fun W' hW => by go_simp⟩) hS0 ?_
        refine wpAnyH_take (i := 4) (v := .string ln) rfl (by kernel_rfl) (by kernel_rfl) (by kernel_rfl) (fun _ _ _ h => h) (Or.inl ⟨by rfl, fun W' hW => by go_simp⟩) hS0 ?_
        refine wpAnyH_ready (rs := [0]) (by kernel_rfl) (by simp) ?_
        refine AllReadyH.cons rfl (fun K hK => ?_) AllReadyH.nil
        go_simp
        refine hK.out _ _ (TT _) (fun _ => ?_)
        clear hK K
        refine wpAnyH_ready (rs := [5]) (by kernel_rfl) (by simp) ?_
        refine AllReadyH.cons rfl (fun K hK => ?_) AllReadyH.nil
        go_simp
        refine (K30.out _ HPd.out).mono ?_
        rintro e W6 ⟨hR, hb6⟩
        cases hlr : lineS firstAt st ln with
        | some st' =>
          rw [hlr] at hR
          obtain ⟨v, rfl, b, b', d, d', rfl, hr1, hr2⟩ := hR
          have HP7 := hide (HPd.out.put hb6 hr1 hr2)
          have HK7 : Hid (k + 1 ≤ text.size + 1 ∧ st'.1.length ≤ text.size + 1 ∧ st'.2.length ≤ text.size + 1) := hide (by have h1 := line_len hlr; have h2 := HK.out; have h3 := HP.out.hn; have h4 := HP.out.hm; omega)
          obtain ⟨_, _, ⟨g2, g3⟩, gf2, gf3⟩ := (HPd.out.keep hb6).cells
          clear hr1 hr2 hb6 k0 k1 kf0 kf1 k2 k3 kf2 kf3
          refine hK.out _ _ (TT _) (fun _ => ?_)
          clear hK K
          refine wpAnyH_ready (rs := [6]) (by kernel_rfl) (by simp) ?_
          refine AllReadyH.cons rfl (fun K hK => ?_) AllReadyH.nil
          go_simp
          refine hK.out _ _ (TT _) (fun _ => ?_)
          clear hK K
          refine wpAnyH_take (i := 7) (v := (.agg #[.slice b st'.1.length d, .slice b' st'.2.length d'])) rfl (by kernel_rfl) (by kernel_rfl) (by kernel_rfl) (fun _ _ _ h => h) (Or.inl ⟨by rfl, fun W' hW => by go_simp⟩) (TT _) ?_
          refine wpAnyH_take (i := 8) (v := .bool true) rfl (by kernel_rfl) (by kernel_rfl) (by kernel_rfl) (fun _ _ _ h => h) (Or.inl ⟨by rfl, fun W' hW => by go_simp⟩) (TT _) ?_
          refine wpAnyH_ready (rs := [9]) (by kernel_rfl) (by simp) ?_
          refine AllReadyH.cons rfl (fun K hK => ?_) AllReadyH.nil
          go_simp
          refine hK.out _ _ (TT _) (fun _ => ?_)
          clear hK K
          refine wpAnyH_ready (rs := [10]) (by kernel_rfl) (by simp) ?_
          refine AllReadyH.cons rfl (fun K hK => ?_) AllReadyH.nil
          go_simp
          refine hK.out _ _ (TT _) (fun _ => ?_)
          clear hK K
          refine wpAnyH_done (by kernel_rfl) ?_ _
          have HI : Hid ((text.size + 1 ≤ text.size → text.size + 1 ≤ text.size + 1 ∧ linesS firstAt 0 ([], []) (pieces 10 text) = linesS firstAt (k + 1) st' ((cutL 10 (text.data.toList.drop (text.size + 1))).map str) ∧ ∀ j, text.size + 1 ≤ j → j < text.size + 1 → text.data.toList[j]? ≠ some 10) ∧ (text.size < text.size + 1 → linesS firstAt 0 ([], []) (pieces 10 text) = .inl st')) := hide ⟨fun h => by omega, fun _ => by rw [Hl1.out, hlr]⟩
          go_wp2_with fail
          go_roundw
          case rel => exact ⟨text.size + 1, text.size + 1, k + 1, st', b, b', d, d', _, _, by omega, by go_num, by go_num, by go_num, HP7, HK7, HI⟩
          case measure => first | (simp [intOf]; done) | (simp [intOf]; omega)
        | none =>
          rw [hlr] at hR
          obtain ⟨b, n', d, b', m', d', rfl⟩ := hR
          have HP6 := hide (HPd.out.keep hb6)
          obtain ⟨_, _, ⟨g2, g3⟩, gf2, gf3⟩ := HP6.out.cells
          obtain ⟨⟨o0, o1⟩, ⟨o2, o3⟩, ⟨o4, o5⟩, ob⟩ := HP6.out.bad (.slice b n' d) (.slice b' m' d')
          have HOB := hide ob
          have HE : Hid (PS = (([], []), k + 1, 60)) := hide (by rw [pS.out, Hl1.out, hlr])
          clear hb6 ob k0 k1 kf0 kf1 k2 k3 kf2 kf3
          refine hK.out _ _ (TT _) (fun _ => ?_)
          clear hK K
          refine wpAnyH_ready (rs := [6]) (by kernel_rfl) (by simp) ?_
          refine AllReadyH.cons rfl (fun K hK => ?_) AllReadyH.nil
          go_simp
          refine hK.out _ _ (TT _) (fun _ => ?_)
          clear hK K
          refine wpAnyH_take (i := 7) (v := (.agg #[.slice b n' d, .slice b' m' d'])) rfl (by kernel_rfl) (by kernel_rfl) (by kernel_rfl) (fun _ _ _ h => h) (Or.inl ⟨by rfl, fun W' hW => by go_simp⟩) (TT _) ?_
          refine wpAnyH_take (i := 8) (v := .bool false) rfl (by kernel_rfl) (by kernel_rfl) (by kernel_rfl) (fun _ _ _ h => h) (Or.inl ⟨by rfl, fun W' hW => by go_simp⟩) (TT _) ?_
          refine wpAnyH_ready (rs := [9]) (by kernel_rfl) (by simp) ?_
          refine AllReadyH.cons rfl (fun K hK => ?_) AllReadyH.nil
          go_simp
          refine hK.out _ _ (TT _) (fun _ => ?_)
          clear hK K
          refine wpAnyH_ready (rs := [10]) (by kernel_rfl) (by simp) ?_
          refine AllReadyH.cons rfl (fun K hK => ?_) AllReadyH.nil
          go_simp
          refine hK.out _ _ (TT _) (fun _ => ?_)
          clear hK K
          refine wpAnyH_done (by kernel_rfl) ?_ _
          go_wp2_with fail
          refine bodyPost_ret (v := .tuple #[.agg #[.slice none 0 0, .slice none 0 0], .int .i64 ((k + 1 : Nat) : Int), .int .i64 60]) (by simp [results, Tryd.results17, go_sem, o4, o5]) rfl ?_
          refine ⟨?_, HOB.out⟩
          rw [HE.out]
          exact ⟨none, 0, none, 0, rfl, .inl ⟨rfl, rfl⟩, .inl ⟨rfl, rfl⟩⟩
      · have hlt : i < text.size := by omega
        have j5 : (i : Int) < (text.size : Int) := by omega
        have hidx : ∀ W : World, (Instr.index 9 (.string text) (.int .i64 (i : Int))).run Tryd.prog W = .ok (.int .u8 (byteAt text i : Int)) W := fun W => by
          rw [run_index_string W 9 text .i64 (i : Int) Tryd.underlying9, dif_pos ⟨j4, j5⟩, byteAt_eq text i hlt]
          rfl
        have hbl := byte_list text i hlt 10
        by_cases hb : text.data.toList[i]? = some 10
        · have e32 : (byteAt text i : Int) = 10 := by have := hbl.2 hb; rw [this]; rfl
          rw [e32] at hidx
          have Hl1 : Hid (linesS firstAt 0 ([], []) (pieces 10 text) = match lineS firstAt st ln with | some st' => linesS firstAt (k + 1) st' ((cutL 10 (text.data.toList.drop (i + 1))).map str) | none => .inr (k + 1)) := hide (by
            rw [hc, cut_at 10 (text.data.toList.drop f) (i - f) (fun q hq => dn q (by omega)) (by rw [List.getElem?_drop, Nat.add_sub_cancel' hf]; exact hb), List.drop_drop, List.map_cons, Hst.out]
            rw [show f + (i - f + 1) = i + 1 by omega]
            rfl)
          clear hf hc hno dn HX hbl hb e32
          go_upto_region 10 with fail
          obtain ⟨⟨k0, k1⟩, ⟨kf0, kf1⟩, ⟨k2, k3⟩, kf2, kf3⟩ := HP.out.cells
          obtain ⟨SS, hSS⟩ : ∃ SS : World → Prop, SS = fun _ => True := ⟨_, rfl⟩
          have TT : ∀ W', SS W' := fun W' => by rw [hSS]; trivial
          clear hSS
          have HPd : Hid (Pst w wr.drew st a a' c c' n m) := hide (HP.out.keep ⟨rfl, rfl, rfl, Nat.le_refl _, fun _ _ => rfl⟩)
          refine wp_region_held_drew (S := SS) (by kernel_rfl) (TT _) (fun hS0 => ?_)
          refine wpAnyH_take (i := 1) (v := .string text) rfl (by kernel_rfl) (by kernel_rfl) (by kernel_rfl) (fun _ _ _ h => h) (Or.inl ⟨by rfl, fun W' hW => by go_simp⟩) hS0 ?_
          refine wpAnyH_take (i := 2) (v := .int .i64 (f : Int)) rfl (by kernel_rfl) (by kernel_rfl) (by kernel_rfl) (fun _ _ _ h => h) (Or.inl ⟨by rfl, fun W' hW => by go_simp⟩) hS0 ?_
          refine wpAnyH_take (i := 3) (v := .int .i64 (i : Int)) rfl (by kernel_rfl) (by kernel_rfl) (by kernel_rfl) (fun _ _ _ h => h) (Or.inl ⟨by rfl, fun W' hW => by go_simp⟩) hS0 ?_
          refine wpAnyH_take (i := 4) (v := .string ln) rfl (by kernel_rfl) (by kernel_rfl) (by kernel_rfl) (fun _ _ _ h => h) (Or.inl ⟨by rfl, fun W' hW => by go_simp⟩) hS0 ?_
          refine wpAnyH_ready (rs := [0]) (by kernel_rfl) (by simp) ?_
          refine AllReadyH.cons rfl (fun K hK => ?_) AllReadyH.nil
          go_simp
          refine hK.out _ _ (TT _) (fun _ => ?_)
          clear hK K
          refine wpAnyH_ready (rs := [5]) (by kernel_rfl) (by simp) ?_
          refine AllReadyH.cons rfl (fun K hK => ?_) AllReadyH.nil
          go_simp
          refine (K30.out _ HPd.out).mono ?_
          rintro e W6 ⟨hR, hb6⟩
          cases hlr : lineS firstAt st ln with
          | some st' =>
            rw [hlr] at hR
            obtain ⟨v, rfl, b, b', d, d', rfl, hr1, hr2⟩ := hR
            have HP7 := hide (HPd.out.put hb6 hr1 hr2)
            have HK7 : Hid (k + 1 ≤ i + 1 ∧ st'.1.length ≤ i + 1 ∧ st'.2.length ≤ i + 1) := hide (by have h1 := line_len hlr; have h2 := HK.out; have h3 := HP.out.hn; have h4 := HP.out.hm; omega)
            obtain ⟨_, _, ⟨g2, g3⟩, gf2, gf3⟩ := (HPd.out.keep hb6).cells
            clear hr1 hr2 hb6 k0 k1 kf0 kf1 k2 k3 kf2 kf3
            refine hK.out _ _ (TT _) (fun _ => ?_)
            clear hK K
            refine wpAnyH_ready (rs := [6]) (by kernel_rfl) (by simp) ?_
            refine AllReadyH.cons rfl (fun K hK => ?_) AllReadyH.nil
            go_simp
            refine hK.out _ _ (TT _) (fun _ => ?_)
            clear hK K
            refine wpAnyH_take (i := 7) (v := (.agg #[.slice b st'.1.length d, .slice b' st'.2.length d'])) rfl (by kernel_rfl) (by kernel_rfl) (by kernel_rfl) (fun _ _ _ h => h) (Or.inl ⟨by rfl, fun W' hW => by go_simp⟩) (TT _) ?_
            refine wpAnyH_take (i := 8) (v := .bool true) rfl (by kernel_rfl) (by kernel_rfl) (by kernel_rfl) (fun _ _ _ h => h) (Or.inl ⟨by rfl, fun W' hW => by go_simp⟩) (TT _) ?_
            refine wpAnyH_ready (rs := [9]) (by kernel_rfl) (by simp) ?_
            refine AllReadyH.cons rfl (fun K hK => ?_) AllReadyH.nil
            go_simp
            refine hK.out _ _ (TT _) (fun _ => ?_)
            clear hK K
            refine wpAnyH_ready (rs := [10]) (by kernel_rfl) (by simp) ?_
            refine AllReadyH.cons rfl (fun K hK => ?_) AllReadyH.nil
            go_simp
            refine hK.out _ _ (TT _) (fun _ => ?_)
            clear hK K
            refine wpAnyH_done (by kernel_rfl) ?_ _
            have HI : Hid ((i + 1 ≤ text.size → i + 1 ≤ i + 1 ∧ linesS firstAt 0 ([], []) (pieces 10 text) = linesS firstAt (k + 1) st' ((cutL 10 (text.data.toList.drop (i + 1))).map str) ∧ ∀ j, i + 1 ≤ j → j < i + 1 → text.data.toList[j]? ≠ some 10) ∧ (text.size < i + 1 → linesS firstAt 0 ([], []) (pieces 10 text) = .inl st')) := hide ⟨fun _ => ⟨by omega, by rw [Hl1.out, hlr], fun j h1 h2 => by omega⟩, fun h => by omega⟩
            go_wp2_with fail
            go_roundw
            case rel => exact ⟨i + 1, i + 1, k + 1, st', b, b', d, d', _, _, by omega, by go_num, by go_num, by go_num, HP7, HK7, HI⟩
            case measure => first | (simp [intOf]; done) | (simp [intOf]; omega)
          | none =>
            rw [hlr] at hR
            obtain ⟨b, n', d, b', m', d', rfl⟩ := hR
            have HP6 := hide (HPd.out.keep hb6)
            obtain ⟨_, _, ⟨g2, g3⟩, gf2, gf3⟩ := HP6.out.cells
            obtain ⟨⟨o0, o1⟩, ⟨o2, o3⟩, ⟨o4, o5⟩, ob⟩ := HP6.out.bad (.slice b n' d) (.slice b' m' d')
            have HOB := hide ob
            have HE : Hid (PS = (([], []), k + 1, 60)) := hide (by rw [pS.out, Hl1.out, hlr])
            clear hb6 ob k0 k1 kf0 kf1 k2 k3 kf2 kf3
            refine hK.out _ _ (TT _) (fun _ => ?_)
            clear hK K
            refine wpAnyH_ready (rs := [6]) (by kernel_rfl) (by simp) ?_
            refine AllReadyH.cons rfl (fun K hK => ?_) AllReadyH.nil
            go_simp
            refine hK.out _ _ (TT _) (fun _ => ?_)
            clear hK K
            refine wpAnyH_take (i := 7) (v := (.agg #[.slice b n' d, .slice b' m' d'])) rfl (by kernel_rfl) (by kernel_rfl) (by kernel_rfl) (fun _ _ _ h => h) (Or.inl ⟨by rfl, fun W' hW => by go_simp⟩) (TT _) ?_
            refine wpAnyH_take (i := 8) (v := .bool false) rfl (by kernel_rfl) (by kernel_rfl) (by kernel_rfl) (fun _ _ _ h => h) (Or.inl ⟨by rfl, fun W' hW => by go_simp⟩) (TT _) ?_
            refine wpAnyH_ready (rs := [9]) (by kernel_rfl) (by simp) ?_
            refine AllReadyH.cons rfl (fun K hK => ?_) AllReadyH.nil
            go_simp
            refine hK.out _ _ (TT _) (fun _ => ?_)
            clear hK K
            refine wpAnyH_ready (rs := [10]) (by kernel_rfl) (by simp) ?_
            refine AllReadyH.cons rfl (fun K hK => ?_) AllReadyH.nil
            go_simp
            refine hK.out _ _ (TT _) (fun _ => ?_)
            clear hK K
            refine wpAnyH_done (by kernel_rfl) ?_ _
            go_wp2_with fail
            refine bodyPost_ret (v := .tuple #[.agg #[.slice none 0 0, .slice none 0 0], .int .i64 ((k + 1 : Nat) : Int), .int .i64 60]) (by simp [results, Tryd.results17, go_sem, o4, o5]) rfl ?_
            refine ⟨?_, HOB.out⟩
            rw [HE.out]
            exact ⟨none, 0, none, 0, rfl, .inl ⟨rfl, rfl⟩, .inl ⟨rfl, rfl⟩⟩
        · have e32 : ((byteAt text i : Int) != 10) = true := bne_iff_ne.2 (fun e => hb (hbl.1 (by show byteAt text i = 10; omega)))
          have HI : Hid ((i + 1 ≤ text.size → f ≤ i + 1 ∧ linesS firstAt 0 ([], []) (pieces 10 text) = linesS firstAt k st ((cutL 10 (text.data.toList.drop f)).map str) ∧ ∀ j, f ≤ j → j < i + 1 → text.data.toList[j]? ≠ some 10) ∧ (text.size < i + 1 → linesS firstAt 0 ([], []) (pieces 10 text) = .inl st)) := hide ⟨fun _ => ⟨by omega, hc, fun j h1 h2 => by
            rcases Nat.lt_or_ge j i with h | h
            · exact hno j h1 h
            · obtain rfl : j = i := by omega
              exact hb⟩, fun h => by omega⟩
          have HK3 : Hid (k ≤ i + 1 ∧ n ≤ i + 1 ∧ m ≤ i + 1) := hide (by have := HK.out; omega)
          generalize byteAt text i = bb at *
          clear hf hc hno dn HX hbl hb
          go_wp2_with fail
          go_roundw
          case rel => exact ⟨i + 1, f, k, st, a, a', c, c', n, m, by omega, rfl, rfl, by go_num, HP, HK3, HI⟩
          case measure => first | (simp [intOf]; done) | (simp [intOf]; omega)
    · obtain rfl : i = text.size + 1 := by omega
      obtain ⟨I, hI⟩ : ∃ I : Int, ((text.size + 1 : Nat) : Int) = I := ⟨_, rfl⟩
      rw [hI]
      have j1 : ¬ I ≤ (text.size : Int) := by omega
      clear hI hkk hi hle
      have HE : Hid (PS = if good st.1 st.2 = true then (st, 0, 0) else (([], []), 0, 61)) := hide (by rw [pS.out, HX.out.2 (by omega)])
      obtain ⟨⟨k0, k1⟩, ⟨kf0, kf1⟩, ⟨k2, k3⟩, _, _⟩ := HP.out.cells
      have K10 : Hid (Calls Tryd.prog 10 #[.agg #[.slice a n c, .slice a' m c']] wr fun e w' => e = .returned (.bool (good st.1 st.2)) ∧ Below wr.heap.size wr w') := hide (by
        have h := HP.out
        have := rgood_any a a' c c' st.1 st.2 wr (by rw [h.hn]; exact h.rn) (by rw [h.hm]; exact h.re)
        rwa [h.hn, h.hm] at this)
      have Hpn := hide (And.intro HP.out.hn HP.out.hm)
      cases hg : good st.1 st.2 with
      | true =>
        rw [hg] at K10 HE
        clear hg
        go_wp2_with (go_at_call 10; refine (K10.out).mono ?_; rintro e W9 ⟨rfl, hb9⟩
                     have HP9 := hide (HP.out.keep hb9)
                     clear hb9 k0 k1 kf0 kf1 k2 k3
                     obtain ⟨⟨k0, k1⟩, ⟨kf0, kf1⟩, ⟨k2, k3⟩, _, _⟩ := HP9.out.cells
                     obtain ⟨⟨m0, m1⟩, mb, mr⟩ := HP9.out.out (.slice a n c) (.slice a' m c')
                     have HMB := hide mb
                     have HMR := hide (mr ⟨_, _, _, rfl⟩)
                     clear mb mr)
        refine bodyPost_ret (v := .tuple #[.agg #[.slice a n c, .slice a' m c'], .int .i64 0, .int .i64 0]) (by simp [results, Tryd.results17, go_sem, m0, m1]) rfl ?_
        refine ⟨?_, HMB.out⟩
        rw [HE.out]
        first
          | rw [if_pos trivial]
          | rw [if_pos rfl]
        exact ⟨a, c, a', c', by rw [HP.out.hn, HP.out.hm]; rfl, by rw [HP.out.hn]; exact HMR.out.1, by rw [HP.out.hm]; exact HMR.out.2⟩
      | false =>
        rw [hg] at K10 HE
        clear hg
        go_wp2_with (go_at_call 10; refine (K10.out).mono ?_; rintro e W9 ⟨rfl, hb9⟩
                     have HP9 := hide (HP.out.keep hb9)
                     clear hb9 k0 k1 kf0 kf1 k2 k3
                     obtain ⟨⟨k0, k1⟩, ⟨kf0, kf1⟩, ⟨k2, k3⟩, _, _⟩ := HP9.out.cells
                     obtain ⟨⟨m0, m1⟩, mb, _⟩ := HP9.out.out (.slice none 0 0) (.slice none 0 0)
                     have HMB := hide mb
                     clear mb)
        refine bodyPost_ret (v := .tuple #[.agg #[.slice none 0 0, .slice none 0 0], .int .i64 0, .int .i64 61]) (by simp [results, Tryd.results17, go_sem, m0, m1]) rfl ?_
        refine ⟨?_, HMB.out⟩
        rw [HE.out, if_neg (by simp)]
        exact ⟨none, 0, none, 0, rfl, .inl ⟨rfl, rfl⟩, .inl ⟨rfl, rfl⟩⟩
end Go.Proofs.YtpjolnaomdmnnaaDoor
