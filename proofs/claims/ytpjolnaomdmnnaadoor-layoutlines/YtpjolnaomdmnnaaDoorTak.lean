/- take: a line that is one, and one that is none. -/
import Derived.Test.YtpjolnaomdmnnaaDoorLin
namespace Go.Proofs.YtpjolnaomdmnnaaDoor
open Go.RowKit Go.Maps Go.ChangeMaps
set_option linter.unusedVariables false

theorem takeNode_any {w : World} {h : Hd} {vN vE : Value} {st : St} (K : Kept w h vN vE st) (aw : Option Addr) (n cw : Nat) (ws : List ByteArray) (hn : ws.length = n) (hw : strE.Rd w (.slice aw n cw) ws) (hsz : ∀ x ∈ ws, x.size ≤ 100000) :
    Calls Tryd.prog 43 #[.pointer (some ⟨h.g, 0, none⟩), .slice aw n cw] w fun e w' => ∃ ok, e = .returned (.bool ok) ∧ ((ok = true ∧ ∃ nd vN', nodeS ws = some nd ∧ Rdr w' h vN' vE (st.1 ++ [nd], st.2)) ∨ (ok = false ∧ nodeS ws = none)) ∧ Chg h w w' := by
  subst hn
  cases hx : nodeS ws with
  | none =>
    refine (takeNode_no _ w K.l aw cw ws hw hx).mono ?_
    rintro e w' ⟨rfl, hb⟩
    exact ⟨_, rfl, .inr ⟨rfl, rfl⟩, Chg.of K.b hb⟩
  | some nd =>
    refine (takeNode_yes K.r K.b K.l (by have := K.n1; omega) aw cw ws hw hsz nd hx).mono ?_
    rintro e w' ⟨rfl, ⟨v, hr⟩, hc⟩
    exact ⟨_, rfl, .inl ⟨rfl, nd, v, rfl, hr⟩, hc⟩
theorem takeEdge_any {w : World} {h : Hd} {vN vE : Value} {st : St} (K : Kept w h vN vE st) (aw : Option Addr) (n cw : Nat) (ws : List ByteArray) (hn : ws.length = n) (hw : strE.Rd w (.slice aw n cw) ws) (hsz : ∀ x ∈ ws, x.size ≤ 100000) :
    Calls Tryd.prog 44 #[.pointer (some ⟨h.g, 0, none⟩), .slice aw n cw] w fun e w' => ∃ ok, e = .returned (.bool ok) ∧ ((ok = true ∧ ∃ ed vE', edgeS (lastAt st.1) ws = some ed ∧ Rdr w' h vN vE' (st.1, st.2 ++ [ed])) ∨ (ok = false ∧ edgeS (lastAt st.1) ws = none)) ∧ Chg h w w' := by
  subst hn
  cases hx : edgeS (lastAt st.1) ws with
  | none =>
    refine (takeEdge_no K.r aw cw ws hw hsz hx).mono ?_
    rintro e w' ⟨rfl, hb⟩
    exact ⟨_, rfl, .inr ⟨rfl, rfl⟩, Chg.of K.b hb⟩
  | some ed =>
    refine (takeEdge_yes K.r K.b (by have := K.n2; omega) aw cw ws hw hsz ed hx).mono ?_
    rintro e w' ⟨rfl, ⟨v, hr⟩, hc⟩
    exact ⟨_, rfl, .inl ⟨rfl, ed, v, rfl, hr⟩, hc⟩
theorem Kept.keep {w w' : World} {h : Hd} {vN vE : Value} {st : St} (K : Kept w h vN vE st) (hb : Below w.heap.size w w') : Kept w' h vN vE st :=
  ⟨K.r.keep hb, K.l.keep K.l.size hb, Nat.le_trans K.b hb.size, K.b5, K.n1, K.n2⟩
theorem tail_rd {W : World} {B g n : Nat} {w0 : ByteArray} {ws : List ByteArray} (hn : ws.length = n) (ho : strE.Own W B (.slice (some ⟨g, 0, none⟩) (n + 1) (n + 1)) (w0 :: ws)) : strE.Rd W (.slice (some ⟨g, 1, none⟩) n n) ws := by
  have := El.Rd.drop (cap' := n) ho.rd 1 n (by simp [hn]) (by simp)
  simpa [strE] using this
theorem nil_rd (W : World) (x : Addr) (c : Nat) : strE.Rd W (.slice (some x) 0 c) [] := .inr ⟨x, c, rfl, fun i hi => by simp at hi⟩

set_option maxRecDepth 100000 in
set_option maxHeartbeats 2000000 in
theorem take_line {w : World} {h : Hd} {vN vE : Value} {st : St} (K : Kept w h vN vE st) (l : ByteArray) (hl : l.size ≤ 5000) (hs : skipS l = false) :
    Calls Tryd.prog 29 #[.pointer (some ⟨h.g, 0, none⟩), .string l] w fun e w' => (∃ st', lineS lastAt st l = some st' ∧ e = .returned (.bool true) ∧ (∃ vN' vE', Rdr w' h vN' vE' st') ∧ Chg h w w') ∨ (lineS lastAt st l = none ∧ e = .returned (.bool false) ∧ Chg h w w') := by
  have K42 := hide (fun W => Tryd.strings_HasPrefix l ⟨#[35]⟩ W)
  have e1 := eq_empty l
  have e2 : Lib.hasPrefix l.data.toList [35] = (decide (l.size ≠ 0) && decide (byteAt l 0 = 35)) := hasPrefix_hash l
  have hls : lineS lastAt st l = (match pieces 32 l with
    | w :: ws => if w = nodeWd then (nodeS ws).map (fun n => (st.1 ++ [n], st.2)) else if w = edgeWd then (edgeS (lastAt st.1) ws).map (fun e => (st.1, st.2 ++ [e])) else none
    | [] => none) := by unfold lineS; rw [hs]; rfl
  rw [hls]
  clear hls
  have hs' := hs
  unfold skipS at hs
  rw [Bool.or_eq_false_iff] at hs
  rw [hs.1] at e1
  rw [hs.2, Bool.and_false] at e2
  have K28 := hide (split_any 32 l ⟨#[32]⟩ rfl w (by omega) K.l.m)
  have hps : Hid (∀ x ∈ pieces 32 l, x.size ≤ 100000) := hide (fun x hx => by
    unfold pieces at hx
    obtain ⟨y, hy, rfl⟩ := List.mem_map.1 hx
    have := piece_small 32 _ y hy
    have hb2 : l.data.toList.length = l.size := rfl
    rw [str_size]; omega)
  have hne : pieces 32 l ≠ [] := by unfold pieces; intro e; exact cutL_ne 32 l.data.toList (List.map_eq_nil_iff.1 e)
  generalize pieces 32 l = ps at *
  match ps, hne with
  | w0 :: ws, _ =>
  obtain ⟨n, hn⟩ : ∃ n, ws.length = n := ⟨_, rfl⟩
  have hn2 : (w0 :: ws).length = n + 1 := by simp [hn]
  rw [hn2] at K28
  have HK := hide K
  have Hn := hide hn
  clear hs hs' hne hn hn2 hl K
  simp only
  have X : Hid (∀ W, strE.Own W w.heap.size (.slice (some ⟨w.heap.size, 0, none⟩) (n + 1) (n + 1)) (w0 :: ws) → W.cell? ⟨w.heap.size, 0, none⟩ = some (.string w0)) := hide (fun W ho => by
    obtain ⟨b, off, e, hx⟩ := cell_of_get ho.rd 0 w0 rfl
    cases e
    exact hx)
  have hpw : Hid (∀ x ∈ ws, x.size ≤ 100000) := hide (fun x hx => hps.out x (by simp [hx]))
  have nw : nodeWd.toList = [110, 111, 100, 101] := by rw [ByteArray.toList_eq]; rfl
  have ew : edgeWd.toList = [101, 100, 103, 101] := by rw [ByteArray.toList_eq]; rfl
  have ee := eq_bytes w0 nodeWd
  have ff := eq_bytes w0 edgeWd
  rw [nw] at ee
  rw [ew] at ff
  clear nw ew hps
  by_cases c1 : w0 = nodeWd
  · rw [decide_eq_true c1] at ee
    rw [if_pos c1]
    clear c1 ff
    by_cases hn0 : n = 0
    · subst hn0
      obtain rfl : ws = [] := List.eq_nil_of_length_eq_zero Hn.out
      go_enter Tryd.func29, Tryd.ntmps29
      go_wp2_with (first
        | (go_at_call 42; refine (K42.out _).mono ?_; rintro e W1 ⟨rfl, rfl⟩; simp only [e2])
        | (go_at_call 28; refine (K28.out).mono ?_; rintro e W2 ⟨rfl, ho2, hb2⟩; have y0 := X.out _ ho2; have Ho2 := hide ho2; have Hb2 := hide hb2; clear ho2 hb2)
        | (go_at_call 43; refine (takeNode_any (HK.out.keep Hb2.out) _ _ _ [] Hn.out (nil_rd _ _ _) hpw.out).mono ?_; rintro e W3 ⟨ok, rfl, hp, hc⟩; have hP := hide hp; have HC := hide hc; clear hp hc; refine Hid.out ?_))
      refine hide ?_
      rcases hP.out with ⟨rfl, nd, vN', h1, h2⟩ | ⟨rfl, h1⟩
      · have HR := hide h2
        have H1 := hide h1
        clear h1 h2 hP
        go_wp2_with fail
        go_ret
        exact .inl ⟨_, by rw [H1.out]; rfl, rfl, ⟨_, _, HR.out⟩, (Chg.of HK.out.b Hb2.out).trans HC.out⟩
      · have H1 := hide h1
        clear h1 hP
        go_wp2_with fail
        go_ret
        exact .inr ⟨by rw [H1.out]; rfl, rfl, (Chg.of HK.out.b Hb2.out).trans HC.out⟩
    · obtain ⟨n', rfl⟩ : ∃ n', n = n' + 1 := ⟨n - 1, by omega⟩
      clear hn0
      go_enter Tryd.func29, Tryd.ntmps29
      go_wp2_with (first
        | (go_at_call 42; refine (K42.out _).mono ?_; rintro e W1 ⟨rfl, rfl⟩; simp only [e2])
        | (go_at_call 28; refine (K28.out).mono ?_; rintro e W2 ⟨rfl, ho2, hb2⟩; have y0 := X.out _ ho2; have Ho2 := hide ho2; have Hb2 := hide hb2; clear ho2 hb2)
        | (go_at_call 43; refine (takeNode_any (HK.out.keep Hb2.out) _ _ _ ws Hn.out (tail_rd Hn.out Ho2.out) hpw.out).mono ?_; rintro e W3 ⟨ok, rfl, hp, hc⟩; have hP := hide hp; have HC := hide hc; clear hp hc; refine Hid.out ?_))
      refine hide ?_
      rcases hP.out with ⟨rfl, nd, vN', h1, h2⟩ | ⟨rfl, h1⟩
      · have HR := hide h2
        have H1 := hide h1
        clear h1 h2 hP
        go_wp2_with fail
        go_ret
        exact .inl ⟨_, by rw [H1.out]; rfl, rfl, ⟨_, _, HR.out⟩, (Chg.of HK.out.b Hb2.out).trans HC.out⟩
      · have H1 := hide h1
        clear h1 hP
        go_wp2_with fail
        go_ret
        exact .inr ⟨by rw [H1.out]; rfl, rfl, (Chg.of HK.out.b Hb2.out).trans HC.out⟩
  · rw [decide_eq_false c1] at ee
    rw [if_neg c1]
    clear c1
    by_cases c2 : w0 = edgeWd
    · rw [decide_eq_true c2] at ff
      rw [if_pos c2]
      clear c2
      by_cases hn0 : n = 0
      · subst hn0
        obtain rfl : ws = [] := List.eq_nil_of_length_eq_zero Hn.out
        go_enter Tryd.func29, Tryd.ntmps29
        go_wp2_with (first
          | (go_at_call 42; refine (K42.out _).mono ?_; rintro e W1 ⟨rfl, rfl⟩; simp only [e2])
          | (go_at_call 28; refine (K28.out).mono ?_; rintro e W2 ⟨rfl, ho2, hb2⟩; have y0 := X.out _ ho2; have Ho2 := hide ho2; have Hb2 := hide hb2; clear ho2 hb2)
          | (go_at_call 44; refine (takeEdge_any (HK.out.keep Hb2.out) _ _ _ [] Hn.out (nil_rd _ _ _) hpw.out).mono ?_; rintro e W3 ⟨ok, rfl, hp, hc⟩; have hP := hide hp; have HC := hide hc; clear hp hc; refine Hid.out ?_))
        refine hide ?_
        rcases hP.out with ⟨rfl, ed, vE', h1, h2⟩ | ⟨rfl, h1⟩
        · have HR := hide h2
          have H1 := hide h1
          clear h1 h2 hP
          go_wp2_with fail
          go_ret
          exact .inl ⟨_, by rw [H1.out]; rfl, rfl, ⟨_, _, HR.out⟩, (Chg.of HK.out.b Hb2.out).trans HC.out⟩
        · have H1 := hide h1
          clear h1 hP
          go_wp2_with fail
          go_ret
          exact .inr ⟨by rw [H1.out]; rfl, rfl, (Chg.of HK.out.b Hb2.out).trans HC.out⟩
      · obtain ⟨n', rfl⟩ : ∃ n', n = n' + 1 := ⟨n - 1, by omega⟩
        clear hn0
        go_enter Tryd.func29, Tryd.ntmps29
        go_wp2_with (first
          | (go_at_call 42; refine (K42.out _).mono ?_; rintro e W1 ⟨rfl, rfl⟩; simp only [e2])
          | (go_at_call 28; refine (K28.out).mono ?_; rintro e W2 ⟨rfl, ho2, hb2⟩; have y0 := X.out _ ho2; have Ho2 := hide ho2; have Hb2 := hide hb2; clear ho2 hb2)
          | (go_at_call 44; refine (takeEdge_any (HK.out.keep Hb2.out) _ _ _ ws Hn.out (tail_rd Hn.out Ho2.out) hpw.out).mono ?_; rintro e W3 ⟨ok, rfl, hp, hc⟩; have hP := hide hp; have HC := hide hc; clear hp hc; refine Hid.out ?_))
        refine hide ?_
        rcases hP.out with ⟨rfl, ed, vE', h1, h2⟩ | ⟨rfl, h1⟩
        · have HR := hide h2
          have H1 := hide h1
          clear h1 h2 hP
          go_wp2_with fail
          go_ret
          exact .inl ⟨_, by rw [H1.out]; rfl, rfl, ⟨_, _, HR.out⟩, (Chg.of HK.out.b Hb2.out).trans HC.out⟩
        · have H1 := hide h1
          clear h1 hP
          go_wp2_with fail
          go_ret
          exact .inr ⟨by rw [H1.out]; rfl, rfl, (Chg.of HK.out.b Hb2.out).trans HC.out⟩
    · rw [decide_eq_false c2] at ff
      rw [if_neg c2]
      clear c2
      go_enter Tryd.func29, Tryd.ntmps29
      go_wp2_with (first
        | (go_at_call 42; refine (K42.out _).mono ?_; rintro e W1 ⟨rfl, rfl⟩; simp only [e2])
        | (go_at_call 28; refine (K28.out).mono ?_; rintro e W2 ⟨rfl, ho2, hb2⟩; have y0 := X.out _ ho2; have Ho2 := hide ho2; have Hb2 := hide hb2; clear ho2 hb2))
      go_ret
      exact .inr ⟨by first | rfl | trivial, by first | rfl | trivial, Chg.of HK.out.b Hb2.out⟩
end Go.Proofs.YtpjolnaomdmnnaaDoor
