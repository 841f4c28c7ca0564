/- For every two numbers and every slice of calls the law IntakePlays answers true: whatever comes and whenever something is got, an intake answers as the document's does; no conditions. -/
import Derived.Test.YtmbgcbbpkbaajaaBig
import Derived.Test.YtmbgcbbpkbaajaaTells
namespace Go.Proofs.Ytmbgcbbpkbaajaa.intakePlays
open Go.ChangeShapes Go.WideShapes Go.ChangeAt Go.RowKit
set_option linter.unusedVariables false

theorem own : ownKnob Try.prog.godebug = none := by kernel_rfl
theorem laidOut : laidOutB Try.prog = true := by kernel_rfl

/-- one of the calls that came in -/
theorem ops_at {w : World} {a : Option Addr} {len : Nat} {os : List (Bool × Int × List Int)} (h : IsOps2 w a len os) (i : Nat) (hi : i < len) : ∃ g s l b off a' cap', a = some ⟨b, off, none⟩ ∧ b < w.heap.size ∧ (0 ≤ s ∧ s ≤ 65535) ∧ w.cell? ⟨b, off + i * 3, none⟩ = some (.bool g) ∧ w.cell? ⟨b, off + i * 3 + 1, none⟩ = some (.int .u16 s) ∧ w.cell? ⟨b, off + i * 3 + 2, none⟩ = some (.slice a' (l : List Int).length cap') ∧ bytesE.Rd w (.slice a' l.length cap') l ∧ l.length ≤ 140737488355328 := by
  have hi' : i < os.length := by rw [h.1.1]; exact hi
  obtain ⟨hs, b, off, v, h1, h2, h3, h4, h5, a', cap', rfl, hr, hl, hc⟩ := h.1.2 i (os[i]) (List.getElem?_eq_getElem hi')
  exact ⟨_, _, _, b, off, a', cap', h1, h2, hs, h3, h4, h5, hr, h.2 i _ (List.getElem?_eq_getElem hi')⟩

structure Inv (w : World) (h : Hd) (bm : Nat) (wr : World) (k : Nat) (S : Ik) (came : List Pc) (queue : List ByteArray) (ac aq : Option Addr) (cc cq : Nat) : Prop where
  has : Has wr h S
  inw : S.Inw
  n : S.n ≤ k
  q : (S.q.length : Int) ≤ 2 * S.win - 1
  rel : Rel S came queue
  cl : came.length ≤ k
  box : wr.heap[bm]? = some (boxOf S.win S.nx (.slice ac came.length cc) (.slice aq queue.length cq))
  rc : piecesE.Rd wr (.slice ac came.length cc) came
  rq : strsE.Rd wr (.slice aq queue.length cq) queue
  cap : queue.length ≤ cq
  bel : Below w.heap.size w wr

/-- the object stays while a block that is none of its three, nor one of bytes, is written -/
theorem has_far {w w' : World} {h : Hd} {S : Ik} (H : Has w h S) (h1 : w'.heap[h.g]? = w.heap[h.g]?) (h2 : w'.heap[h.mb]? = w.heap[h.mb]?) (h3 : w'.heap[h.c]? = w.heap[h.c]?) (h4 : ∀ (k : Nat) (cur : Array Value), w.heap[k]? = some (Obj.cells cur 5) → w'.heap[k]? = w.heap[k]?) : Has w' h S where
  win := H.win
  nx := H.nx
  box := by rw [h1]; exact H.box
  map := by
    obtain ⟨D, ⟨es, clock, hb, hr⟩, hM⟩ := H.map
    exact ⟨D, ⟨es, clock, by rw [h2]; exact hb, hr⟩, hM.stay fun g cur hc _ => h4 g cur hc⟩
  chan := by
    obtain ⟨buf, s, r, hc, hq⟩ := H.chan
    exact ⟨buf, s, r, by rw [h3]; exact hc, hq.stay fun g cur hc _ => h4 g cur hc⟩
theorem has_box {w : World} {h : Hd} {S : Ik} (H : Has w h S) {b i : Nat} {u : Value} {C : Array Value} (hb : w.heap[b]? = some (.cells C 32)) (h1 : b ≠ h.g ∧ b ≠ h.mb ∧ b ≠ h.c) : Has (w.setCell ⟨b, i, none⟩ u) h S := by
  refine has_far H (Below.heap_setCell _ _ _ _ h1.1.symm) (Below.heap_setCell _ _ _ _ h1.2.1.symm) (Below.heap_setCell _ _ _ _ h1.2.2.symm) (fun k cur hk => Below.heap_setCell _ _ _ _ (fun e => ?_))
  have e' : k = b := e
  subst e'
  rw [hb] at hk
  cases hk

theorem rel_get {S : Ik} {came : List Pc} {queue : List ByteArray} (h : Rel S came queue) {p : Dt} {r : List Dt} (hq : S.q = p :: r) : ∃ qs, queue = str p.2 :: qs ∧ Rel { S with q := r } came qs := by
  have e := h.q
  rw [hq, List.map_cons] at e
  exact ⟨_, e, { q := rfl, nod := h.nod, rng := h.rng, fwd := h.fwd, bwd := h.bwd }⟩

set_option maxHeartbeats 4000000 in
set_option maxRecDepth 100000 in
theorem walk (n0 n1 : Int) (a2 : Option Addr) (len2 cap2 : Nat) (ls2 : List (Bool × Int × List Int)) (w : World) (h0 : -9223372036854775808 ≤ n0 ∧ n0 ≤ 9223372036854775807) (h1 : 0 ≤ n1 ∧ n1 ≤ 65535) (h2 : IsOps2 w a2 len2 ls2) (s2 : len2 ≤ maxLen) :
    Calls Try.prog 3 #[.int .i64 n0, .int .u16 n1, .slice a2 len2 cap2] w fun e w' => e = .returned (.bool true) ∧ Below w.heap.size w w' := by
  obtain ⟨f0, f1⟩ := h1
  have hl : len2 ≤ 9223372036854775807 := by unfold maxLen at s2; omega
  have H2 := hide h2
  clear h0 h2 s2
  have j0 : (len2 : Int) ≤ 9223372036854775807 := by omega
  by_cases hwin : 1 ≤ n0 ∧ n0 ≤ 64
  · obtain ⟨i0, i1⟩ := hwin
    go_enter Try.func3, Try.ntmps3
    go_upto_region 3 with (go_at_call 9; refine (awake_any _).mono ?_; rintro e wa ⟨rfl, Ba⟩)
    obtain ⟨g0, gg1, gg2⟩ := hd_ge wa.heap.size
    go_upto_region 8 with (go_at_call 10; refine (new_ok n0 n1 _ (by omega) (by omega) (by omega) (by omega)).mono ?_; rintro e w1 ⟨rfl, I1, B1, Z1⟩)
    obtain ⟨h, hh⟩ : ∃ h, hdAt wa.heap.size = h := ⟨_, rfl⟩
    have hg : wa.heap.size + 2 = h.g := by rw [← hh]; rfl
    have hlt1 : h.g < w1.heap.size ∧ h.mb < w1.heap.size ∧ h.c < w1.heap.size := by rw [← hh, Z1]; simp [hdAt]
    rw [hh] at I1 g0 gg1 gg2
    rw [hg]
    have q0 : w.heap.size ≤ h.g := Nat.le_trans Ba.size g0
    have q1 : w.heap.size ≤ h.mb := Nat.le_trans Ba.size gg1
    have q2 : w.heap.size ≤ h.c := Nat.le_trans Ba.size gg2
    have HB1 := hide (Ba.trans (B1.mono Ba.size))
    have HH1 := hide I1
    clear I1 B1 Z1 Ba hh hg g0 gg1 gg2
    go_upto_region 10 with fail
    obtain ⟨bm, hbm⟩ : ∃ bm, w1.heap.size = bm := ⟨_, rfl⟩
    have HI0 : Hid (Inv w h bm (w1.alloc (boxOf n0 n1 (.slice none 0 0) (.slice none 0 0))) 0 (Ik.new n0 n1) [] [] none none 0 0) := hide (by
      have hb := (Below.refl w1.heap.size w1).alloc (Nat.le_refl _) (boxOf n0 n1 (.slice none 0 0) (.slice none 0 0))
      exact { has := HH1.out.keep hb, inw := fun x _ _ hx => absurd rfl hx, n := Nat.le_refl _, q := by simp [Ik.new]; omega, rel := rel_new n0 n1, cl := Nat.le_refl _,
              box := by rw [← hbm]; show (w1.heap.push _)[w1.heap.size]? = _; simp [Ik.new]
              rc := .inl ⟨rfl, rfl⟩, rq := .inl ⟨rfl, rfl⟩, cap := Nat.le_refl _, bel := HB1.out.alloc HB1.out.size _ })
    have hbm0 : w.heap.size ≤ bm := by rw [← hbm]; exact HB1.out.size
    have hbm1 : bm ≠ h.g ∧ bm ≠ h.mb ∧ bm ≠ h.c := by omega
    rw [hbm]
    unfold boxOf at HI0
    generalize w1.alloc (Obj.cells #[.int .i64 n0, .int .u16 n1, .slice none 0 0, .slice none 0 0] 32) = W0 at *
    clear HH1 HB1 hlt1 hbm
    go_loopw [10] (fun v10 wr => ∃ (k : Nat) (S : Ik) (came : List Pc) (queue : List ByteArray) (ac aq : Option Addr) (cc cq : Nat), k ≤ 200 ∧ k ≤ len2 ∧ v10 = .int .i64 (k : Int) ∧ S.win = n0 ∧ Hid (Inv w h bm wr k S came queue ac aq cc cq)) (fun v10 _ => (200 - intOf v10).toNat)
    case atStart => exact ⟨0, _, _, _, _, _, _, _, by omega, by omega, rfl, rfl, HI0⟩
    case round =>
      clear HI0
      obtain ⟨k, S, came, queue, ac, aq, cc, cq, k2, kl, rfl, hSw, HI⟩ := hrel
      have HSw := hide hSw
      clear hSw
      have kk : (k : Int) ≤ 200 := by omega
      have kk0 : (0 : Int) ≤ (k : Int) := by omega
      by_cases hend : k < len2 ∧ k < 200
      · have j3 : (k : Int) < (len2 : Int) := by omega
        have j4 : (k : Int) < 200 := by omega
        obtain ⟨g, x, l, b2, off2, a', cap', rfl, hb2, ⟨x0, x1⟩, e0, e1, e2, hrd, hll⟩ := ops_at H2.out k hend.1
        have c0 : wr.cell? ⟨b2, off2 + k * 3, none⟩ = some (.bool g) := by rw [HI.out.bel.cell hb2]; exact e0
        have c1 : wr.cell? ⟨b2, off2 + k * 3 + 1, none⟩ = some (.int .u16 x) := by rw [HI.out.bel.cell hb2]; exact e1
        have c2 : wr.cell? ⟨b2, off2 + k * 3 + 2, none⟩ = some (.slice a' l.length cap') := by rw [HI.out.bel.cell hb2]; exact e2
        have HRd := hide (fun W (hW : Below w.heap.size w W) => hrd.keep hW)
        clear e0 e1 e2 hrd
        go_upto_region 13 with fail
        have hbA := (Below.refl wr.heap.size wr).alloc (Nat.le_refl _) (Obj.cells #[.bool g, .int .u16 x, .slice a' l.length cap'] 35)
        have hbo : (wr.alloc (Obj.cells #[.bool g, .int .u16 x, .slice a' l.length cap'] 35)).heap[wr.heap.size]? = some (.cells #[.bool g, .int .u16 x, .slice a' l.length cap'] 35) := by
          show (wr.heap.push _)[wr.heap.size]? = _
          simp
        have hbmlt : bm < wr.heap.size := heap_lt HI.out.box
        have hgo : wr.heap.size ≠ h.g ∧ wr.heap.size ≠ h.mb ∧ wr.heap.size ≠ h.c ∧ wr.heap.size ≠ bm := by
          have a1 := heap_lt HI.out.has.box
          obtain ⟨D, ⟨es, clock, hb', _⟩, _⟩ := HI.out.has.map
          have a2 := heap_lt hb'
          obtain ⟨buf, s', r', hc', _⟩ := HI.out.has.chan
          have a3 := heap_lt hc'
          omega
        have HI1 : Hid (Inv w h bm (wr.alloc (Obj.cells #[.bool g, .int .u16 x, .slice a' l.length cap'] 35)) k S came queue ac aq cc cq) := hide
          { has := HI.out.has.keep hbA, inw := HI.out.inw, n := HI.out.n, q := HI.out.q, rel := HI.out.rel, cl := HI.out.cl, box := by rw [hbA.block _ hbmlt]; exact HI.out.box, rc := HI.out.rc.keep hbA, rq := HI.out.rq.keep hbA, cap := HI.out.cap, bel := HI.out.bel.alloc HI.out.bel.size _ }
        obtain ⟨bo, hboe⟩ : ∃ bo, wr.heap.size = bo := ⟨_, rfl⟩
        rw [hboe] at hbo hgo ⊢
        have Hbo := hide hbo
        generalize wr.alloc (Obj.cells #[.bool g, .int .u16 x, .slice a' l.length cap'] 35) = W1 at *
        have o0 := (cells_of hbo 0).1
        have o1 := (cells_of hbo 1).1
        have o2 := (cells_of hbo 2).1
        simp at o0 o1 o2
        clear hbA hbo hbmlt c0 c1 c2 HI hboe
        cases g with
        | true =>
          cases hq : S.q with
          | nil =>
            have hqe : queue = [] := by rw [HI1.out.rel.q, hq]; rfl
            subst hqe
            have K11 := hide (get_none HI1.out.has hq)
            have d3 := (cells_of HI1.out.box 3).1
            simp at d3
            go_wp2_with (go_at_call 11; refine K11.out.mono ?_; rintro e w5 ⟨rfl, rfl⟩)
            go_roundw
            case rel => exact ⟨k + 1, S, came, [], ac, aq, cc, cq, by omega, by omega, by go_num, HSw.out, hide { HI1.out with n := Nat.le_succ_of_le HI1.out.n, cl := Nat.le_succ_of_le HI1.out.cl }⟩
            case measure => simp [intOf]; omega
          | cons p r =>
            obtain ⟨qs, hqs, hrel2⟩ := rel_get HI1.out.rel hq
            subst hqs
            have K11 := hide (get_some HI1.out.has hq)
            have hqn := HI1.out.q
            rw [hq] at hqn
            have hqm : qs.length = r.length := by rw [hrel2.q]; simp
            go_upto_region 15 with (go_at_call 11; refine K11.out.mono ?_; rintro e w5 ⟨v5, rfl, D5, H5, O5, Z5⟩)
            have hk := HI1.out.has.strKept O5
            have hbm5 : w5.heap[bm]? = some (boxOf S.win S.nx (.slice ac came.length cc) (.slice aq (str p.2 :: qs).length cq)) := by rw [O5.block bm (heap_lt HI1.out.box) hbm1.1 hbm1.2.1 hbm1.2.2]; exact HI1.out.box
            have rq5 := strs_stay HI1.out.rq hk
            have rc5 := pieces_stay HI1.out.rc hk
            have hb5 := O5.below HI1.out.bel HI1.out.bel.size q0 q1 q2
            have hcap := HI1.out.cap
            obtain ⟨bq, oq, rfl, hqc⟩ := rq5.at 0 (str p.2) rfl
            have d3 : w5.cell? ⟨bm, 3, none⟩ = some (.slice (some ⟨bq, oq, none⟩) (qs.length + 1) cq) := by have := (cells_of hbm5 3).1; simpa using this
            have d4 : w5.cell? ⟨bq, oq, none⟩ = some (.string (str p.2)) := by have := hqc 0 (by decide); rw [show oq + 0 * strsE.k + 0 = oq by omega] at this; exact this
            have d3f := (cells_of hbm5 3).2
            obtain ⟨a5, cap5, rfl⟩ := D5.1.rd.form
            have cv : ∀ q, (convert 33 9 (.slice a5 p.2.length cap5)).run Try.prog (w5.drewN q) = .ok (.string (str p.2)) (w5.drewN q) := fun q => conv_str (D5.1.rd.keep ⟨rfl, rfl, rfl, Nat.le_refl _, fun _ _ => rfl⟩)
            have Hqr : Hid ((r.length : Int) ≤ 2 * S.win - 1) := hide (by simp at hqn; omega)
            have ql0 : (0 : Int) ≤ (qs.length : Int) := by omega
            have ql1 : (qs.length : Int) ≤ 1000 := by have := HSw.out; simp at hqn; omega
            have hcap' : qs.length + 1 ≤ cq := by simpa using hcap
            have ql2 : (qs.length : Int) + 1 ≤ (cq : Int) := by omega
            have HH5 := hide H5
            have Hbm5 := hide hbm5
            have Hrq5 := hide rq5
            have Hrc5 := hide rc5
            have HB5 := hide hb5
            have Hrel2 := hide hrel2
            have HI2 := HI1
            clear H5 hbm5 rq5 rc5 hb5 hrel2 D5 O5 Z5 hk hqc hqm hq K11 hqn hcap
            go_upto_region 18 with fail
            go_quiet (fail)
            obtain ⟨ad, had⟩ : ∃ ad : Option Addr, (if cq = 1 then some (⟨bq, oq, none⟩ : Addr) else some ⟨bq, oq + 1, none⟩) = ad := ⟨_, rfl⟩
            have x3 : (w5.drewN nq).cell? ⟨bm, 3, none⟩ = some (.slice (some ⟨bq, oq, none⟩) (qs.length + 1) cq) := d3
            have x3f : (w5.drewN nq).frozen? ⟨bm, 3, none⟩ = false := d3f
            have HH6 : Hid (Has ((w5.drewN nq).setCell ⟨bm, 3, none⟩ (.slice ad qs.length (cq - 1))) h { S with q := r }) := hide (has_box (HH5.out.drewN nq) (show (w5.drewN nq).heap[bm]? = _ from Hbm5.out) hbm1)
            have Hbm6 : Hid (((w5.drewN nq).setCell ⟨bm, 3, none⟩ (.slice ad qs.length (cq - 1))).heap[bm]? = some (boxOf S.win S.nx (.slice ac came.length cc) (.slice ad qs.length (cq - 1)))) := hide (by rw [heap_set' (show (w5.drewN nq).heap[bm]? = some (boxOf S.win S.nx (.slice ac came.length cc) (.slice (some ⟨bq, oq, none⟩) (str p.2 :: qs).length cq)) from Hbm5.out)]; rfl)
            have hk6 : StrKept w5 ((w5.drewN nq).setCell ⟨bm, 3, none⟩ (.slice ad qs.length (cq - 1))) := StrKept.box (w := w5.drewN nq) Hbm5.out
            have Hrq6 : Hid (strsE.Rd ((w5.drewN nq).setCell ⟨bm, 3, none⟩ (.slice ad qs.length (cq - 1))) (.slice ad qs.length (cq - 1)) qs) := hide (by
              refine strs_stay ?_ hk6
              rw [← had]
              by_cases e : cq = 1
              · rw [if_pos e]
                have hl0 : qs = [] := List.eq_nil_of_length_eq_zero (by omega)
                subst hl0
                exact .inr ⟨⟨bq, oq, none⟩, cq - 1, rfl, fun n hn => by simp at hn⟩
              · rw [if_neg e]
                have := Hrq5.out.drop (cap' := cq - 1) 1 qs.length (by simp) (by simp)
                exact this)
            have Hrc6 : Hid (piecesE.Rd ((w5.drewN nq).setCell ⟨bm, 3, none⟩ (.slice ad qs.length (cq - 1))) (.slice ac came.length cc) came) := hide (pieces_stay Hrc5.out hk6)
            have HB6 : Hid (Below w.heap.size w ((w5.drewN nq).setCell ⟨bm, 3, none⟩ (.slice ad qs.length (cq - 1)))) := hide (Below.setCell (w := w5.drewN nq) ⟨HB5.out.os, HB5.out.tape, HB5.out.output, HB5.out.size, HB5.out.block⟩ hbm0 _)
            clear hk6 cv d3 d3f d4 HH5 Hbm5 Hrq5 Hrc5 HB5
            go_upto_region 26 with fail
            generalize (w5.drewN nq).setCell ⟨bm, 3, none⟩ (.slice ad qs.length (cq - 1)) = w6 at *
            have y0 := (cells_of Hbm6.out 0).1
            have y1 := (cells_of Hbm6.out 1).1
            have y2 := (cells_of Hbm6.out 2).1
            have y3 := (cells_of Hbm6.out 3).1
            simp at y0 y1 y2 y3
            have K14 : Hid (Calls Try.prog 14 #[.pointer (some ⟨h.g, 0, none⟩), .agg #[.int .i64 S.win, .int .u16 S.nx, .slice ac came.length cc, .slice ad qs.length (cq - 1)]] w6 fun e w' => e = .returned (.bool true) ∧ Below w6.heap.size w6 w') := hide (tells_any HH6.out (show S.n ≤ 900 by have := HI2.out.n; omega) Hrel2.out S.win ac ad cc (cq - 1) Hrc6.out (by have := HI2.out.cl; omega))
            clear x3 x3f had
            go_wp2_with (go_at_call 14; refine K14.out.mono ?_; rintro e w8 ⟨rfl, hb8⟩)
            go_roundw
            case rel => exact ⟨k + 1, { S with q := r }, came, qs, ac, ad, cc, cq - 1, by omega, by omega, by go_num, HSw.out, hide
              { has := HH6.out.keep hb8, inw := HI2.out.inw, n := Nat.le_succ_of_le HI2.out.n, q := Hqr.out, rel := Hrel2.out, cl := Nat.le_succ_of_le HI2.out.cl,
                box := by rw [hb8.block _ (heap_lt Hbm6.out)]; exact Hbm6.out
                rc := Hrc6.out.keep hb8, rq := Hrq6.out.keep hb8, cap := by omega, bel := HB6.out.trans (hb8.mono HB6.out.size) }⟩
            case measure => simp [intOf]; omega
        | false =>
          have bE : Below W1.heap.size W1 (W1.alloc (.cells #[] 5)) := (Below.refl _ _).alloc (Nat.le_refl _) _
          have FS : Hid (∀ (W : World), W.heap[bo]? = W1.heap[bo]? → W.cell? ⟨bo, 1, none⟩ = some (.int .u16 x) ∧ W.cell? ⟨bo, 2, none⟩ = some (.slice a' l.length cap')) := hide (fun W hW => by
            rw [Hbo.out] at hW
            have p1 := (cells_of hW 1).1
            have p2 := (cells_of hW 2).1
            simp at p1 p2
            exact ⟨p1, p2⟩)
          have hbolt : bo < W1.heap.size := heap_lt Hbo.out
          have K12 : Hid (∀ W v, Below W1.heap.size W1 W → bytesE.Rd W v l → Calls Try.prog 12 #[.pointer (some ⟨h.g, 0, none⟩), .int .u16 x, v] W fun e w' => ∃ S', e = .returned (.int .i64 (S.code x l.length)) ∧ Has w' h S' ∧ S'.Inw ∧ S'.n ≤ S.n + 1 ∧ Took S S' x l ∧ Only h W w') := hide (fun W v hW hv => ptake2 (HI1.out.has.keep hW) HI1.out.inw (by have := HI1.out.n; omega) hv x x0 x1 hll)
          have sA := FS.out W1 rfl
          have sB := FS.out _ (bE.block bo hbolt)
          have HB1 := hide HI1.out.bel
          go_upto_region 21 with fail
          go_cut [14] (fun v14 wx => v14 = .int .i64 (S.code x l.length) ∧ ∃ (S' : Ik) (W : World), Hid (Has wx h S' ∧ S'.Inw ∧ S'.n ≤ S.n + 1 ∧ Took S S' x l) ∧ Hid (Below W1.heap.size W1 W) ∧ Hid (Only h W wx))
          case first =>
            go_region_held3 (fun W => W.cell? ⟨bo, 1, none⟩ = some (.int .u16 x) ∧ W.cell? ⟨bo, 2, none⟩ = some (.slice a' l.length cap')) (first | exact s7 | exact s6 | exact sB | exact sA)
              (first
                | (refine step_big (w0 := W1) ?_ (by rfl) (.tmp 95) (.tmp 97) (by rfl) _ _ (by rfl) (by rfl) [] l ?_ (HRd.out _ ?_) ?_ ?_; exact ⟨bE.os, bE.tape, bE.output, bE.size, bE.block⟩; exact El.Own.new bytesE _ _ (Nat.le_refl _) #[] [] rfl (by simp) _ _ _ rfl rfl rfl; exact ⟨(HB1.out.alloc HB1.out.size (.cells #[] 5)).os, (HB1.out.alloc HB1.out.size (.cells #[] 5)).tape, (HB1.out.alloc HB1.out.size (.cells #[] 5)).output, (HB1.out.alloc HB1.out.size (.cells #[] 5)).size, (HB1.out.alloc HB1.out.size (.cells #[] 5)).block⟩; (simp; omega); intro v6 w6 ho6 hb6; rw [List.nil_append] at ho6; have s6 := FS.out w6 (hb6.block bo hbolt))
                | (go_at_call 12; refine (K12.out _ _ ?_ ?_).mono ?_; exact hb6; exact ho6.rd; rintro e w7 ⟨S', rfl, H7, I7, n7, T7, O7⟩; have s7 := FS.out w7 ((O7.block bo (Nat.lt_of_lt_of_le hbolt hb6.size) hgo.1 hgo.2.1 hgo.2.2.1).trans (hb6.block bo hbolt)))
                | fail)
            all_goals
              go_wp2_with fail
              go_meet
              exact ⟨rfl, S', w6, hide ⟨H7, I7, n7, T7⟩, hide hb6, hide O7⟩
          case rest =>
            obtain ⟨rfl, S', W6, HH7, HB6, HO7⟩ := hcut
            have hbmlt : bm < W1.heap.size := heap_lt HI1.out.box
            have hbm7 : wc.heap[bm]? = some (boxOf S.win S.nx (.slice ac came.length cc) (.slice aq queue.length cq)) := by
              rw [HO7.out.block bm (Nat.lt_of_lt_of_le hbmlt HB6.out.size) hbm1.1 hbm1.2.1 hbm1.2.2, HB6.out.block bm hbmlt]; exact HI1.out.box
            obtain ⟨p1, p2⟩ := FS.out wc ((HO7.out.block bo (Nat.lt_of_lt_of_le hbolt HB6.out.size) hgo.1 hgo.2.1 hgo.2.2.1).trans (HB6.out.block bo hbolt))
            have hk7 : StrKept W6 wc := (HI1.out.has.keep HB6.out).strKept HO7.out
            have hrc7 := pieces_stay (HI1.out.rc.keep HB6.out) hk7
            have hrq7 := strs_stay (HI1.out.rq.keep HB6.out) hk7
            have hb7 : Below w.heap.size w wc := HO7.out.below (HB1.out.trans (HB6.out.mono HB1.out.size)) (Nat.le_trans HB1.out.size HB6.out.size) q0 q1 q2
            have cv : (convert 33 9 (.slice a' l.length cap')).run Try.prog wc = .ok (.string (str l)) wc := conv_str (HRd.out _ hb7)
            have hT := HH7.out.2.2.2
            obtain ⟨tq, tw⟩ := took_q hT HI1.out.inw HI1.out.has.win.2 HI1.out.q
            have hql : queue.length = S.q.length := by rw [HI1.out.rel.q]; simp
            have hqn := HI1.out.q
            have hwn := HI1.out.has.win.2
            have K13 := hide (rplay HI1.out.rel hT HI1.out.has.nx HI1.out.has.win HI1.out.inw x0 x1 ac aq cc cq wc hrc7 hrq7 (by have := HI1.out.cl; omega) (by omega) HI1.out.cap)
            have y0 := (cells_of hbm7 0).1
            have y1 := (cells_of hbm7 1).1
            have y2 := (cells_of hbm7 2).1
            have y3 := (cells_of hbm7 3).1
            simp at y0 y1 y2 y3
            have Hbm7 := hide hbm7
            have HB7 := hide hb7
            have Htq := hide tq
            have Htw := hide tw
            clear hbm7 hrc7 hrq7 hb7 hT tq tw hql hqn hwn hk7 sA sB bE K12 o0 o1 o2
            obtain ⟨c, hc⟩ : ∃ c, S.code x l.length = c := ⟨_, rfl⟩
            rw [hc] at K13 ⊢
            clear hc
            go_wp2_with (go_at_call 13; refine K13.out.mono ?_; rintro e w8 ⟨came', queue', ac', aq', cc', cq', rfl, R8, rc8, rq8, cl8, cap8, hb8⟩; refine Hid.out ?_)
            refine hide ?_
            have hbmw : bm < wc.heap.size := heap_lt Hbm7.out
            have hbm8 : w8.heap[bm]? = some (boxOf S.win S.nx (.slice ac came.length cc) (.slice aq queue.length cq)) := by rw [hb8.block bm hbmw]; exact Hbm7.out
            have r0 := cells_of hbm8 0
            have r1 := cells_of hbm8 1
            have r2 := cells_of hbm8 2
            have r3 := cells_of hbm8 3
            simp at r0 r1 r2 r3
            have z0 : (w8.setCell ⟨bm, 0, none⟩ (.int .i64 S.win)).heap[bm]? = some (boxOf S.win S.nx (.slice ac came.length cc) (.slice aq queue.length cq)) := by rw [heap_set' hbm8]; rfl
            have z1 : ((w8.setCell ⟨bm, 0, none⟩ (.int .i64 S.win)).setCell ⟨bm, 1, none⟩ (.int .u16 S'.nx)).heap[bm]? = some (boxOf S.win S'.nx (.slice ac came.length cc) (.slice aq queue.length cq)) := by rw [heap_set' z0]; rfl
            have z2 : (((w8.setCell ⟨bm, 0, none⟩ (.int .i64 S.win)).setCell ⟨bm, 1, none⟩ (.int .u16 S'.nx)).setCell ⟨bm, 2, none⟩ (.slice ac' came'.length cc')).heap[bm]? = some (boxOf S.win S'.nx (.slice ac' came'.length cc') (.slice aq queue.length cq)) := by rw [heap_set' z1]; rfl
            have z3 : ((((w8.setCell ⟨bm, 0, none⟩ (.int .i64 S.win)).setCell ⟨bm, 1, none⟩ (.int .u16 S'.nx)).setCell ⟨bm, 2, none⟩ (.slice ac' came'.length cc')).setCell ⟨bm, 3, none⟩ (.slice aq' queue'.length cq')).heap[bm]? = some (boxOf S.win S'.nx (.slice ac' came'.length cc') (.slice aq' queue'.length cq')) := by rw [heap_set' z2]; rfl
            have HH9 := hide (has_box (i := 3) (u := .slice aq' queue'.length cq') (has_box (i := 2) (u := .slice ac' came'.length cc') (has_box (i := 1) (u := .int .u16 S'.nx) (has_box (i := 0) (u := .int .i64 S.win) (HH7.out.1.keep hb8) hbm8 hbm1) z0 hbm1) z1 hbm1) z2 hbm1)
            have HB9 := hide (Below.setCell (p := ⟨bm, 3, none⟩) (Below.setCell (p := ⟨bm, 2, none⟩) (Below.setCell (p := ⟨bm, 1, none⟩) (Below.setCell (p := ⟨bm, 0, none⟩) (HB7.out.trans (hb8.mono HB7.out.size)) hbm0 (.int .i64 S.win)) hbm0 (.int .u16 S'.nx)) hbm0 (.slice ac' came'.length cc')) hbm0 (.slice aq' queue'.length cq'))
            have Hrc9 := hide (pieces_stay (pieces_stay (pieces_stay (pieces_stay rc8 (StrKept.box (i := 0) (u := .int .i64 S.win) hbm8)) (StrKept.box (i := 1) (u := .int .u16 S'.nx) z0)) (StrKept.box (i := 2) (u := .slice ac' came'.length cc') z1)) (StrKept.box (i := 3) (u := .slice aq' queue'.length cq') z2))
            have Hrq9 := hide (strs_stay (strs_stay (strs_stay (strs_stay rq8 (StrKept.box (i := 0) (u := .int .i64 S.win) hbm8)) (StrKept.box (i := 1) (u := .int .u16 S'.nx) z0)) (StrKept.box (i := 2) (u := .slice ac' came'.length cc') z1)) (StrKept.box (i := 3) (u := .slice aq' queue'.length cq') z2))
            have Hz3 := hide z3
            have HR8 := hide R8
            clear z0 z1 z2 z3 hbm8 rc8 rq8 R8 y0 y1 y2 y3 p1 p2 cv
            go_upto_region 24 with fail
            generalize (((w8.setCell ⟨bm, 0, none⟩ (.int .i64 S.win)).setCell ⟨bm, 1, none⟩ (.int .u16 S'.nx)).setCell ⟨bm, 2, none⟩ (.slice ac' came'.length cc')).setCell ⟨bm, 3, none⟩ (.slice aq' queue'.length cq') = W9 at *
            have y0 := (cells_of Hz3.out 0).1
            have y1 := (cells_of Hz3.out 1).1
            have y2 := (cells_of Hz3.out 2).1
            have y3 := (cells_of Hz3.out 3).1
            simp at y0 y1 y2 y3
            have K14 : Hid (Calls Try.prog 14 #[.pointer (some ⟨h.g, 0, none⟩), .agg #[.int .i64 S.win, .int .u16 S'.nx, .slice ac' came'.length cc', .slice aq' queue'.length cq']] W9 fun e w' => e = .returned (.bool true) ∧ Below W9.heap.size W9 w') := hide (tells_any HH9.out (by have := HI1.out.n; have := HH7.out.2.2.1; omega) HR8.out S.win ac' aq' cc' cq' Hrc9.out (by have := HI1.out.cl; omega))
            clear r0 r1 r2 r3
            go_wp2_with (go_at_call 14; refine K14.out.mono ?_; rintro e w10 ⟨rfl, hb10⟩)
            go_roundw
            case rel => exact ⟨k + 1, S', came', queue', ac', aq', cc', cq', by omega, by omega, by go_num, Htw.out.trans HSw.out, hide
              { has := HH9.out.keep hb10, inw := HH7.out.2.1, n := Nat.le_trans HH7.out.2.2.1 (Nat.succ_le_succ HI1.out.n), q := Htq.out, rel := HR8.out, cl := Nat.le_trans cl8 (Nat.succ_le_succ HI1.out.cl),
                box := by rw [hb10.block _ (heap_lt Hz3.out), Htw.out]; exact Hz3.out
                rc := Hrc9.out.keep hb10, rq := Hrq9.out.keep hb10, cap := cap8, bel := HB9.out.trans (hb10.mono HB9.out.size) }⟩
            case measure => simp [intOf]; omega
      · have HB := hide HI.out.bel
        by_cases hc1 : (k : Int) < (len2 : Int)
        · have hc2 : ¬ (k : Int) < 200 := by omega
          go_wp2_with fail
          go_ret
          exact ⟨rfl, HB.out⟩
        · go_wp2_with fail
          go_ret
          exact ⟨rfl, HB.out⟩
  · have hno : n0 < 1 ∨ 64 < n0 := by omega
    have K10 := hide (fun W => new_no n0 n1 W hno)
    by_cases hlo : n0 < 1
    · clear hno hwin
      go_enter Try.func3, Try.ntmps3
      go_wp2_with (first
        | (go_at_call 9; refine (awake_any _).mono ?_; rintro e wa ⟨rfl, Ba⟩)
        | (go_at_call 10; refine (K10.out _).mono ?_; rintro e w1 ⟨rfl, rfl⟩))
      go_ret
      exact ⟨rfl, Ba⟩
    · have hhi : 64 < n0 := by omega
      clear hno hwin
      go_enter Try.func3, Try.ntmps3
      go_wp2_with (first
        | (go_at_call 9; refine (awake_any _).mono ?_; rintro e wa ⟨rfl, Ba⟩)
        | (go_at_call 10; refine (K10.out _).mono ?_; rintro e w1 ⟨rfl, rfl⟩))
      go_ret
      exact ⟨rfl, Ba⟩

set_option maxRecDepth 100000 in
theorem lifted (os : Os) (started : os.Started) (H : Type) (enc : TypeId × Value → H) :
    ReturnsInHanded {} Try.checked os 3 .any (Rows.intakePlaysSpec.pre6 enc Try.prog Try.f3 Rows.intakePlaysRow.domain false) (Rows.intakePlaysSpec.post enc Try.prog Try.f3 false true false false) := by
  refine returnsInHanded_of_change_sized (C := Try.checked) own started (by kernel_rfl) Try.func3
    (ChangeSpec.witness6 (enc := enc) (C := Try.checked) false ⟨#[], #[.int .i64 0, .int .u16 0, .slice none 0 0], []⟩ 8 (by kernel_rfl) (by kernel_rfl) (by kernel_rfl) (by kernel_rfl)) ?_
  intro W base args ds gs before hval0 hW hcnd hsz0 _
  have hval : ∀ (j : Nat) t v, Try.f3.params[j]? = some t → args[j]? = some v → Value.okWide Try.prog W .any base t v := hval0
  have hsz : (DataW.weightsEach Try.prog (Try.f3.params.toList ++ Rows.intakePlaysSpec.plain.varTypes Try.prog) (ds ++ gs)).all (· ≤ reachBytes) = true := hsz0
  have hW' := hW
  obtain ⟨p, q, hA0, hV, rfl, hfz, hnd⟩ := hW
  have hA : DataW.TrodAll enc Try.prog W 0 (fun _ => true) true Try.f3.params.toList args.toList ds p := hA0
  rw [Try.params3] at hA hval hsz
  obtain ⟨v0, vs0, d0, ds0, p0, q0, hargs, rfl, rfl, h0, r0⟩ := trodAll_cons hA
  obtain ⟨v1, vs1, d1, ds1, p1, q1, rfl, rfl, rfl, h1, r1⟩ := trodAll_cons r0
  obtain ⟨v2, vs2, d2, ds2, p2, q2, rfl, rfl, rfl, h2, r2⟩ := trodAll_cons r1
  obtain ⟨rfl, rfl, rfl⟩ := trodAll_nil r2
  obtain rfl : args = #[v0, v1, v2] := by cases args; simp_all
  obtain ⟨rfl, rfl⟩ := trodVars_none hV
  have k0 := h0
  have lt0 : ∀ x ∈ p0, x.block < W.heap.size := by obtain ⟨m, hm⟩ := k0; exact DataW.trod_lt m _ _ _ hm
  obtain ⟨n0, rfl⟩ := okWide_int Try.underlying3 (hval 0 3 v0 rfl rfl)
  have w0 : (Lit.int .i64 n0).wf = true := by
    obtain ⟨fuel, hf⟩ := h0
    obtain ⟨m, e, _, hw⟩ := DataW.trod_int Try.underlying3 hf
    simp [Value.cells] at e
    rw [e]; exact hw
  have k1 := h1
  have lt1 : ∀ x ∈ p1, x.block < W.heap.size := by obtain ⟨m, hm⟩ := k1; exact DataW.trod_lt m _ _ _ hm
  obtain ⟨n1, rfl⟩ := okWide_int Try.underlying22 (hval 1 22 v1 rfl rfl)
  have w1 : (Lit.int .u16 n1).wf = true := by
    obtain ⟨fuel, hf⟩ := h1
    obtain ⟨m, e, _, hw⟩ := DataW.trod_int Try.underlying22 hf
    simp [Value.cells] at e
    rw [e]; exact hw
  obtain ⟨a2, len2, cap2, rfl⟩ := okWide_slice Try.underlying23 (hval 2 23 v2 rfl rfl)
  have k2 := h2
  have lt2 : ∀ x ∈ p2, x.block < W.heap.size := by obtain ⟨m, hm⟩ := k2; exact DataW.trod_lt m _ _ _ hm
  obtain ⟨⟨ls2, w2⟩, s2⟩ : (∃ ls, IsOps2 W a2 len2 ls) ∧ len2 ≤ maxLen := by
    obtain ⟨fuel, hf⟩ := h2
    exact ops_of_trod2 (a := a2) (len := len2) (cap := cap2) hf (by simp [Value.cells]) (fun n hn => by have := List.all_eq_true.1 hsz n (DataW.weights_mem_each (j := 2) (t := 23) (d := d2) rfl rfl n hn); simpa using this)
  clear hA0 hval0
  refine (walk n0 n1 a2 len2 cap2 ls2 W (bounds_i64 w0) (bounds_u16 w1) w2 s2).mono fun e W' ⟨he, bel⟩ => ?_
  subst he
  exact ⟨_, rfl, _, _, _, [], _, [], hW', trodAll_mk1 (shut_bool Try.underlying4 _), (trodAll_cons_mk (Below.trod laidOut (by kernel_rfl) (of_decide_eq_true (by kernel_rfl)) k0 bel lt0) (trodAll_cons_mk (Below.trod laidOut (by kernel_rfl) (of_decide_eq_true (by kernel_rfl)) k1 bel lt1) (trodAll_cons_mk (Below.trod laidOut (by kernel_rfl) (of_decide_eq_true (by kernel_rfl)) k2 bel lt2) trodAll_mk0))), rfl, bel.frame _, fun h => by cases h⟩

theorem over : Rows.intakePlaysRow.holds Try.pinned (OpenSpec.ofChange Rows.intakePlaysSpec) :=
  OpenClaim.holds_of_wide 3 Try.f3 rfl rfl rfl rfl rfl rfl rfl ⟨rfl, rfl, rfl, rfl, rfl⟩ rfl rfl rfl rfl rfl (by kernel_rfl) Try.func3 (by kernel_rfl)
    (of_decide_eq_true (by kernel_rfl)) (by unfold Func.isWrapper; first | (rw [if_pos (by decide +kernel)]; kernel_rfl) | (rw [if_neg (by decide +kernel)]; exact ⟨rfl, rfl⟩))
    (fun os started H enc _ => lifted os started H enc)

theorem proved : Rows.IntakePlaysSaid := over
end Go.Proofs.Ytmbgcbbpkbaajaa.intakePlays
