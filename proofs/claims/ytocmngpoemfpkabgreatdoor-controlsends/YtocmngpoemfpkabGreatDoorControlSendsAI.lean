import Derived.BigRegion
import Derived.ChangeOld
import Derived.Deep.AppendLies
import Derived.Deep.AppendSrc
import Derived.Deep.RegionWith
import Derived.Laws.BytesArg
import Derived.Laws.OwnMore
import Derived.ShutString
import Derived.SizedLaws
import Derived.Test.YtocmngpoemfpkabGreatDoorControlSendsAB
import Derived.Test.YtocmngpoemfpkabGreatDoorControlSendsAG
import Derived.Test.YtocmngpoemfpkabGreatDoorControlSendsAH
set_option linter.unusedVariables false
namespace Go.Proofs.YtocmngpoemfpkabGreatDoor
open Go.RowKit
def cc0 (P : Kp) (v4 v5 : Value) (n m : Nat) (pause : Int) (dead : Bool) : Array Value := #[.slice P.la n P.lc, .slice P.lb m P.le, .int .i64 pause, .pointer (some ⟨P.gt, 0, none⟩), v4, v5, P.vJ 0, P.vJ 1, P.vJ 2, P.vJ 3, P.vJ 4, P.vJ 5, P.vJ 6, P.vJ 7, P.vJ 8, P.vJ 9, P.vJ 10, P.vJ 11, P.vJ 12, P.vJ 13, P.vJ 14, P.vJ 15, P.vJ 16, P.vJ 17, P.vJ 18, P.vJ 19, P.vJ 20, P.vJ 21, P.vJ 22, P.vJ 23, P.vJ 24, P.vJ 25, P.vJ 26, P.vJ 27, P.vJ 28, P.vJ 29, P.vJ 30, .slice (some ⟨P.kg, 0, none⟩) (m + 1) (m + 1), .bool dead]
def pre0 (B g : Nat) (E : Ev) (n m : Nat) (P : Kp) (c : Ct) (v4 v5 : Value) : List It := [.box g (cc0 P v4 v5 n m E.pause c.dead) 90, .row ndE B (.slice P.la n P.lc) E.ns, .row edE B (.slice P.lb m P.le) E.es, .ints B (.slice (some ⟨P.kg, 0, none⟩) (m + 1) (m + 1)) c.tk, .jobs P.vJ c.J, .tape B P.gt P.Ht c.T]
def It.ct0 (B g : Nat) (E : Ev) (n m : Nat) (P : Kp) (c : Ct) (v4 v5 : Value) : It := .grp (.fact (KF E n m P c) :: pre0 B g E n m P c v4 v5)
theorem Its.tails {w0 w : World} {l : List It} : ∀ (a : List It), Its w0 (a ++ l) w → Its w0 l w
  | [], h => h
  | _ :: a, h => Its.tails a h.tail
section
variable {w0 w : World} {l : List It} {B g n m : Nat} {E : Ev} {P : Kp} {c : Ct} {v4 v5 : Value}
theorem ct0_f (h : (It.ct0 B g E n m P c v4 v5).P w) : KF E n m P c := h.1 (.fact (KF E n m P c)) (by simp [pre0])
theorem ct0_box (h : (It.ct0 B g E n m P c v4 v5).P w) : w.heap[g]? = some (.cells (cc0 P v4 v5 n m E.pause c.dead) 90) := h.1 (.box g (cc0 P v4 v5 n m E.pause c.dead) 90) (by simp [pre0])
theorem ct0_c (h : (It.ct0 B g E n m P c v4 v5).P w) : w.cell? ⟨g, 0, none⟩ = some (.slice P.la n P.lc) ∧ w.cell? ⟨g, 1, none⟩ = some (.slice P.lb m P.le) ∧ w.cell? ⟨g, 4, none⟩ = some v4 ∧ w.cell? ⟨g, 5, none⟩ = some v5 :=
  ⟨(cells_at (ct0_box h) 0).1, (cells_at (ct0_box h) 1).1, (cells_at (ct0_box h) 4).1, (cells_at (ct0_box h) 5).1⟩
theorem ct0_z (h : (It.ct0 B g E n m P c v4 v5).P w) (i : Nat) : w.frozen? ⟨g, i, none⟩ = false := (cells_at (ct0_box h) i).2
theorem ct0_l (h : (It.ct0 B g E n m P c v4 v5).P w) : Lyt w P.la P.lb P.lc P.le n m E.ns E.es := by
  have f := ct0_f h
  have h1 : ndE.Own w B (.slice P.la n P.lc) E.ns := h.1 (.row ndE B (.slice P.la n P.lc) E.ns) (by simp [pre0])
  have h2 : edE.Own w B (.slice P.lb m P.le) E.es := h.1 (.row edE B (.slice P.lb m P.le) E.es) (by simp [pre0])
  exact ⟨f.hn, f.hm, h1.rd, h2.rd, by have := nd_cap h2; rw [f.hm] at this; exact this, f.hs⟩
theorem Its.kn1 {gm : Nat} {Hm : Nat × Nat} {S : Mr} (h : Its w0 (.mir w0.heap.size gm Hm n m E.es S :: .ct0 w0.heap.size g E n m P c v4 v5 :: l) w) :
    Its w0 (.ct0 w0.heap.size g E n m P c (.pointer (some ⟨gm, 0, none⟩)) v5 :: .mir w0.heap.size gm Hm n m E.es S :: l) (w.setCell ⟨g, 4, none⟩ (.pointer (some ⟨gm, 0, none⟩))) := by
  have h1 := h.swap.opn
  have h2 := (h1.pick 1 rfl).put1 4 (.pointer (some ⟨gm, 0, none⟩))
  have h3 := Its.back (l := .fact (KF E n m P c) :: (pre0 w0.heap.size g E n m P c v4 v5 ++ .mir w0.heap.size gm Hm n m E.es S :: l)) 1 (by simp [pre0]) h2
  exact Its.shut (a := .fact (KF E n m P c) :: pre0 w0.heap.size g E n m P c (.pointer (some ⟨gm, 0, none⟩)) v5) h3
theorem Its.kn2 {gm gb : Nat} {Hm : Nat × Nat} {S : Mr} {Hk : Hb} {K : Bk} (h : Its w0 (.book w0.heap.size gb Hk K :: .ct0 w0.heap.size g E n m P c (.pointer (some ⟨gm, 0, none⟩)) v5 :: .mir w0.heap.size gm Hm n m E.es S :: l) w) :
    Its w0 (.ctl w0.heap.size g E n m { P with gm := gm, Hm := Hm, S := S, gb := gb, Hk := Hk, K := K } c :: l) (w.setCell ⟨g, 5, none⟩ (.pointer (some ⟨gb, 0, none⟩))) := by
  have hf := ct0_f h.two
  have h1 := h.swap.opn
  have h2 := (h1.pick 1 rfl).put1 5 (.pointer (some ⟨gb, 0, none⟩))
  have h3 := Its.back (l := .fact (KF E n m P c) :: (pre0 w0.heap.size g E n m P c (.pointer (some ⟨gm, 0, none⟩)) v5 ++ .book w0.heap.size gb Hk K :: .mir w0.heap.size gm Hm n m E.es S :: l)) 1 (by simp [pre0]) h2
  have h4 := h3.tail
  have h5 := h4.pick 7 rfl
  refine Its.kshut (P := { P with gm := gm, Hm := Hm, S := S, gb := gb, Hk := Hk, K := K }) ?_ ⟨hf.gd, hf.hn, hf.hm, hf.hs, hf.gq, hf.pa, hf.tk, hf.jo, hf.jd⟩
  refine h5.perm ?_
  show List.Perm (_ :: _ :: _ :: _ :: _ :: _ :: _ :: _ :: l) (_ :: _ :: _ :: _ :: _ :: _ :: _ :: _ :: l)
  exact (List.perm_middle (l₁ := [_, _, _, _, _, _])).symm
set_option maxRecDepth 100000 in
set_option maxHeartbeats 4000000 in
theorem krecall0 {v4 v5 : Value} (h : Its w0 (.ct0 w0.heap.size g E n m P c v4 v5 :: l) w) {got : List Nt} {r : List Int} (hr : NRds c.T.now got r) (hN : got.length ≤ 8000) : Calls Tryz.prog 26 #[.pointer (some ⟨g, 0, none⟩)] w (RecP w0 l g E n m c got) := by
  obtain ⟨c0, c1, c4, c5⟩ := ct0_c h.one
  have z4 := ct0_z h.one 4
  have hf := ct0_f h.one
  have L := ct0_l h.one
  have KN := hide (new_ok L hf.gd)
  have HI := hide h
  have KB : Hid (∀ W L, Its w0 L W → Calls Tryz.prog 72 #[] W fun e w' => ∃ g' H, e = .returned (.pointer (some ⟨g', 0, none⟩)) ∧ Its w0 (.book w0.heap.size g' H Bk.new :: L) w') := hide (fun W L hW => new_any w0 W _ hW)
  have KR : Hid (∀ W P', Its w0 (.ctl w0.heap.size g E n m P' c :: l) W → Calls Tryz.prog 73 #[.pointer (some ⟨P'.gt, 0, none⟩)] W fun e w' => ∃ v, e = .returned v ∧ Its w0 (.row ntE w0.heap.size v got :: .ctl w0.heap.size g E n m P' c :: l) w') := hide (fun W P' hW => by
    refine (readS hW.ktape hr).mono ?_
    rintro e w' ⟨v, rfl, q⟩
    refine ⟨v, rfl, ?_⟩
    have q2 := (Its.back (l := kparts w0.heap.size g E n m P' c ++ l) 5 (by simp [kparts]) q.tail)
    have q3 : Its w0 (.ctl w0.heap.size g E n m P' c :: l) w' := Its.kshut q2 (kt_f hW.one)
    have q4 := Its.back (l := (.row ntE w0.heap.size v got :: (kparts w0.heap.size g E n m P' c ++ l))) 6 (by simp [kparts]) (q.swap)
    exact (Its.kshut (l := .row ntE w0.heap.size v got :: l) (P := P') (c := c) (q4.perm (by
      show List.Perm (_ :: kparts w0.heap.size g E n m P' c ++ l) (kparts w0.heap.size g E n m P' c ++ _ :: l)
      exact (List.perm_middle).symm)) (kt_f hW.one)).swap)
  have KD : Hid (∀ W P' (v : Value) (x : Nt), P'.K.all.length ≤ 9000 ∧ P'.K.done.length ≤ 9000 → I64 x.a → Its w0 (.row ntE w0.heap.size v got :: .ctl w0.heap.size g E n m P' c :: l) W → Calls Tryz.prog 74 #[.pointer (some ⟨g, 0, none⟩), .agg #[.int .i64 x.kind, .int .i64 x.a, .int .i64 x.b, .int .i64 x.c]] W (DoP w0 (.row ntE w0.heap.size v got :: l) g E n m P' c x)) := hide (fun W P' v x hb hx hW => kdoS hW.swap x hx hb)
  have HO : Hid (∀ x ∈ got, x.ok = true) := hide hr.ok
  have i0 : (got.length : Int) ≤ 8000 := by omega
  have HNl := hide hN
  clear h hf L hN
  go_enter Tryz.func26, Tryz.ntmps26
  go_wp2_with (first
    | (go_at_call 71; refine KN.out.mono ?_; rintro e w1 ⟨gm, Hm, rfl, q⟩; have I1 := hide (HI.out.addm q); clear q; obtain ⟨d0, d1, d4, d5⟩ := ct0_c I1.out.two; have zz4 := ct0_z I1.out.two 4; have I2 := hide I1.out.kn1)
    | (go_at_call 72; refine (KB.out _ _ I2.out).mono ?_; rintro e w2 ⟨gb, Hk, rfl, q⟩; have I3 := hide q; clear q; obtain ⟨d0, d1, d4, d5⟩ := ct0_c I3.out.two; have zz5 := ct0_z I3.out.two 5; have I4 := hide I3.out.kn2; obtain ⟨f0, f1, f2, f3, f4, f5, f37, f38⟩ := kt_c I4.out.one)
    | (go_at_call 73; refine (KR.out _ _ I4.out).mono ?_; rintro e w3 ⟨v, rfl, q⟩; obtain ⟨av, cv, hv⟩ := q.one.rd.form; have HLn := hide (rfl : got.length = got.length); subst hv; have I5 := hide q; clear q))
  have HT0 : Hid (rpl (got.take 0) (Mr.nw n E.es) Bk.new = some (Mr.nw n E.es, Bk.new)) := hide rfl
  obtain ⟨N, hN⟩ : ∃ N, got.length = N := ⟨_, rfl⟩
  rw [hN] at I5 i0 HNl ⊢
  have HN := hide hN
  clear hN KN KB KR HI I1 I2 I3 I4 HLn c0 c1 c4 c5 z4 d0 d1 d4 d5 zz4 zz5
  go_loopw [28] (fun v28 wr => ∃ (k : Nat) (P' : Kp), v28 = .int .i64 k ∧ k ≤ N ∧ Hid (rpl (got.take k) (Mr.nw n E.es) Bk.new = some (P'.S, P'.K)) ∧ Hid (Its w0 (.row ntE w0.heap.size (.slice av N cv) got :: .ctl w0.heap.size g E n m P' c :: l) wr)) (fun v28 _ => N - (intOf v28).toNat)
  case atStart => exact ⟨0, _, rfl, Nat.zero_le _, HT0, I5⟩
  case round =>
    obtain ⟨k, P', rfl, hk, HT, HR⟩ := hrel
    by_cases hlt : k < N
    · obtain ⟨x, hx⟩ : ∃ x, got[k]? = some x := ⟨_, List.getElem?_eq_getElem (by rw [HN.out]; exact hlt)⟩
      have hxo := nt_i64 (HO.out x (List.mem_of_getElem? hx))
      have hsz := rpl_size _ _ _ _ HT.out
      have hsb : P'.K.all.length ≤ 9000 ∧ P'.K.done.length ≤ 9000 := by
        have h1 := HNl.out
        simp only [List.length_take, Bk.new, List.length_nil] at hsz
        omega
      obtain ⟨b, off, rfl, q0, q1, q2, q3⟩ := nt_at HR.out.one.rd k x hx
      have HZ : Hid (rpl (got.take (k + 1)) (Mr.nw n E.es) Bk.new = if ndC P'.S P'.K x = 0 ∧ ndY P'.K x = true then some (ndS P'.S x, ndK P'.K x) else none) := hide (by
        rw [take_one hx, rpl_app, HT.out])
      have HZn : Hid (rpl (got.take (k + 1)) (Mr.nw n E.es) Bk.new = none → rpl got (Mr.nw n E.es) Bk.new = none) := hide (fun h => by
        rw [← List.take_append_drop (k + 1) got]; exact rpl_none h)
      have KDx := hide (fun W => KD.out W P' (.slice (some ⟨b, off, none⟩) N cv) x hsb hxo)
      have HX := hide (HR.out.boxN #[.int .i64 x.kind, .int .i64 x.a, .int .i64 x.b, .int .i64 x.c] 101 rfl)
      obtain ⟨t0, t1, t2, t3, _⟩ := Its.cells4 HX.out
      have j0 : (0 : Int) ≤ (k : Int) := by omega
      have j1 : (k : Int) < (N : Int) := by omega
      have j2 : wrap64 ((k : Int) + 1) = (k : Int) + 1 := by unfold wrap64; omega
      clear hx hxo hsz hsb
      unfold DoP at KDx
      generalize hz : ndC P'.S P'.K x = z at *
      generalize hy : ndY P'.K x = y at *
      clear hz hy
      obtain ⟨kd, xa, xb, xc⟩ := x
      dsimp only at *
      by_cases hz : z = 0
      · subst hz
        cases y with
        | true =>
          have HT' := hide (by have := HZ.out; rw [if_pos ⟨rfl, rfl⟩] at this; exact this : rpl (got.take (k + 1)) (Mr.nw n E.es) Bk.new = some (ndS P'.S ⟨kd, xa, xb, xc⟩, ndK P'.K ⟨kd, xa, xb, xc⟩))
          clear HZ HZn
          go_wp2_with (go_at_call 74; refine (KDx.out _ HX.out.tail).mono ?_; rintro e w4 ⟨rfl, H', q⟩; have HQ := hide q; clear q)
          go_roundw
          case rel => exact ⟨k + 1, _, by go_num, by omega, HT', hide HQ.out.swap⟩
          case measure => simp [intOf]; omega
        | false =>
          have HF := hide (HZn.out (by have := HZ.out; rw [if_neg (fun h => by cases h.2)] at this; exact this))
          clear HZ HZn
          go_wp2_with (go_at_call 74; refine (KDx.out _ HX.out.tail).mono ?_; rintro e w4 ⟨rfl, H', q⟩; have HQ := hide q; clear q)
          go_ret
          exact ⟨_, HQ.out.swap.tail, .inr ⟨rfl, HF.out⟩⟩
      · have hz' : (z == 0) = false := beq_eq_false_iff_ne.2 hz
        have HF := hide (HZn.out (by have := HZ.out; rw [if_neg (fun h => hz h.1)] at this; exact this))
        clear HZ HZn
        go_wp2_with (go_at_call 74; refine (KDx.out _ HX.out.tail).mono ?_; rintro e w4 ⟨rfl, H', q⟩; have HQ := hide q; clear q)
        go_ret
        exact ⟨_, HQ.out.swap.tail, .inr ⟨rfl, HF.out⟩⟩
    · obtain rfl : k = N := by omega
      have j1 : ¬ (k : Int) < (k : Int) := by omega
      have HF := hide (by have := HT.out; rw [List.take_of_length_le (by rw [HN.out]; exact Nat.le_refl _)] at this; exact this : rpl got (Mr.nw n E.es) Bk.new = some (P'.S, P'.K))
      go_wp2_with fail
      go_ret
      exact ⟨P', HR.out.tail, .inl ⟨rfl, HF.out⟩⟩
def opn (ns : List Nd) (es : List Ed) (pause : Int) (T : Tp) (got : List Nt) (r : List Int) : Int × Tp × Option (Mr × Bk) :=
  if good ns es = false then (61, T, none) else if pause < 1 ∨ 1000 < pause then (1, T, none) else if (T.rep r).2.1 ≠ 0 then ((T.rep r).2.1, (T.rep r).2.2, none) else
    if rpl got (Mr.nw ns.length es) Bk.new = none then (180, (T.rep r).2.2, none) else (0, (T.rep r).2.2, rpl got (Mr.nw ns.length es) Bk.new)
def ct1 (m : Nat) (T : Tp) (S : Mr) (K : Bk) : Ct := ⟨S, K, T, fun _ => [], List.replicate (m + 1) 0, false⟩
def OpenP (w0 : World) (l : List It) (gt : Nat) (ns : List Nd) (es : List Ed) (pause : Int) (n m : Nat) (p : Int × Tp × Option (Mr × Bk)) (e : Ending) (w' : World) : Prop :=
  (p.1 ≠ 0 ∧ e = .returned (.tuple #[.pointer none, .int .i64 p.1]) ∧ ∃ H', Its w0 (.tape w0.heap.size gt H' p.2.1 :: l) w') ∨
  (p.1 = 0 ∧ ∃ g P S K, p.2.2 = some (S, K) ∧ e = .returned (.tuple #[.pointer (some ⟨g, 0, none⟩), .int .i64 0]) ∧ (P.S = S ∧ P.K = K) ∧ Its w0 (.ctl w0.heap.size g ⟨ns, es, pause, gt⟩ n m P (ct1 m p.2.1 S K) :: l) w')
theorem rep_now {T : Tp} {got : List Nt} {r : List Int} (hr : NRds T.now got r) (h0 : (T.rep r).2.1 = 0) : NRds (T.rep r).2.2.now got [] := by
  have hl := rds_len hr
  have e : T.now.take (T.now.length - r.length) = got.flatMap Nt.bts := by
    rw [show T.now.length - r.length = (got.flatMap Nt.bts).length by show _ = tot got; omega, hr.eq, List.take_left]
  unfold Tp.rep at h0 ⊢
  by_cases hd : T.dd = true
  · rw [if_pos hd] at h0; cases h0
  rw [if_neg hd] at h0 ⊢
  by_cases hc : (T.cut T.cn (T.now.length - r.length)).1 = 0
  case neg => rw [if_neg hc] at h0; cases h0
  rw [if_pos hc]
  show NRds (T.cut T.cn (T.now.length - r.length)).2.now got []
  have : (T.cut T.cn (T.now.length - r.length)).2.now = T.now.take (T.now.length - r.length) := by
    unfold Tp.cut at hc ⊢
    by_cases q : (T.A T.cn).length = T.now.length - r.length
    · rw [if_pos q]
      show T.now = _
      rw [← q]; exact (List.take_length).symm
    · rw [if_neg q] at hc ⊢
      by_cases z : T.can 1 = true
      · rw [if_pos z]
        show (if T.cn = T.cn then _ else _) = _
        rw [if_pos rfl]; rfl
      · rw [if_neg z] at hc; cases hc
  rw [this, e]
  exact rds_all hr.ok
theorem good_names {ns : List Nd} {es : List Ed} (h : good ns es = true) : ∀ p ∈ ns, p.name.size ≤ 8 := by
  intro p hp
  unfold good goodN at h
  simp only [Bool.and_eq_true, decide_eq_true_eq] at h
  have := h.1.2.2.1 p hp
  unfold ndB nameB at this
  simp only [Bool.and_eq_true, decide_eq_true_eq] at this
  exact this.1.1.2.1
set_option maxRecDepth 100000
set_option maxHeartbeats 4000000
theorem kopenS {gt : Nat} {H : Bool → Value} {T : Tp} {a b : Option Addr} {c' e' : Nat} {ns : List Nd} {es : List Ed} (h : Its w0 (.tape w0.heap.size gt H T :: l) w) (HL : ∀ W x, Its w0 (x :: l) W → Lyt W a b c' e' n m ns es) (pause : Int) {got : List Nt} {r : List Int} (hr : NRds T.now got r) (hN : got.length ≤ 8000) (hKb : Hb) :
    Calls Tryz.prog 8 #[.agg #[.slice a n c', .slice b m e'], .int .i64 pause, .pointer (some ⟨gt, 0, none⟩)] w (OpenP w0 l gt ns es pause n m (opn ns es pause T got r)) := by
  have L0 := HL w _ h
  have hn := L0.hn
  have hm := L0.hm
  have HI := hide h
  have HB1 : Hid (Its w0 (.box w.heap.size #[.slice a n c', .slice b m e'] 25 :: .tape w0.heap.size gt H T :: l) (w.alloc (.cells #[.slice a n c', .slice b m e'] 25))) := hide (h.boxN _ 25 rfl)
  have HLH := hide HL
  have K43 : Hid (Calls Tryz.prog 23 #[.agg #[.slice a n c', .slice b m e']] (w.alloc (.cells #[.slice a n c', .slice b m e'] 25)) fun e w' => e = .returned (.int .i64 (if good ns es = true then 0 else 61)) ∧ Its w0 (.box w.heap.size #[.slice a n c', .slice b m e'] 25 :: .tape w0.heap.size gt H T :: l) w') := hide ((check_l (HL _ _ HB1.out.tail)).mono (by
    rintro e w' ⟨rfl, q⟩
    exact ⟨rfl, HB1.out.keep q⟩))
  have SB : Hid (∀ W x, Its w0 (.box w.heap.size #[.slice a n c', .slice b m e'] 25 :: x :: l) W → W.cell? ⟨w.heap.size, 0, none⟩ = some (.slice a n c') ∧ W.cell? ⟨w.heap.size, 1, none⟩ = some (.slice b m e')) := hide (fun W x hW => ⟨(cells_at hW.one 0).1, (cells_at hW.one 1).1⟩)
  obtain ⟨pr, hpr⟩ : ∃ pr, opn ns es pause T got r = pr := ⟨_, rfl⟩
  have HPR := hide hpr
  have hbx := HB1.out.one
  have b0 := (cells_at hbx 0).1
  have b1 := (cells_at hbx 1).1
  rw [hpr]
  have HERR : Hid (∀ (cd : Int) (T' : Tp) (H' : Bool → Value) w', cd ≠ 0 → pr = (cd, T', none) → Its w0 (.tape w0.heap.size gt H' T' :: l) w' → OpenP w0 l gt ns es pause n m pr (.returned (.tuple #[.pointer none, .int .i64 cd])) w') := hide (fun cd T' H' w' q1 q2 q3 => by subst q2; exact .inl ⟨q1, rfl, H', q3⟩)
  cases hg : good ns es with
  | false =>
    rw [hg] at K43
    have HE : Hid (pr = (61, T, none)) := hide (by rw [← hpr]; unfold opn; rw [if_pos hg])
    generalize OpenP w0 l gt ns es pause n m pr = R at *
    clear h HL L0 hn hm hr hN hpr hbx hg
    go_enter Tryz.func8, Tryz.ntmps8
    go_wp2_with (go_at_call 23; refine K43.out.mono ?_; rintro e w1 ⟨rfl, q⟩; have H1 := hide q; clear q)
    exact HERR.out 61 T H _ (by decide) HE.out H1.out.tail
  | true =>
  rw [hg] at K43
  by_cases hp : pause < 1 ∨ 1000 < pause
  case pos =>
    have HE : Hid (pr = (1, T, none)) := hide (by rw [← hpr]; unfold opn; rw [if_neg (by rw [hg]; simp), if_pos hp])
    generalize OpenP w0 l gt ns es pause n m pr = R at *
    clear h HL L0 hn hm hr hN hpr hbx hg
    by_cases p1 : pause < 1
    · clear hp
      go_enter Tryz.func8, Tryz.ntmps8
      go_wp2_with (go_at_call 23; refine K43.out.mono ?_; rintro e w1 ⟨rfl, q⟩; have H1 := hide q; clear q)
      exact HERR.out 1 T H _ (by decide) HE.out H1.out.tail
    · have p2 : 1000 < pause := by omega
      clear hp
      go_enter Tryz.func8, Tryz.ntmps8
      go_wp2_with (go_at_call 23; refine K43.out.mono ?_; rintro e w1 ⟨rfl, q⟩; have H1 := hide q; clear q)
      exact HERR.out 1 T H _ (by decide) HE.out H1.out.tail
  have p1 : ¬ pause < 1 := by omega
  have p2 : ¬ 1000 < pause := by omega
  have HP : Hid (1 ≤ pause ∧ pause ≤ 1000) := hide (by omega)
  have K44 : Hid (∀ W, Its w0 (.box w.heap.size #[.slice a n c', .slice b m e'] 25 :: .tape w0.heap.size gt H T :: l) W → Calls Tryz.prog 24 #[.pointer (some ⟨gt, 0, none⟩)] W fun e w' => e = .returned (.tuple #[.int .i64 (T.rep r).1, .int .i64 (T.rep r).2.1]) ∧ ∃ H', Its w0 (.box w.heap.size #[.slice a n c', .slice b m e'] 25 :: .tape w0.heap.size gt H' (T.rep r).2.2 :: l) w') := hide (fun W hW => by
    refine (repairS hW.swap hr).mono ?_
    rintro e w' ⟨rfl, H', q⟩
    exact ⟨rfl, H', q.swap⟩)
  have HE1 : Hid ((T.rep r).2.1 ≠ 0 → pr = ((T.rep r).2.1, (T.rep r).2.2, none)) := hide (fun q => by rw [← hpr]; unfold opn; rw [if_neg (by rw [hg]; simp), if_neg hp, if_pos q])
  have HE2 : Hid ((T.rep r).2.1 = 0 → rpl got (Mr.nw n es) Bk.new = none → pr = (180, (T.rep r).2.2, none)) := hide (fun q z => by rw [← hpr]; unfold opn; rw [if_neg (by rw [hg]; simp), if_neg hp, if_neg (by rw [q]; simp), hn, if_pos z])
  have HE3 : Hid (∀ S K, (T.rep r).2.1 = 0 → rpl got (Mr.nw n es) Bk.new = some (S, K) → pr = (0, (T.rep r).2.2, some (S, K))) := hide (fun S K q z => by rw [← hpr]; unfold opn; rw [if_neg (by rw [hg]; simp), if_neg hp, if_neg (by rw [q]; simp), hn, if_neg (by rw [z]; simp), z])
  have HNow : Hid ((T.rep r).2.1 = 0 → NRds (T.rep r).2.2.now got []) := hide (fun q => rep_now hr q)
  have HOK : Hid (∀ (g : Nat) (P : Kp) (T' : Tp) S K w', pr = (0, T', some (S, K)) → (P.S = S ∧ P.K = K) → Its w0 (.ctl w0.heap.size g ⟨ns, es, pause, gt⟩ n m P (ct1 m T' S K) :: l) w' → OpenP w0 l gt ns es pause n m pr (.returned (.tuple #[.pointer (some ⟨g, 0, none⟩), .int .i64 0])) w') := hide (fun g P T' S K w' q1 q2 q3 => by subst q1; exact .inr ⟨rfl, g, P, S, K, rfl, rfl, q2, q3⟩)
  generalize OpenP w0 l gt ns es pause n m pr = R at *
  generalize (T.rep r).1 = rc at *
  generalize (T.rep r).2.1 = rcd at *
  generalize (T.rep r).2.2 = T2 at *
  clear hpr HPR hp
  by_cases h0 : rcd = 0
  case neg =>
    have h0' : (rcd == 0) = false := beq_eq_false_iff_ne.2 h0
    clear h HL L0 hn hm hr hN hbx hg HE2 HE3 HNow HOK
    go_enter Tryz.func8, Tryz.ntmps8
    go_wp2_with (first
      | (go_at_call 23; refine K43.out.mono ?_; rintro e w1 ⟨rfl, q⟩; have H1 := hide q; clear q)
      | (go_at_call 24; refine (K44.out _ H1.out).mono ?_; rintro e w2 ⟨rfl, H', q⟩; have H2 := hide q; clear q))
    exact HERR.out rcd T2 H' _ h0 (HE1.out h0) H2.out.tail
  subst h0
  obtain ⟨CI, mk, oI⟩ := made_any intE 0 rfl (m + 1) (by have := (good_he hg).2; omega) (by decide)
  have hmk : ∀ W, (Instr.makeSlice 40 (.int .i64 ((m : Int) + 1)) (.int .i64 ((m : Int) + 1))).run Tryz.prog W = .ok (.slice (some ⟨W.heap.size, 0, none⟩) (m + 1) (m + 1)) (W.alloc (.cells CI 3)) := fun W => by
    have := mk W
    rw [show (((m + 1 : Nat)) : Int) = (m : Int) + 1 by omega] at this
    exact this
  have HMI : Hid (∀ W : World, intE.Own (W.alloc (.cells CI 3)) W.heap.size (.slice (some ⟨W.heap.size, 0, none⟩) (m + 1) (m + 1)) (List.replicate (m + 1) 0)) := hide oI
  have hm120 : m ≤ 1000 ∧ n ≤ 1000 := by have := good_he hg; omega
  have j1 : wrap64 ((m : Int) + 1) = (m : Int) + 1 := by unfold wrap64; omega
  have j1k : IntKind.i64.wrap ((m : Int) + 1) = (m : Int) + 1 := by unfold IntKind.wrap; simp [IntKind.signed, IntKind.bits]; omega
  have K45 : Hid (∀ W x y z, Its w0 (x :: y :: z :: l) W → Calls Tryz.prog 25 #[.agg #[.slice a n c', .slice b m e']] W fun r w' => ∃ a1 c1 b1 e1, r = .returned (.agg #[.slice a1 n c1, .slice b1 m e1]) ∧ Its w0 (.row ndE w0.heap.size (.slice a1 n c1) ns :: .row edE w0.heap.size (.slice b1 m e1) es :: x :: y :: z :: l) w') := hide (fun W x y z hW => by
    have L := HL W z hW.tail.tail
    refine (kcopy_any L.hn L.hm hm120.2 hm120.1 (fun p hp => Nat.le_trans (good_names hg p hp) (by decide)) L.hv L.hu).mono ?_
    rintro r w' ⟨a1, c1, b1, e1, rfl, q⟩
    exact ⟨a1, c1, b1, e1, rfl, hW.add2 q⟩)
  have HGd : Hid (good ns es = true ∧ ns.length = n ∧ es.length = m) := hide ⟨hg, hn, hm⟩
  have KR : Hid (∀ W g P v4 v5, Its w0 (.ct0 w0.heap.size g ⟨ns, es, pause, gt⟩ n m P (ct1 m T2 (Mr.nw n es) Bk.new) v4 v5 :: l) W → Calls Tryz.prog 26 #[.pointer (some ⟨g, 0, none⟩)] W (RecP w0 l g ⟨ns, es, pause, gt⟩ n m (ct1 m T2 (Mr.nw n es) Bk.new) got)) := hide (fun W g P v4 v5 hW => krecall0 hW (HNow.out rfl) hN)
  clear h HL L0 hn hm hr hN hbx hg mk oI HE1 hm120
  obtain ⟨l3, hl3⟩ : ∃ l3 : Nat → List It, l3 = fun _ => l := ⟨_, rfl⟩
  clear hl3
  have HFIN : Hid (∀ W g kg a1 c1 b1 e1 H', Its w0 (.box g (cc0 ⟨a1, c1, b1, e1, gt, H', 0, (0, 0), 0, hKb, kg, fun _ => .slice none 0 0, Mr.nw n es, Bk.new⟩ (.pointer none) (.pointer none) n m pause false) 90 :: .row ndE w0.heap.size (.slice a1 n c1) ns :: .row edE w0.heap.size (.slice b1 m e1) es :: .ints w0.heap.size (.slice (some ⟨kg, 0, none⟩) (m + 1) (m + 1)) (List.replicate (m + 1) 0) :: .tape w0.heap.size gt H' T2 :: l) W → Its w0 (.ct0 w0.heap.size g ⟨ns, es, pause, gt⟩ n m ⟨a1, c1, b1, e1, gt, H', 0, (0, 0), 0, hKb, kg, fun _ => .slice none 0 0, Mr.nw n es, Bk.new⟩ (ct1 m T2 (Mr.nw n es) Bk.new) (.pointer none) (.pointer none) :: l) W) := hide (fun W g kg a1 c1 b1 e1 H' hW => by
    have h1 := hW.new (x := .jobs (fun _ => .slice none 0 0) (fun _ => [])) (fun t ht => JRd.nil _) (fun k hk => by obtain ⟨t, ht, q⟩ := hk; cases q) (Below.refl _ _)
    have h2 : Its w0 (.box g (cc0 ⟨a1, c1, b1, e1, gt, H', 0, (0, 0), 0, hKb, kg, fun _ => .slice none 0 0, Mr.nw n es, Bk.new⟩ (.pointer none) (.pointer none) n m pause false) 90 :: .row ndE w0.heap.size (.slice a1 n c1) ns :: .row edE w0.heap.size (.slice b1 m e1) es :: .ints w0.heap.size (.slice (some ⟨kg, 0, none⟩) (m + 1) (m + 1)) (List.replicate (m + 1) 0) :: .jobs (fun _ => .slice none 0 0) (fun _ => []) :: .tape w0.heap.size gt H' T2 :: l) W := h1.perm (by
      exact (List.perm_middle (l₁ := [_, _, _, _])).symm)
    obtain ⟨g1, g2, g3⟩ := HGd.out
    have h3 := h2.new (x := .fact (KF ⟨ns, es, pause, gt⟩ n m ⟨a1, c1, b1, e1, gt, H', 0, (0, 0), 0, hKb, kg, fun _ => .slice none 0 0, Mr.nw n es, Bk.new⟩ (ct1 m T2 (Mr.nw n es) Bk.new))) ⟨g1, g2, g3, fun p hp => Nat.le_trans (good_names g1 p hp) (by decide), rfl, HP.out, by simp [ct1], fun t ht => rfl, fun t d hd => by cases hd⟩ (fun k hk => hk.elim) (Below.refl _ _)
    exact Its.shut (a := .fact _ :: pre0 w0.heap.size g ⟨ns, es, pause, gt⟩ n m ⟨a1, c1, b1, e1, gt, H', 0, (0, 0), 0, hKb, kg, fun _ => .slice none 0 0, Mr.nw n es, Bk.new⟩ (ct1 m T2 (Mr.nw n es) Bk.new) (.pointer none) (.pointer none)) h3)
  go_enter Tryz.func8, Tryz.ntmps8
  go_upto_region 11 with (first
    | (go_at_call 23; refine K43.out.mono ?_; rintro e w1 ⟨rfl, q⟩; have H1 := hide q; clear q)
    | (go_at_call 24; refine (K44.out _ H1.out).mono ?_; rintro e w2 ⟨rfl, H', q⟩; have H2 := hide q; clear q))
  clear b0 b1
  go_cut [11] (fun v11 wx => ∃ (g kg : Nat) (a1 : Option Addr) (c1 : Nat) (b1 : Option Addr) (e1 : Nat), v11 = .pointer (some ⟨g, 0, none⟩) ∧ Hid (Its w0 (.box g (cc0 ⟨a1, c1, b1, e1, gt, H', 0, (0, 0), 0, hKb, kg, fun _ => .slice none 0 0, Mr.nw n es, Bk.new⟩ (.pointer none) (.pointer none) n m pause false) 90 :: .row ndE w0.heap.size (.slice a1 n c1) ns :: .row edE w0.heap.size (.slice b1 m e1) es :: .ints w0.heap.size (.slice (some ⟨kg, 0, none⟩) (m + 1) (m + 1)) (List.replicate (m + 1) 0) :: .tape w0.heap.size gt H' T2 :: l) wx))
  case first =>
    have SBx : Hid (∀ W, Its w0 (.box w.heap.size #[.slice a n c', .slice b m e'] 25 :: .tape w0.heap.size gt H' T2 :: l) W → W.cell? ⟨w.heap.size, 0, none⟩ = some (.slice a n c') ∧ W.cell? ⟨w.heap.size, 1, none⟩ = some (.slice b m e')) := hide (fun W hW => SB.out W _ hW)
    refine wp_region_held_drew (S := (fun W => W.cell? ⟨w.heap.size, 0, none⟩ = some (.slice a n c') ∧ W.cell? ⟨w.heap.size, 1, none⟩ = some (.slice b m e'))) (by kernel_rfl) (by first | exact SBx.out _ H2.out | exact SBx.out _ (H2.out.hp rfl rfl rfl rfl)) (fun hS => ?_)
    refine wpAnyH_take (i := 0) (v := .agg #[.slice a n c', .slice b m e']) rfl (by kernel_rfl) (by kernel_rfl) (by kernel_rfl) (fun _ _ _ h => h) (Or.inl ⟨by kernel_rfl, fun W' hW => by obtain ⟨s0, s1⟩ := hW; go_simp⟩) hS ?_
    refine wpAnyH_take (i := 2) (v := .int .i64 pause) rfl (by kernel_rfl) (by kernel_rfl) (by kernel_rfl) (fun _ _ _ h => h) (Or.inl ⟨by kernel_rfl, fun W' hW => by obtain ⟨s0, s1⟩ := hW; go_simp⟩) hS ?_
    refine wpAnyH_take (i := 3) (v := .pointer (some ⟨gt, 0, none⟩)) rfl (by kernel_rfl) (by kernel_rfl) (by kernel_rfl) (fun _ _ _ h => h) (Or.inl ⟨by kernel_rfl, fun W' hW => by obtain ⟨s0, s1⟩ := hW; go_simp⟩) hS ?_
    refine wpAnyH_take (i := 4) (v := .pointer (some ⟨w.heap.size, 1, none⟩)) rfl (by kernel_rfl) (by kernel_rfl) (by kernel_rfl) (fun _ _ _ h => h) (Or.inl ⟨by kernel_rfl, fun W' hW => by obtain ⟨s0, s1⟩ := hW; go_simp⟩) hS ?_
    refine wpAnyH_take (i := 5) (v := .slice b m e') rfl (by kernel_rfl) (by kernel_rfl) (by kernel_rfl) (fun _ _ _ h => h) (Or.inl ⟨by kernel_rfl, fun W' hW => by obtain ⟨s0, s1⟩ := hW; go_simp⟩) hS ?_
    refine wpAnyH_take (i := 6) (v := .int .i64 (m : Int)) rfl (by kernel_rfl) (by kernel_rfl) (by kernel_rfl) (fun _ _ _ h => h) (Or.inl ⟨by kernel_rfl, fun W' hW => by obtain ⟨s0, s1⟩ := hW; go_simp⟩) hS ?_
    refine wpAnyH_take (i := 7) (v := .int .i64 ((m : Int) + 1)) rfl (by kernel_rfl) (by kernel_rfl) (by kernel_rfl) (fun _ _ _ h => h) (Or.inl ⟨by kernel_rfl, fun W' hW => by obtain ⟨s0, s1⟩ := hW; go_simp; try exact j1k⟩) hS ?_
    refine wpAnyH_ready (rs := [1, 8]) (by kernel_rfl) (by simp) ?_
    refine AllReadyH.cons rfl (fun K hK => ?_) (AllReadyH.cons rfl (fun K hK => ?_) AllReadyH.nil)
    · go_simp
      go_at_call 25
      refine (K45.out _ (.fact True) (.box w.heap.size #[.slice a n c', .slice b m e'] 25) (.tape w0.heap.size gt H' T2) ?_).mono ?_
      · exact (H2.out.new (x := .fact True) trivial (fun k hk => hk.elim) (Below.refl _ _)).hp rfl rfl rfl rfl
      rintro e w3 ⟨a1, c1, b1, e1, rfl, q⟩
      have H3 := hide (show Its w0 (.row ndE w0.heap.size (.slice a1 n c1) ns :: .row edE w0.heap.size (.slice b1 m e1) es :: .box w.heap.size #[.slice a n c', .slice b m e'] 25 :: .tape w0.heap.size gt H' T2 :: l) w3 from ((q.pick 2 rfl).tail))
      clear q
      go_simp
      have hS3 := SBx.out _ H3.out.tail.tail
      refine hK.out _ _ hS3 (fun _ => ?_)
      clear hK K
      refine wpAnyH_ready (rs := [8]) (by kernel_rfl) (by simp) ?_
      refine AllReadyH.cons rfl (fun K hK => ?_) AllReadyH.nil
      have H4 := hide (H3.out.new (x := .ints w0.heap.size (.slice (some ⟨w3.heap.size, 0, none⟩) (m + 1) (m + 1)) (List.replicate (m + 1) 0)) ((HMI.out w3).mono H3.out.size) (fun k hk => by cases hk; exact Nat.le_refl _) (below_new w3 (.cells CI 3)))
      go_simp
      have hS4 := SBx.out _ H4.out.tail.tail.tail
      refine hK.out _ _ (by first | exact hS4 | exact SBx.out _ (H4.out.tail.tail.tail.hp rfl rfl rfl rfl)) (fun _ => ?_)
      clear hK K
      obtain ⟨kg, hkg⟩ : ∃ kg, w3.heap.size = kg := ⟨_, rfl⟩
      rw [hkg] at H4
      simp only [hkg]
      have H5 := hide (show Its w0 (.row ndE w0.heap.size (.slice a1 n c1) ns :: .row edE w0.heap.size (.slice b1 m e1) es :: .ints w0.heap.size (.slice (some ⟨kg, 0, none⟩) (m + 1) (m + 1)) (List.replicate (m + 1) 0) :: .tape w0.heap.size gt H' T2 :: l) _ from (((H4.out.pick 3 rfl).tail).pick 2 rfl).pick 2 rfl)
      have HB5 := hide (show Its w0 (.box w.heap.size #[.slice a n c', .slice b m e'] 25 :: _) _ from H4.out.pick 3 rfl)
      refine wpAnyH_ready (rs := [9]) (by kernel_rfl) (by simp) ?_
      refine AllReadyH.cons rfl (fun K hK => ?_) AllReadyH.nil
      go_simp
      refine hK.out _ _ (by first | exact ⟨(cells_at HB5.out.one 0).1, (cells_at HB5.out.one 1).1⟩) (fun _ => ?_)
      clear hK K
      refine wpAnyH_ready (rs := [10]) (by kernel_rfl) (by simp) ?_
      refine AllReadyH.cons rfl (fun K hK => ?_) AllReadyH.nil
      have H6 := hide (HB5.out.boxN (cc0 ⟨a1, c1, b1, e1, gt, H', 0, (0, 0), 0, hKb, kg, fun _ => .slice none 0 0, Mr.nw n es, Bk.new⟩ (.pointer none) (.pointer none) n m pause false) 90 rfl)
      have H7 := hide (H5.out.boxN (cc0 ⟨a1, c1, b1, e1, gt, H', 0, (0, 0), 0, hKb, kg, fun _ => .slice none 0 0, Mr.nw n es, Bk.new⟩ (.pointer none) (.pointer none) n m pause false) 90 rfl)
      go_simp
      refine hK.out _ _ (by first | exact (fun hW => ⟨(cells_at hW.two 0).1, (cells_at hW.two 1).1⟩) H6.out | exact (fun hW => ⟨(cells_at (Its.two hW) 0).1, (cells_at (Its.two hW) 1).1⟩) (H6.out.hp rfl rfl rfl rfl)) (fun _ => ?_)
      clear hK K
      refine wpAnyH_ready (rs := [11]) (by kernel_rfl) (by simp) ?_
      refine AllReadyH.cons rfl (fun K hK => ?_) AllReadyH.nil
      go_simp
      refine hK.out _ _ (by first | exact (fun hW => ⟨(cells_at (Its.two hW) 0).1, (cells_at (Its.two hW) 1).1⟩) H6.out | exact (fun hW => ⟨(cells_at (Its.two hW) 0).1, (cells_at (Its.two hW) 1).1⟩) (H6.out.hp rfl rfl rfl rfl)) (fun _ => ?_)
      clear hK K
      refine wpAnyH_done (by kernel_rfl) ?_ _
      go_wp2_with fail
      go_meet
      first
        | exact ⟨_, kg, a1, c1, b1, e1, rfl, H7⟩
        | (have ez : (w3.alloc (.cells CI 3)).heap.size = kg + 1 := by (simp [hkg])
           rw [ez] at H7
           exact ⟨_, kg, a1, c1, b1, e1, rfl, H7⟩)
    · have H4 := hide (H2.out.new (x := .ints w0.heap.size (.slice (some ⟨w2.heap.size, 0, none⟩) (m + 1) (m + 1)) (List.replicate (m + 1) 0)) ((HMI.out w2).mono H2.out.size) (fun k hk => by cases hk; exact Nat.le_refl _) (below_new w2 (.cells CI 3)))
      go_simp
      refine hK.out _ _ (by first | exact SBx.out _ H4.out.tail | exact SBx.out _ (H4.out.tail.hp rfl rfl rfl rfl)) (fun _ => ?_)
      clear hK K
      obtain ⟨kg, hkg⟩ : ∃ kg, w2.heap.size = kg := ⟨_, rfl⟩
      rw [hkg] at H4
      simp only [hkg]
      refine wpAnyH_ready (rs := [1]) (by kernel_rfl) (by simp) ?_
      refine AllReadyH.cons rfl (fun K hK => ?_) AllReadyH.nil
      go_simp
      go_at_call 25
      refine (K45.out _ (.ints w0.heap.size (.slice (some ⟨kg, 0, none⟩) (m + 1) (m + 1)) (List.replicate (m + 1) 0)) (.box w.heap.size #[.slice a n c', .slice b m e'] 25) (.tape w0.heap.size gt H' T2) ?_).mono ?_
      · first
          | exact H4.out
          | exact H4.out.hp rfl rfl rfl rfl
      rintro e w3 ⟨a1, c1, b1, e1, rfl, q⟩
      have H3 := hide q
      clear q
      go_simp
      have hS3 := SBx.out _ H3.out.tail.tail.tail
      refine hK.out _ _ hS3 (fun _ => ?_)
      clear hK K
      have H5 := hide (show Its w0 (.row ndE w0.heap.size (.slice a1 n c1) ns :: .row edE w0.heap.size (.slice b1 m e1) es :: .ints w0.heap.size (.slice (some ⟨kg, 0, none⟩) (m + 1) (m + 1)) (List.replicate (m + 1) 0) :: .tape w0.heap.size gt H' T2 :: l) _ from (H3.out.pick 3 rfl).tail)
      have HB5 := hide (show Its w0 (.box w.heap.size #[.slice a n c', .slice b m e'] 25 :: _) _ from H3.out.pick 3 rfl)
      refine wpAnyH_ready (rs := [9]) (by kernel_rfl) (by simp) ?_
      refine AllReadyH.cons rfl (fun K hK => ?_) AllReadyH.nil
      go_simp
      refine hK.out _ _ (by first | exact ⟨(cells_at HB5.out.one 0).1, (cells_at HB5.out.one 1).1⟩) (fun _ => ?_)
      clear hK K
      refine wpAnyH_ready (rs := [10]) (by kernel_rfl) (by simp) ?_
      refine AllReadyH.cons rfl (fun K hK => ?_) AllReadyH.nil
      have H6 := hide (HB5.out.boxN (cc0 ⟨a1, c1, b1, e1, gt, H', 0, (0, 0), 0, hKb, kg, fun _ => .slice none 0 0, Mr.nw n es, Bk.new⟩ (.pointer none) (.pointer none) n m pause false) 90 rfl)
      have H7 := hide (H5.out.boxN (cc0 ⟨a1, c1, b1, e1, gt, H', 0, (0, 0), 0, hKb, kg, fun _ => .slice none 0 0, Mr.nw n es, Bk.new⟩ (.pointer none) (.pointer none) n m pause false) 90 rfl)
      go_simp
      refine hK.out _ _ (by first | exact (fun hW => ⟨(cells_at hW.two 0).1, (cells_at hW.two 1).1⟩) H6.out | exact (fun hW => ⟨(cells_at (Its.two hW) 0).1, (cells_at (Its.two hW) 1).1⟩) (H6.out.hp rfl rfl rfl rfl)) (fun _ => ?_)
      clear hK K
      refine wpAnyH_ready (rs := [11]) (by kernel_rfl) (by simp) ?_
      refine AllReadyH.cons rfl (fun K hK => ?_) AllReadyH.nil
      go_simp
      refine hK.out _ _ (by first | exact (fun hW => ⟨(cells_at (Its.two hW) 0).1, (cells_at (Its.two hW) 1).1⟩) H6.out | exact (fun hW => ⟨(cells_at (Its.two hW) 0).1, (cells_at (Its.two hW) 1).1⟩) (H6.out.hp rfl rfl rfl rfl)) (fun _ => ?_)
      clear hK K
      refine wpAnyH_done (by kernel_rfl) ?_ _
      go_wp2_with fail
      go_meet
      first
        | exact ⟨_, kg, a1, c1, b1, e1, rfl, H7⟩
        | (have ez : (w3.alloc (.cells CI 3)).heap.size = kg + 1 := by (simp [hkg])
           rw [ez] at H7
           exact ⟨_, kg, a1, c1, b1, e1, rfl, H7⟩)
  case rest =>
    obtain ⟨g, kg, a1, c1, b1, e1, rfl, HC⟩ := hcut
    have KRx := hide (KR.out wc g _ _ _ (HFIN.out _ _ _ _ _ _ _ _ HC.out))
    cases hrp : rpl got (Mr.nw n es) Bk.new with
    | none =>
      have HEr := hide (HE2.out (by first | rfl | trivial) hrp)
      have KR2 : Hid (Calls Tryz.prog 26 #[.pointer (some ⟨g, 0, none⟩)] wc fun e w' => e = .returned (.int .i64 180) ∧ ∃ H', Its w0 (.tape w0.heap.size gt H' T2 :: l) w') := hide (KRx.out.mono (by
        rintro e w' ⟨P, q, (⟨_, z⟩ | ⟨rfl, z⟩)⟩
        · rw [hrp] at z; cases z
        · refine ⟨rfl, P.Ht, ?_⟩
          have hgq := (kt_f q.one).gq
          have q1 := q.kopen.1.pick 5 rfl
          rw [hgq] at q1
          exact Its.tails [_, _, _, _, _, _, _] (q1.perm (by exact (List.perm_middle (l₁ := [_, _, _, _, _, _, _])).symm))))
      clear KRx HFIN KR hrp
      go_wp2_with (go_at_call 26; refine KR2.out.mono ?_; rintro e w5 ⟨rfl, H9, q⟩; have H6 := hide q; clear q)
      exact HERR.out 180 T2 H9 _ (by decide) HEr.out H6.out
    | some p =>
      obtain ⟨S, K0⟩ := p
      have HEr := hide (HE3.out S K0 (by first | rfl | trivial) hrp)
      have KR2 : Hid (Calls Tryz.prog 26 #[.pointer (some ⟨g, 0, none⟩)] wc fun e w' => e = .returned (.int .i64 0) ∧ ∃ P, (P.S = S ∧ P.K = K0) ∧ Its w0 (.ctl w0.heap.size g ⟨ns, es, pause, gt⟩ n m P (ct1 m T2 S K0) :: l) w') := hide (KRx.out.mono (by
        rintro e w' ⟨P, q, (⟨rfl, z⟩ | ⟨_, z⟩)⟩
        · rw [hrp] at z
          cases z
          exact ⟨rfl, P, ⟨rfl, rfl⟩, q.kany⟩
        · rw [hrp] at z; cases z))
      clear KRx HFIN KR hrp
      go_wp2_with (go_at_call 26; refine KR2.out.mono ?_; rintro e w5 ⟨rfl, P9, q1, q2⟩; have H6 := hide q2; have H7 := hide q1; clear q1 q2)
      exact HOK.out g P9 T2 S K0 _ HEr.out H7.out H6.out
end
end Go.Proofs.YtocmngpoemfpkabGreatDoor

namespace Go.Proofs.YtocmngpoemfpkabGreatDoor
open Go.RowKit
set_option maxRecDepth 100000 in
set_option maxHeartbeats 2000000 in
theorem rname_any (s : ByteArray) (w : World) : Calls Tryz.prog 62 #[.string s] w fun e w' => e = .returned (.bool (nameB s)) ∧ w' = w := by
  by_cases h1 : s.size < 1
  · have e1 : nameB s = false := by unfold nameB; exact decide_eq_false (by omega)
    rw [e1]
    have h1' : (s.size : Int) < 1 := by omega
    go_enter Tryz.func62, Tryz.ntmps62
    go_wp2_with fail
    go_ret
    exact ⟨rfl, rfl⟩
  by_cases h2 : 8 < s.size
  · have e1 : nameB s = false := by unfold nameB; exact decide_eq_false (by omega)
    rw [e1]
    have h1' : ¬ (s.size : Int) < 1 := by omega
    have h2' : (8 : Int) < s.size := by omega
    go_enter Tryz.func62, Tryz.ntmps62
    go_wp2_with fail
    go_ret
    exact ⟨rfl, rfl⟩
  have h1' : ¬ (s.size : Int) < 1 := by omega
  have h2' : ¬ (8 : Int) < s.size := by omega
  have no : Hid (∀ i, i < s.size → chOk i (byteAt s i) = false → nameB s = false) := hide (fun i hi hc => by
    unfold nameB
    refine decide_eq_false (fun h => ?_)
    rw [h.2.2 i hi] at hc; cases hc)
  have yes : Hid ((∀ i, i < s.size → chOk i (byteAt s i) = true) → nameB s = true) := hide (fun h => by
    unfold nameB
    exact decide_eq_true ⟨by omega, by omega, h⟩)
  generalize nameB s = res at *
  have Hsz := hide (And.intro h1 h2)
  clear h1 h2
  go_enter Tryz.func62, Tryz.ntmps62
  go_wp2_with fail
  go_loopw [3] (fun v3 wr => ∃ pos : Nat, wr = w ∧ v3 = .int .i64 pos ∧ pos ≤ s.size ∧ Hid (∀ i, i < pos → chOk i (byteAt s i) = true)) (fun v3 _ => s.size - (intOf v3).toNat)
  case atStart => exact ⟨0, rfl, rfl, Nat.zero_le _, hide (fun i hi => by omega)⟩
  case round =>
    obtain ⟨pos, rfl, rfl, hp, hall⟩ := hrel
    by_cases hlt : pos < s.size
    · have j1 : (pos : Int) < (s.size : Int) := by omega
      have j0 : (0 : Int) ≤ (pos : Int) := by omega
      have hidx : ∀ W : World, (Instr.index 9 (.string s) (.int .i64 (pos : Int))).run Tryz.prog W = .ok (.int .u8 (byteAt s pos : Int)) W := fun W => by
        rw [run_index_string W 9 s .i64 (pos : Int) Tryz.underlying9]
        rw [dif_pos ⟨j0, j1⟩, byteAt_eq s pos hlt]
        rfl
      have step : Hid (chOk pos (byteAt s pos) = true → ∀ i, i < pos + 1 → chOk i (byteAt s i) = true) := hide (fun h i hi => by
        rcases Nat.lt_or_ge i pos with h' | h'
        · exact hall.out i h'
        · obtain rfl : i = pos := by omega
          exact h)
      have Hkk : Hid (chOk pos (byteAt s pos) = (decide (97 ≤ byteAt s pos ∧ byteAt s pos ≤ 122) || (decide (48 ≤ byteAt s pos ∧ byteAt s pos ≤ 57) && decide (pos ≠ 0)))) := hide rfl
      have no' : Hid (chOk pos (byteAt s pos) = false → res = false) := hide (no.out pos hlt)
      generalize byteAt s pos = r at *
      by_cases l1 : 97 ≤ r ∧ r ≤ 122
      · have Hst := hide (step.out (by rw [Hkk.out, decide_eq_true l1]; rfl))
        have l2' : (97 : Int) ≤ (r : Int) := by omega
        have l3' : (r : Int) ≤ 122 := by omega
        have d2' : (48 : Int) ≤ (r : Int) := by omega
        have d3' : ¬ (r : Int) ≤ 57 := by omega
        clear step Hkk l1
        go_wp2_with fail
        go_roundw
        case rel => exact ⟨pos + 1, trivial, by go_num, by omega, Hst⟩
        case measure => simp [intOf]; omega
      · have lf : ¬ ((97 : Int) ≤ (r : Int) ∧ (r : Int) ≤ 122) := by omega
        by_cases d1 : 48 ≤ r ∧ r ≤ 57
        · have l2' : ¬ (97 : Int) ≤ (r : Int) := by omega
          have d2' : (48 : Int) ≤ (r : Int) := by omega
          have d3' : (r : Int) ≤ 57 := by omega
          by_cases p0 : pos = 0
          · have c2 := no'.out (by rw [Hkk.out, decide_eq_false l1, decide_eq_true d1, decide_eq_false (by simpa using p0)]; rfl)
            subst c2
            subst p0
            have hidx0 : ∀ W : World, (Instr.index 9 (.string s) (.int .i64 0)).run Tryz.prog W = .ok (.int .u8 (r : Int)) W := hidx
            have j1 : (0 : Int) < (s.size : Int) := j1
            clear hidx j0
            clear l1 lf d1 step Hkk
            go_wp2_with fail
            go_ret
            exact ⟨rfl, rfl⟩
          · have Hst := hide (step.out (by rw [Hkk.out, decide_eq_false l1, decide_eq_true d1, decide_eq_true (by simpa using p0)]; rfl))
            have p0' : ¬ (pos : Int) = 0 := by omega
            clear step Hkk l1 lf d1
            go_wp2_with fail
            go_roundw
            case rel => exact ⟨pos + 1, trivial, by go_num, by omega, Hst⟩
            case measure => simp [intOf]; omega
        · have c2 := no'.out (by rw [Hkk.out, decide_eq_false l1, decide_eq_false d1]; rfl)
          subst c2
          have df : ¬ ((48 : Int) ≤ (r : Int) ∧ (r : Int) ≤ 57) := by omega
          clear step Hkk l1 d1
          by_cases l2 : (97 : Int) ≤ (r : Int)
          · have l3 : ¬ (r : Int) ≤ 122 := fun h => lf ⟨l2, h⟩
            have d2 : (48 : Int) ≤ (r : Int) := by omega
            have d3 : ¬ (r : Int) ≤ 57 := by omega
            clear lf df
            by_cases p0 : pos = 0
            · subst p0
              have hidx0 : ∀ W : World, (Instr.index 9 (.string s) (.int .i64 0)).run Tryz.prog W = .ok (.int .u8 (r : Int)) W := hidx
              have j1 : (0 : Int) < (s.size : Int) := j1
              clear hidx j0
              go_wp2_with fail
              go_ret
              exact ⟨rfl, rfl⟩
            · have p0' : ¬ (pos : Int) = 0 := by omega
              go_wp2_with fail
              go_ret
              exact ⟨rfl, rfl⟩
          · by_cases d2 : (48 : Int) ≤ (r : Int)
            · have d3 : ¬ (r : Int) ≤ 57 := fun h => df ⟨d2, h⟩
              clear lf df
              by_cases p0 : pos = 0
              · subst p0
                have hidx0 : ∀ W : World, (Instr.index 9 (.string s) (.int .i64 0)).run Tryz.prog W = .ok (.int .u8 (r : Int)) W := hidx
                have j1 : (0 : Int) < (s.size : Int) := j1
                clear hidx j0
                go_wp2_with fail
                go_ret
                exact ⟨rfl, rfl⟩
              · have p0' : ¬ (pos : Int) = 0 := by omega
                go_wp2_with fail
                go_ret
                exact ⟨rfl, rfl⟩
            · clear lf df
              by_cases p0 : pos = 0
              · subst p0
                have hidx0 : ∀ W : World, (Instr.index 9 (.string s) (.int .i64 0)).run Tryz.prog W = .ok (.int .u8 (r : Int)) W := hidx
                have j1 : (0 : Int) < (s.size : Int) := j1
                clear hidx j0
                go_wp2_with fail
                go_ret
                exact ⟨rfl, rfl⟩
              · have p0' : ¬ (pos : Int) = 0 := by omega
                go_wp2_with fail
                go_ret
                exact ⟨rfl, rfl⟩
    · obtain rfl : pos = s.size := by omega
      have j1 : ¬ (s.size : Int) < (s.size : Int) := by omega
      have c2 := yes.out hall.out
      subst c2
      go_wp2_with fail
      go_ret
      exact ⟨rfl, rfl⟩
def firstFrom : Nat → List Nd → ByteArray → Option Int
  | _, [], _ => none
  | i, n :: l, s => if n.name = s then some (i : Int) else firstFrom (i + 1) l s
def firstAt (ns : List Nd) (s : ByteArray) : Option Int := firstFrom 0 ns s
theorem firstFrom_drop (s : ByteArray) (ns : List Nd) : ∀ k, k ≤ ns.length → (∀ i p, i < k → ns[i]? = some p → p.name ≠ s) → firstFrom 0 ns s = firstFrom k (ns.drop k) s := by
  intro k
  induction k with
  | zero => intro _ _; rfl
  | succ k ih =>
    intro hk h
    rw [ih (by omega) (fun i p hi => h i p (by omega)), ← List.getElem_cons_drop (show k < ns.length by omega)]
    have := h k ns[k] (by omega) (List.getElem?_eq_getElem (by omega))
    rw [firstFrom, if_neg this]
set_option maxRecDepth 100000 in
set_option maxHeartbeats 2000000 in
theorem rfind_any (a : Option Addr) (c : Nat) (vE : Value) (ns : List Nd) (s : ByteArray) (w : World) (hv : ndE.Rd w (.slice a ns.length c) ns) (hl : ns.length ≤ 100000) (hE : ∃ aE nE cE, vE = .slice aE nE cE) :
    Calls Tryz.prog 63 #[.agg #[.slice a ns.length c, vE], .string s] w fun e w' => e = .returned (.int .i64 ((firstAt ns s).getD (-1))) ∧ Below w.heap.size w w' := by
  obtain ⟨n, hn⟩ : ∃ n, ns.length = n := ⟨_, rfl⟩
  obtain ⟨aE, nE, cE, rfl⟩ := hE
  rw [hn] at hv hl ⊢
  obtain ⟨W0, hW0⟩ : ∃ W0, w.alloc (.cells #[.slice a n c, .slice aE nE cE] 25) = W0 := ⟨_, rfl⟩
  have bA : Below w.heap.size w W0 := by rw [← hW0]; exact (Below.refl _ _).alloc (Nat.le_refl _) _
  have hbox : W0.heap[w.heap.size]? = some (.cells #[.slice a n c, .slice aE nE cE] 25) := by rw [← hW0]; exact heap_new _ _
  have d0 := (cells_at hbox 0).1
  simp at d0
  have HA := hide bA
  have Hv := hide (hv.keep bA)
  have Hn := hide hn
  have HW0 := hide hW0
  have i0 : (n : Int) ≤ 100000 := by omega
  have i1 : (0 : Int) ≤ (n : Int) := by omega
  obtain ⟨res, hres⟩ : ∃ res, (firstAt ns s).getD (-1) = res := ⟨_, rfl⟩
  rw [hres]
  have Hres := hide hres
  clear hn hv hl hbox bA hW0 hres
  go_enter Tryz.func63, Tryz.ntmps63
  go_wp2_with fail
  rw [HW0.out]
  clear HW0
  go_loopw [9] (fun v9 wr => ∃ k : Nat, k ≤ n ∧ v9 = .int .i64 k ∧ wr = W0 ∧ Hid (∀ i p, i < k → ns[i]? = some p → p.name ≠ s)) (fun v9 _ => n - (intOf v9).toNat)
  case atStart => exact ⟨0, by omega, rfl, rfl, hide (fun i p hi => by omega)⟩
  case round =>
    obtain ⟨k, hk, rfl, rfl, HX⟩ := hrel
    by_cases hlt : k < n
    · obtain ⟨p, hp⟩ : ∃ p, ns[k]? = some p := ⟨_, List.getElem?_eq_getElem (by rw [Hn.out]; exact hlt)⟩
      obtain ⟨b, off, rfl, c0, c1, c2⟩ := nd_at Hv.out k p hp
      have j0 : (0 : Int) ≤ (k : Int) := by omega
      have j1 : (k : Int) < (n : Int) := by omega
      have Hp := hide hp
      have ee := eq_bytes p.name s
      clear hp
      by_cases he : p.name = s
      · rw [decide_eq_true he] at ee
        have hr : res = (k : Int) := by
          rw [← Hres.out]
          unfold firstAt
          rw [firstFrom_drop s ns k (by rw [Hn.out]; omega) HX.out]
          have hk' : k < ns.length := by rw [Hn.out]; exact hlt
          have := Hp.out
          rw [List.getElem?_eq_getElem hk'] at this
          cases this
          rw [← List.getElem_cons_drop hk', firstFrom, if_pos he]
          rfl
        subst hr
        clear he
        go_wp2_with fail
        go_ret
        exact ⟨rfl, HA.out⟩
      · rw [decide_eq_false he] at ee
        have HX1 : Hid (∀ i p, i < k + 1 → ns[i]? = some p → p.name ≠ s) := hide (fun i q hi hq => by
          rcases Nat.lt_or_ge i k with h' | h'
          · exact HX.out i q h' hq
          · obtain rfl : i = k := by omega
            rw [Hp.out] at hq
            cases hq
            exact he)
        clear he
        go_wp2_with fail
        go_roundw
        case rel => exact ⟨k + 1, by omega, by go_num, trivial, HX1⟩
        case measure => simp [intOf]; omega
    · obtain rfl : k = n := by omega
      have j1 : ¬ (k : Int) < (k : Int) := by omega
      have hr : res = -1 := by
        rw [← Hres.out]
        unfold firstAt
        rw [firstFrom_drop s ns k (by rw [Hn.out]; omega) HX.out, List.drop_of_length_le (by rw [Hn.out]; omega)]
        rfl
      subst hr
      go_wp2_with fail
      go_ret
      exact ⟨rfl, HA.out⟩
end Go.Proofs.YtocmngpoemfpkabGreatDoor

namespace Go.Proofs.YtocmngpoemfpkabGreatDoor
open Go.RowKit
theorem first_self {ns : List Nd} {k : Nat} {p : Nd} (hp : ns[k]? = some p) (h : p.name ∉ (ns.take k).map (·.name)) : firstAt ns p.name = some (k : Int) := by
  have hk : k < ns.length := by
    rcases Nat.lt_or_ge k ns.length with h' | h'
    · exact h'
    · rw [List.getElem?_eq_none h'] at hp; cases hp
  unfold firstAt
  rw [firstFrom_drop p.name ns k (by omega) (fun i q hi hq e => h (List.mem_map.2 ⟨q, List.mem_of_getElem? (i := i) (by rw [List.getElem?_take_of_lt hi]; exact hq), e⟩)), ← List.getElem_cons_drop hk]
  rw [List.getElem?_eq_getElem hk] at hp
  cases hp
  rw [firstFrom, if_pos rfl]
theorem first_dup {ns : List Nd} {k : Nat} {s : ByteArray} (h : s ∈ (ns.take k).map (·.name)) : (firstAt ns s).getD (-1) < (k : Int) := by
  have : ∀ (l : List Nd) (i k : Nat), s ∈ (l.take k).map (·.name) → (firstFrom i l s).getD (-1) < ((i + k : Nat) : Int) := by
    intro l
    induction l with
    | nil => intro i k h; simp at h
    | cons n l ih =>
      intro i k h
      cases k with
      | zero => simp at h
      | succ k =>
        unfold firstFrom
        split
        · simp; omega
        · rename_i hne
          rw [List.take_succ_cons, List.map_cons, List.mem_cons] at h
          rcases h with h | h
          · exact absurd h.symm hne
          · have := ih (i + 1) k h
            have e : i + 1 + k = i + (k + 1) := by omega
            rw [e] at this
            exact this
  have := this ns 0 k h
  rw [Nat.zero_add] at this
  exact this
set_option maxRecDepth 100000 in
set_option maxHeartbeats 8000000 in
theorem rgood_any (a a' : Option Addr) (c c' : Nat) (ns : List Nd) (es : List Ed) (w : World) (hv : ndE.Rd w (.slice a ns.length c) ns) (hu : edE.Rd w (.slice a' es.length c') es) :
    Calls Tryz.prog 22 #[.agg #[.slice a ns.length c, .slice a' es.length c']] w fun e w' => e = .returned (.bool (good ns es)) ∧ Below w.heap.size w w' := by
  obtain ⟨n, hn⟩ : ∃ n, ns.length = n := ⟨_, rfl⟩
  obtain ⟨m, hm⟩ : ∃ m, es.length = m := ⟨_, rfl⟩
  have noL : n < 1 ∨ 40 < n ∨ 120 < m → good ns es = false := fun h => by
    unfold good goodN goodE
    rcases h with h | h | h
    · rw [decide_eq_false (by omega)]; rfl
    · rw [decide_eq_false (by omega)]; rfl
    · rw [Bool.and_eq_false_iff]; exact .inr (decide_eq_false (by omega))
  have no1 : Hid (∀ k p, ns[k]? = some p → ndB p = false → good ns es = false) := hide (fun k p h1 h2 => by unfold good; rw [bad_no h1 h2]; rfl)
  have no2 : Hid (∀ k p, ns[k]? = some p → p.name ∈ (ns.take k).map (·.name) → good ns es = false) := hide (fun k p h1 h2 => by unfold good; rw [dup_no h1 h2]; rfl)
  have no3 : Hid (∀ k p, es[k]? = some p → edB ns p = false → good ns es = false) := hide (fun k p h1 h2 => by unfold good; rw [edge_bad h1 h2, Bool.and_false])
  have no4 : Hid (∀ k p, es[k]? = some p → p ∈ es.take k → good ns es = false) := hide (fun k p h1 h2 => by unfold good; rw [edge_dup h1 h2, Bool.and_false])
  have yes : Hid (1 ≤ n → n ≤ 40 → m ≤ 120 → (∀ q ∈ ns, ndB q = true) → (ns.map (·.name)).Nodup → (∀ e ∈ es, edB ns e = true) → es.Nodup → good ns es = true) := hide (fun h1 h2 h3 h4 h5 h6 h7 => by
    unfold good goodN goodE
    rw [decide_eq_true (by rw [hn]; exact ⟨h1, h2, h4, h5⟩), decide_eq_true (by rw [hm]; exact ⟨h3, h6, h7⟩)]; rfl)
  generalize good ns es = res at *
  rw [hn] at hv ⊢
  rw [hm] at hu ⊢
  obtain ⟨W0, hW0⟩ : ∃ W0, w.alloc (.cells #[.slice a n c, .slice a' m c'] 25) = W0 := ⟨_, rfl⟩
  have bA : Below w.heap.size w W0 := by rw [← hW0]; exact (Below.refl _ _).alloc (Nat.le_refl _) _
  have hbox : W0.heap[w.heap.size]? = some (.cells #[.slice a n c, .slice a' m c'] 25) := by rw [← hW0]; exact heap_new _ _
  have HA := hide bA
  by_cases hL : n < 1 ∨ 40 < n ∨ 120 < m
  · have e1 := noL hL
    subst e1
    have fin : Hid (∀ W, W = W0 → Below w.heap.size w W) := hide (fun W e => by subst e; exact HA.out)
    clear noL no1 no2 no3 no4 yes hv hu hn hm hbox bA
    subst hW0
    by_cases h1 : n < 1
    · have h1' : (n : Int) < 1 := by omega
      clear hL h1
      go_enter Tryz.func22, Tryz.ntmps22
      go_wp2_with fail
      go_ret
      exact ⟨rfl, HA.out⟩
    · by_cases h2 : 40 < n
      · have h1' : ¬ (n : Int) < 1 := by omega
        have h2' : (40 : Int) < n := by omega
        clear hL h1 h2
        go_enter Tryz.func22, Tryz.ntmps22
        go_wp2_with fail
        go_ret
        exact ⟨rfl, HA.out⟩
      · have h1' : ¬ (n : Int) < 1 := by omega
        have h2' : ¬ (40 : Int) < n := by omega
        have h3' : (120 : Int) < m := by omega
        clear hL h1 h2
        go_enter Tryz.func22, Tryz.ntmps22
        go_wp2_with fail
        go_ret
        exact ⟨rfl, HA.out⟩
  have h1' : ¬ (n : Int) < 1 := by omega
  have h2' : ¬ (40 : Int) < n := by omega
  have h3' : ¬ (120 : Int) < m := by omega
  have i0 : (0 : Int) ≤ n := by omega
  have i1 : (0 : Int) ≤ m := by omega
  have HL := hide hL
  have Hn := hide hn
  have Hm := hide hm
  have Hv := hide (hv.keep bA)
  have Hu := hide (hu.keep bA)
  have Hbox := hide hbox
  have HW0 := hide hW0
  have Hgl := hide (heap_lt hbox)
  have d0 := (cells_at hbox 0).1
  have d1 := (cells_at hbox 1).1
  simp at d0 d1
  have K22 := hide (fun (s : ByteArray) W => rname_any s W)
  have K20 : Hid (∀ (s : ByteArray) W, Below W0.heap.size W0 W → Calls Tryz.prog 63 #[.agg #[.slice a n c, .slice a' m c'], .string s] W fun e w' => e = .returned (.int .i64 ((firstAt ns s).getD (-1))) ∧ Below W.heap.size W w') := hide (fun s W h => by
    have := rfind_any a c (.slice a' m c') ns s W (by rw [Hn.out]; exact Hv.out.keep h) (by rw [Hn.out]; have := HL.out; omega) ⟨_, _, _, rfl⟩
    rw [Hn.out] at this
    exact this)
  obtain ⟨g, hg⟩ : ∃ g, w.heap.size = g := ⟨_, rfl⟩
  have Hg := hide hg
  have XB : Hid (∀ W, Below W0.heap.size W0 W → W.cell? ⟨g, 0, none⟩ = some (.slice a n c) ∧ W.cell? ⟨g, 1, none⟩ = some (.slice a' m c') ∧ Below w.heap.size w W) := hide (fun W h => by
    have hx : W.heap[g]? = some (.cells #[.slice a n c, .slice a' m c'] 25) := by rw [← Hg.out, h.block _ Hgl.out]; exact Hbox.out
    exact ⟨(cells_at hx 0).1, (cells_at hx 1).1, HA.out.trans (h.mono HA.out.size)⟩)
  clear hL noL hn hm hv hu hbox bA hW0 d0 d1
  go_enter Tryz.func22, Tryz.ntmps22
  go_wp2_with fail
  rw [HW0.out]
  try rw [hg]
  clear hg HW0
  go_loopw [28] (fun v28 wr => ∃ k : Nat, k ≤ n ∧ v28 = .int .i64 k ∧ Hid (Below W0.heap.size W0 wr) ∧ Hid (∀ q ∈ ns.take k, ndB q = true) ∧ Hid (((ns.take k).map (·.name)).Nodup)) (fun v28 _ => n - (intOf v28).toNat)
  case atStart => exact ⟨0, by omega, rfl, hide (Below.refl _ _), hide (by simp), hide (by simp)⟩
  case round =>
    obtain ⟨k, hk, rfl, HB, HG, HD⟩ := hrel
    by_cases hlt : k < n
    · obtain ⟨p, hp⟩ : ∃ p, ns[k]? = some p := ⟨_, List.getElem?_eq_getElem (by rw [Hn.out]; exact hlt)⟩
      obtain ⟨b, off, rfl, c0, c1, c2⟩ := nd_at (Hv.out.keep HB.out) k p hp
      obtain ⟨s, kd, z⟩ := p
      simp only at c0 c1 c2
      obtain ⟨x0, x1, _⟩ := XB.out _ HB.out
      have j0 : (0 : Int) ≤ (k : Int) := by omega
      have j1 : (k : Int) < (n : Int) := by omega
      obtain ⟨W1, hW1⟩ : ∃ W1, wr.alloc (.cells #[.string s, .int .i64 kd, .int .i64 z] 133) = W1 := ⟨_, rfl⟩
      have bB : Below wr.heap.size wr W1 := by rw [← hW1]; exact (Below.refl _ _).alloc (Nat.le_refl _) _
      have HB1 : Hid (Below W0.heap.size W0 W1) := hide (HB.out.trans (bB.mono HB.out.size))
      have hx1 : W1.heap[wr.heap.size]? = some (.cells #[.string s, .int .i64 kd, .int .i64 z] 133) := by rw [← hW1]; exact heap_new _ _
      obtain ⟨y0, y1, y2⟩ := XB.out _ HB1.out
      have f0 := (cells_at hx1 0).1
      have f1 := (cells_at hx1 1).1
      have f2 := (cells_at hx1 2).1
      simp at f0 f1 f2
      have Hy2 := hide y2
      have HW1 := hide hW1
      have n1 : Hid (ndB ⟨s, kd, z⟩ = false → res = false) := hide (no1.out k _ hp)
      have n2 : Hid (s ∈ (ns.take k).map (·.name) → res = false) := hide (no2.out k _ hp)
      have nB : Hid (ndB ⟨s, kd, z⟩ = (nameB s && decide (1 ≤ kd ∧ kd ≤ 4) && zoneB z)) := hide rfl
      have Hp := hide hp
      have K22' := hide (fun W => K22.out s W)
      have K20' := hide (fun W => K20.out s W)
      clear hp y2 bB hx1 hW1
      go_upto_region 7 with fail
      rw [HW1.out]
      clear HW1 c0 c1 c2 x0 x1
      cases hnm : nameB s with
      | false =>
        have e1 := n1.out (by rw [nB.out, hnm]; rfl)
        subst e1
        rw [hnm] at K22'
        go_wp2_with (go_at_call 62; refine (K22'.out _).mono ?_; rintro e W2 ⟨rfl, rfl⟩)
        go_ret
        exact ⟨rfl, Hy2.out⟩
      | true =>
        rw [hnm] at K22'
        by_cases k1 : kd < 1
        · have e1 := n1.out (by rw [nB.out, decide_eq_false (show ¬ (1 ≤ kd ∧ kd ≤ 4) by omega), Bool.and_false]; rfl)
          subst e1
          go_wp2_with (go_at_call 62; refine (K22'.out _).mono ?_; rintro e W2 ⟨rfl, rfl⟩)
          go_ret
          exact ⟨rfl, Hy2.out⟩
        by_cases k2 : 4 < kd
        · have e1 := n1.out (by rw [nB.out, decide_eq_false (show ¬ (1 ≤ kd ∧ kd ≤ 4) by omega), Bool.and_false]; rfl)
          subst e1
          go_wp2_with (go_at_call 62; refine (K22'.out _).mono ?_; rintro e W2 ⟨rfl, rfl⟩)
          go_ret
          exact ⟨rfl, Hy2.out⟩
        by_cases z1 : z < 0
        · have e1 := n1.out (by rw [nB.out, show zoneB z = false from decide_eq_false (by omega), Bool.and_false])
          subst e1
          go_wp2_with (go_at_call 62; refine (K22'.out _).mono ?_; rintro e W2 ⟨rfl, rfl⟩)
          go_ret
          exact ⟨rfl, Hy2.out⟩
        by_cases z2 : 7 < z
        · have e1 := n1.out (by rw [nB.out, show zoneB z = false from decide_eq_false (by omega), Bool.and_false])
          subst e1
          go_wp2_with (go_at_call 62; refine (K22'.out _).mono ?_; rintro e W2 ⟨rfl, rfl⟩)
          go_ret
          exact ⟨rfl, Hy2.out⟩
        have ok1 : Hid (ndB ⟨s, kd, z⟩ = true) := hide (by rw [nB.out, hnm, decide_eq_true (show 1 ≤ kd ∧ kd ≤ 4 by omega), show zoneB z = true from decide_eq_true (by omega)]; rfl)
        by_cases hdup : s ∈ (ns.take k).map (·.name)
        · have e1 := n2.out hdup
          subst e1
          have hf := first_dup hdup
          have hf' : ((firstAt ns s).getD (-1) != (k : Int)) = true := bne_iff_ne.2 (by omega)
          clear hdup hf
          generalize (firstAt ns s).getD (-1) = ff at *
          go_wp2_with (first
            | (go_at_call 62; refine (K22'.out _).mono ?_; rintro e W2 ⟨rfl, rfl⟩)
            | (go_at_call 63; refine (K20'.out _ HB1.out).mono ?_; rintro e W3 ⟨rfl, hb3⟩; have Hb3 := hide (Hy2.out.trans (hb3.mono Hy2.out.size)); clear hb3))
          go_ret
          exact ⟨rfl, Hb3.out⟩
        · have hf := first_self Hp.out hdup
          rw [show (⟨s, kd, z⟩ : Nd).name = s from rfl] at hf
          rw [hf] at K20'
          simp only [Option.getD_some] at K20'
          have HD1 := hide (take_nodup Hp.out HD.out hdup)
          have HG1 : Hid (∀ q ∈ ns.take (k + 1), ndB q = true) := hide (fun q hq => by
            rw [List.take_add_one, Hp.out] at hq
            simp at hq
            rcases hq with hq | rfl
            · exact HG.out q hq
            · exact ok1.out)
          clear hdup hf
          go_wp2_with (first
            | (go_at_call 62; refine (K22'.out _).mono ?_; rintro e W2 ⟨rfl, rfl⟩)
            | (go_at_call 63; refine (K20'.out _ HB1.out).mono ?_; rintro e W3 ⟨rfl, hb3⟩; have Hb3 := hide (HB1.out.trans (hb3.mono HB1.out.size)); clear hb3))
          go_roundw
          case rel => exact ⟨k + 1, by omega, by go_num, Hb3, HG1, HD1⟩
          case measure => simp [intOf]; omega
    · obtain rfl : k = n := by omega
      have j1 : ¬ (k : Int) < (k : Int) := by omega
      have et : ns.take k = ns := List.take_of_length_le (by rw [Hn.out]; omega)
      have HG0 : Hid (∀ q ∈ ns, ndB q = true) := hide (by rw [← et]; exact HG.out)
      have HD0 : Hid ((ns.map (·.name)).Nodup) := hide (by rw [← et]; exact HD.out)
      obtain ⟨x0, x1, _⟩ := XB.out _ HB.out
      clear et HG HD
      go_wp2_with fail
      obtain ⟨wA, rfl⟩ : ∃ W, W = wr := ⟨_, rfl⟩
      have HBA := hide HB.out
      clear x0 x1 HB
      go_loopw [72] (fun v72 wr => ∃ i : Nat, i ≤ m ∧ v72 = .int .i64 i ∧ Hid (Below W0.heap.size W0 wr) ∧ Hid (∀ q ∈ es.take i, edB ns q = true) ∧ Hid ((es.take i).Nodup)) (fun v72 _ => m - (intOf v72).toNat)
      case atStart => exact ⟨0, by omega, rfl, HBA, hide (by simp), hide (by simp)⟩
      case round =>
        obtain ⟨i, hi, rfl, HB, HG, HD⟩ := hrel
        by_cases hlt : i < m
        · obtain ⟨p, hp⟩ : ∃ p, es[i]? = some p := ⟨_, List.getElem?_eq_getElem (by rw [Hm.out]; exact hlt)⟩
          obtain ⟨b, off, rfl, c0, c1⟩ := ed_at (Hu.out.keep HB.out) i p hp
          obtain ⟨x, y⟩ := p
          simp only at c0 c1
          obtain ⟨x0, x1, _⟩ := XB.out _ HB.out
          have j2 : (0 : Int) ≤ (i : Int) := by omega
          have j3 : (i : Int) < (m : Int) := by omega
          have n3 : Hid (edB ns (x, y) = false → res = false) := hide (no3.out i _ hp)
          have n4 : Hid ((x, y) ∈ es.take i → res = false) := hide (no4.out i _ hp)
          have eB : Hid (edB ns (x, y) = (decide (0 ≤ x ∧ x < ns.length) && decide (0 ≤ y ∧ y < ns.length) && decide (x ≠ y) && (decide (kindAt ns x = 1) || decide (kindAt ns y = 1)))) := hide rfl
          have Hp := hide hp
          clear hp
          go_upto_region 13 with fail
          go_quiet (fail)
          have bq : Below W0.heap.size W0 (wr.drewN nq) := ⟨HB.out.os, HB.out.tape, HB.out.output, HB.out.size, HB.out.block⟩
          have HB2 := hide bq
          clear bq c0 c1 x0 x1 HB
          generalize wr.drewN nq = W2 at *
          obtain ⟨x0, x1, x2⟩ := XB.out _ HB2.out
          have Hx2 := hide x2
          clear x2
          have kn : (ns.length : Int) = (k : Int) := by rw [Hn.out]
          have HkN := hide kn
          clear kn
          by_cases a1 : x < 0
          · have e1 := n3.out (by rw [eB.out, decide_eq_false (show ¬ (0 ≤ x ∧ x < (ns.length : Int)) by omega)]; rfl)
            subst e1
            go_wp2_with fail
            go_ret
            exact ⟨rfl, Hx2.out⟩
          by_cases a2 : y < 0
          · have e1 := n3.out (by rw [eB.out, decide_eq_false (show ¬ (0 ≤ y ∧ y < (ns.length : Int)) by omega), Bool.and_false]; rfl)
            subst e1
            go_wp2_with fail
            go_ret
            exact ⟨rfl, Hx2.out⟩
          by_cases a3 : (k : Int) ≤ x
          · have e1 := n3.out (by rw [eB.out, decide_eq_false (show ¬ (0 ≤ x ∧ x < (ns.length : Int)) by have := HkN.out; omega)]; rfl)
            subst e1
            go_wp2_with fail
            go_ret
            exact ⟨rfl, Hx2.out⟩
          by_cases a4 : (k : Int) ≤ y
          · have e1 := n3.out (by rw [eB.out, decide_eq_false (show ¬ (0 ≤ y ∧ y < (ns.length : Int)) by have := HkN.out; omega), Bool.and_false]; rfl)
            subst e1
            go_wp2_with fail
            go_ret
            exact ⟨rfl, Hx2.out⟩
          by_cases a5 : x = y
          · have e1 := n3.out (by rw [eB.out, decide_eq_false (show ¬ x ≠ y by simpa using a5), Bool.and_false]; rfl)
            subst e1
            have ae : (x == y) = true := beq_iff_eq.2 a5
            clear a5
            go_wp2_with fail
            go_ret
            exact ⟨rfl, Hx2.out⟩
          have ae : (x == y) = false := beq_eq_false_iff_ne.2 a5
          obtain ⟨px, hpx⟩ : ∃ p, ns[x.toNat]? = some p := ⟨_, List.getElem?_eq_getElem (by rw [Hn.out]; omega)⟩
          obtain ⟨py, hpy⟩ : ∃ p, ns[y.toNat]? = some p := ⟨_, List.getElem?_eq_getElem (by rw [Hn.out]; omega)⟩
          obtain ⟨bn, on, en, _, u1, _⟩ := nd_at (Hv.out.keep HB2.out) x.toNat px hpx
          obtain ⟨bn', on', en', _, u2, _⟩ := nd_at (Hv.out.keep HB2.out) y.toNat py hpy
          rw [en] at en'
          cases en'
          subst en
          have kx : kindAt ns x = px.kind := by unfold kindAt; rw [hpx]; rfl
          have ky : kindAt ns y = py.kind := by unfold kindAt; rw [hpy]; rfl
          have eB2 : Hid (edB ns (x, y) = (decide (px.kind = 1) || decide (py.kind = 1))) := hide (by
            rw [eB.out, decide_eq_true (show 0 ≤ x ∧ x < (ns.length : Int) by have := HkN.out; omega), decide_eq_true (show 0 ≤ y ∧ y < (ns.length : Int) by have := HkN.out; omega), decide_eq_true (show x ≠ y from a5), kx, ky]; rfl)
          clear eB kx ky hpx hpy a5
          generalize px.kind = qx at *
          generalize py.kind = qy at *
          have b1 : (0 : Int) ≤ x := by omega
          have b2 : (0 : Int) ≤ y := by omega
          have b3 : x < (k : Int) := by omega
          have b4 : y < (k : Int) := by omega
          by_cases k1 : qx = 1 ∨ qy = 1
          · have ok1 : Hid (edB ns (x, y) = true) := hide (by rw [eB2.out]; rcases k1 with h | h <;> simp [h])
            have HG1 : Hid (∀ q ∈ es.take (i + 1), edB ns q = true) := hide (fun q hq => by
              rw [List.take_add_one, Hp.out] at hq
              simp at hq
              rcases hq with hq | rfl
              · exact HG.out q hq
              · exact ok1.out)
            have HD1 : Hid ((x, y) ∉ es.take i → (es.take (i + 1)).Nodup) := hide (take_nodupE Hp.out HD.out)
            by_cases k2 : qx = 1
            · have q1 : (qx != 1) = false := by rw [k2]; rfl
              clear k1 k2
              go_upto_region 18 with fail
              clear u1 u2
              go_wp2_with fail
              obtain ⟨wB, rfl⟩ : ∃ W, W = W2 := ⟨_, rfl⟩
              go_loopw [8] (fun v8 wr => ∃ j q : Nat, j ≤ i ∧ v8 = .int .i64 j ∧ wr = wB.drewN q ∧ Hid ((x, y) ∉ es.take j)) (fun v8 _ => i - (intOf v8).toNat)
              case atStart => exact ⟨0, 0, by omega, rfl, rfl, hide (by simp)⟩
              case round =>
                obtain ⟨j, q, hj, rfl, rfl, HX⟩ := hrel
                by_cases hjl : j < i
                · obtain ⟨p', hp'⟩ : ∃ p, es[j]? = some p := ⟨_, List.getElem?_eq_getElem (by rw [Hm.out]; omega)⟩
                  obtain ⟨b', off', e', c0, c1⟩ := ed_at (Hu.out.keep HB2.out) j p' hp'
                  cases e'
                  obtain ⟨_, _, e'', c2, c3⟩ := ed_at (Hu.out.keep HB2.out) i (x, y) Hp.out
                  cases e''
                  obtain ⟨px', py'⟩ := p'
                  simp only at c0 c1 c2 c3
                  have j4 : (0 : Int) ≤ (j : Int) := by omega
                  have j5 : (j : Int) < (m : Int) := by omega
                  have j6 : (j : Int) < (i : Int) := by omega
                  have heq := fun W => ed_equal W px' py' x y
                  have Hp' := hide hp'
                  clear hp'
                  by_cases he : (px', py') = (x, y)
                  · rw [decide_eq_true he] at heq
                    have e1 := n4.out (by rw [← he]; exact List.mem_of_getElem? (i := j) (by rw [List.getElem?_take_of_lt hjl]; exact Hp'.out))
                    subst e1
                    clear he
                    have fin : Hid (∀ r, Below w.heap.size w (wB.drewN r)) := hide (fun r => ⟨Hx2.out.os, Hx2.out.tape, Hx2.out.output, Hx2.out.size, Hx2.out.block⟩)
                    go_upto_region 21 with fail
                    go_quiet (fail)
                    go_wp2_with fail
                    go_ret
                    exact ⟨rfl, by first | exact fin.out _ | exact ⟨Hx2.out.os, Hx2.out.tape, Hx2.out.output, Hx2.out.size, Hx2.out.block⟩⟩
                  · rw [decide_eq_false he] at heq
                    have HX1 : Hid ((x, y) ∉ es.take (j + 1)) := hide (by
                      rw [List.take_add_one, Hp'.out]
                      simp only [Option.toList_some, List.mem_append, List.mem_singleton]
                      rintro (h | h)
                      · exact HX.out h
                      · exact he h.symm)
                    clear he
                    go_upto_region 21 with fail
                    go_quiet (fail)
                    go_wp2_with fail
                    go_roundw
                    case rel => exact ⟨j + 1, _, by omega, by go_num, rfl, HX1⟩
                    case measure => simp [intOf]; omega
                · obtain rfl : j = i := by omega
                  have j6 : ¬ (j : Int) < (j : Int) := by omega
                  have HD2 := hide (HD1.out HX.out)
                  have HB3 : Hid (Below W0.heap.size W0 (wB.drewN q)) := hide ⟨HB2.out.os, HB2.out.tape, HB2.out.output, HB2.out.size, HB2.out.block⟩
                  go_wp2_with fail
                  go_roundw
                  case rel => exact ⟨j + 1, by omega, by go_num, HB3, HG1, HD2⟩
                  case measure => simp [intOf]; omega
            · have q1 : (qx != 1) = true := bne_iff_ne.2 k2
              have q2 : (qy != 1) = false := by rw [show qy = 1 by omega]; rfl
              clear k1 k2
              go_upto_region 18 with fail
              clear u1 u2
              go_wp2_with fail
              obtain ⟨wB, rfl⟩ : ∃ W, W = W2 := ⟨_, rfl⟩
              go_loopw [8] (fun v8 wr => ∃ j q : Nat, j ≤ i ∧ v8 = .int .i64 j ∧ wr = wB.drewN q ∧ Hid ((x, y) ∉ es.take j)) (fun v8 _ => i - (intOf v8).toNat)
              case atStart => exact ⟨0, 0, by omega, rfl, rfl, hide (by simp)⟩
              case round =>
                obtain ⟨j, q, hj, rfl, rfl, HX⟩ := hrel
                by_cases hjl : j < i
                · obtain ⟨p', hp'⟩ : ∃ p, es[j]? = some p := ⟨_, List.getElem?_eq_getElem (by rw [Hm.out]; omega)⟩
                  obtain ⟨b', off', e', c0, c1⟩ := ed_at (Hu.out.keep HB2.out) j p' hp'
                  cases e'
                  obtain ⟨_, _, e'', c2, c3⟩ := ed_at (Hu.out.keep HB2.out) i (x, y) Hp.out
                  cases e''
                  obtain ⟨px', py'⟩ := p'
                  simp only at c0 c1 c2 c3
                  have j4 : (0 : Int) ≤ (j : Int) := by omega
                  have j5 : (j : Int) < (m : Int) := by omega
                  have j6 : (j : Int) < (i : Int) := by omega
                  have heq := fun W => ed_equal W px' py' x y
                  have Hp' := hide hp'
                  clear hp'
                  by_cases he : (px', py') = (x, y)
                  · rw [decide_eq_true he] at heq
                    have e1 := n4.out (by rw [← he]; exact List.mem_of_getElem? (i := j) (by rw [List.getElem?_take_of_lt hjl]; exact Hp'.out))
                    subst e1
                    clear he
                    have fin : Hid (∀ r, Below w.heap.size w (wB.drewN r)) := hide (fun r => ⟨Hx2.out.os, Hx2.out.tape, Hx2.out.output, Hx2.out.size, Hx2.out.block⟩)
                    go_upto_region 21 with fail
                    go_quiet (fail)
                    go_wp2_with fail
                    go_ret
                    exact ⟨rfl, by first | exact fin.out _ | exact ⟨Hx2.out.os, Hx2.out.tape, Hx2.out.output, Hx2.out.size, Hx2.out.block⟩⟩
                  · rw [decide_eq_false he] at heq
                    have HX1 : Hid ((x, y) ∉ es.take (j + 1)) := hide (by
                      rw [List.take_add_one, Hp'.out]
                      simp only [Option.toList_some, List.mem_append, List.mem_singleton]
                      rintro (h | h)
                      · exact HX.out h
                      · exact he h.symm)
                    clear he
                    go_upto_region 21 with fail
                    go_quiet (fail)
                    go_wp2_with fail
                    go_roundw
                    case rel => exact ⟨j + 1, _, by omega, by go_num, rfl, HX1⟩
                    case measure => simp [intOf]; omega
                · obtain rfl : j = i := by omega
                  have j6 : ¬ (j : Int) < (j : Int) := by omega
                  have HD2 := hide (HD1.out HX.out)
                  have HB3 : Hid (Below W0.heap.size W0 (wB.drewN q)) := hide ⟨HB2.out.os, HB2.out.tape, HB2.out.output, HB2.out.size, HB2.out.block⟩
                  go_wp2_with fail
                  go_roundw
                  case rel => exact ⟨j + 1, by omega, by go_num, HB3, HG1, HD2⟩
                  case measure => simp [intOf]; omega
          · have e1 := n3.out (by rw [eB2.out]; simp; omega)
            subst e1
            have q1 : (qx != 1) = true := bne_iff_ne.2 (by omega)
            have q2 : (qy != 1) = true := bne_iff_ne.2 (by omega)
            clear k1
            go_wp2_with fail
            go_ret
            exact ⟨rfl, Hx2.out⟩
        · obtain rfl : i = m := by omega
          have j2 : ¬ (i : Int) < (i : Int) := by omega
          have et : es.take i = es := List.take_of_length_le (by rw [Hm.out]; omega)
          have e1 := yes.out (by have := HL.out; omega) (by have := HL.out; omega) (by have := HL.out; omega) HG0.out HD0.out (by rw [← et]; exact HG.out) (by rw [← et]; exact HD.out)
          subst e1
          have Hfin := hide (XB.out _ HB.out).2.2
          go_wp2_with fail
          go_ret
          exact ⟨rfl, Hfin.out⟩
end Go.Proofs.YtocmngpoemfpkabGreatDoor

namespace Go.Proofs.YtocmngpoemfpkabGreatDoor
open Go.RowKit
def V0 : Vm := ⟨none, 0, 0, none, 0, 0, none, 0, 0, none, 0, 0⟩
end Go.Proofs.YtocmngpoemfpkabGreatDoor

namespace Go.Proofs.YtocmngpoemfpkabGreatDoor
open Go.RowKit
def updJ (vJ : Nat → Value) (t : Nat) (v : Value) : Nat → Value := fun i => if i = t then v else vJ i
theorem ccells_set (P : Kp) (n m : Nat) (pause : Int) (dead : Bool) (t : Nat) (v : Value) (ht : t < 31) : (ccells P n m pause dead).setIfInBounds (6 + t) v = ccells { P with vJ := updJ P.vJ t v } n m pause dead := by
  rcases t with _ | t
  · rfl
  rcases t with _ | t
  · rfl
  rcases t with _ | t
  · rfl
  rcases t with _ | t
  · rfl
  rcases t with _ | t
  · rfl
  rcases t with _ | t
  · rfl
  rcases t with _ | t
  · rfl
  rcases t with _ | t
  · rfl
  rcases t with _ | t
  · rfl
  rcases t with _ | t
  · rfl
  rcases t with _ | t
  · rfl
  rcases t with _ | t
  · rfl
  rcases t with _ | t
  · rfl
  rcases t with _ | t
  · rfl
  rcases t with _ | t
  · rfl
  rcases t with _ | t
  · rfl
  rcases t with _ | t
  · rfl
  rcases t with _ | t
  · rfl
  rcases t with _ | t
  · rfl
  rcases t with _ | t
  · rfl
  rcases t with _ | t
  · rfl
  rcases t with _ | t
  · rfl
  rcases t with _ | t
  · rfl
  rcases t with _ | t
  · rfl
  rcases t with _ | t
  · rfl
  rcases t with _ | t
  · rfl
  rcases t with _ | t
  · rfl
  rcases t with _ | t
  · rfl
  rcases t with _ | t
  · rfl
  rcases t with _ | t
  · rfl
  rcases t with _ | t
  · rfl
  · omega
section
set_option maxRecDepth 100000
set_option maxHeartbeats 4000000
variable {w0 w : World} {l : List It} {B g n m : Nat} {E : Ev} {P : Kp} {c : Ct}
theorem Its.kjobX {x : It} (h : Its w0 (x :: .ctl w0.heap.size g E n m P c :: l) w) (t : Nat) (ht : 1 ≤ t ∧ t ≤ 30) {v : Value} {xs : List Int} (hj : JRd w v xs) (hb : ∀ k, v.ownBlock = some k → x.f k ∨ (P.vJ t).ownBlock = some k) (hd : ∀ d ∈ xs, 1 ≤ d ∧ d ≤ (m : Int)) :
    Its w0 (.ctl w0.heap.size g E n m { P with vJ := updJ P.vJ t v } (c.setJ t xs) :: l) (w.setCell ⟨g, 6 + t, none⟩ v) := by
  have hf := kt_f h.two
  have h1 := h.swap.kopen.1
  have h2 := (h1.pick 8 (x := x) (by simp [kparts]))
  have h3 : Its w0 (.jobs P.vJ c.J :: x :: .box g (ccells P n m E.pause c.dead) 90 :: .row ndE w0.heap.size (.slice P.la n P.lc) E.ns :: .row edE w0.heap.size (.slice P.lb m P.le) E.es :: .ints w0.heap.size (.slice (some ⟨P.kg, 0, none⟩) (m + 1) (m + 1)) c.tk :: .tape w0.heap.size P.gt P.Ht c.T :: .mir w0.heap.size P.gm P.Hm n m E.es P.S :: .book w0.heap.size P.gb P.Hk P.K :: l) w := h2.pick 5 rfl
  have h4 := Its.shut (a := [.jobs P.vJ c.J, x]) h3
  have h5 := h4.as (x' := .jobs (updJ P.vJ t v) (c.setJ t xs).J) (by
    intro i hi
    show JRd w (updJ P.vJ t v i) (if (i : Int) = (t : Int) then xs else c.J i)
    unfold updJ
    by_cases e : i = t
    · rw [if_pos e, if_pos (by omega)]; exact hj
    · rw [if_neg e, if_neg (by omega)]; exact h3.one i hi) (by
    rintro k ⟨i, hi, hk⟩
    unfold updJ at hk
    by_cases e : i = t
    · rw [if_pos e] at hk
      rcases hb k hk with q | q
      · exact ⟨x, by simp, q⟩
      · exact ⟨.jobs P.vJ c.J, by simp, t, by omega, q⟩
    · rw [if_neg e] at hk
      exact ⟨.jobs P.vJ c.J, by simp, i, hi, hk⟩)
  have h6 := (h5.pick 1 rfl).put1 (6 + t) v
  rw [ccells_set P n m _ _ t v (by omega)] at h6
  have h7 := h6.pick 5 rfl
  have h8 := h7.pick 5 rfl
  refine Its.kshut (P := { P with vJ := updJ P.vJ t v }) (c := c.setJ t xs) (h6.perm ?_) ⟨hf.gd, hf.hn, hf.hm, hf.hs, hf.gq, hf.pa, hf.tk, fun i hi => ?_, fun i d hd' => ?_⟩
  · show List.Perm (_ :: _ :: _ :: _ :: _ :: _ :: _ :: _ :: l) (_ :: _ :: _ :: _ :: _ :: _ :: _ :: _ :: l)
    exact List.Perm.cons _ (List.perm_middle (l₁ := [_, _, _]) (a := It.jobs (updJ P.vJ t v) (c.setJ t xs).J)).symm
  · show (if i = (t : Int) then xs else c.J i) = []
    rw [if_neg (by omega)]; exact hf.jo i hi
  · have hd2 : d ∈ (if i = (t : Int) then xs else c.J i) := hd'
    split at hd2
    · exact hd d hd2
    · exact hf.jd i d hd2
def It.no : It where
  P _ := True
  f _ := False
  lt _ _ h := h.elim
  st _ _ := trivial
theorem Its.kjob (h : Its w0 (.ctl w0.heap.size g E n m P c :: l) w) (t : Nat) (ht : 1 ≤ t ∧ t ≤ 30) {v : Value} {xs : List Int} (hj : JRd w v xs) (hb : ∀ k, v.ownBlock = some k → (P.vJ t).ownBlock = some k) (hd : ∀ d ∈ xs, 1 ≤ d ∧ d ≤ (m : Int)) :
    Its w0 (.ctl w0.heap.size g E n m { P with vJ := updJ P.vJ t v } (c.setJ t xs) :: l) (w.setCell ⟨g, 6 + t, none⟩ v) :=
  (h.new (x := .no) trivial (fun _ q => q.elim) (Below.refl _ _)).kjobX t ht hj (fun k hk => .inr (hb k hk)) hd
theorem Its.kjobN {v : Value} {xs : List Int} (h : Its w0 (.ints w0.heap.size v xs :: .ctl w0.heap.size g E n m P c :: l) w) (t : Nat) (ht : 1 ≤ t ∧ t ≤ 30) (hd : ∀ d ∈ xs, 1 ≤ d ∧ d ≤ (m : Int)) :
    Its w0 (.ctl w0.heap.size g E n m { P with vJ := updJ P.vJ t v } (c.setJ t xs) :: l) (w.setCell ⟨g, 6 + t, none⟩ v) :=
  h.kjobX t ht (JRd.of_own h.one) (fun k hk => .inl hk) hd
theorem Gd.setJ {k : Nat} (h : Gd c k) (t : Int) {xs : List Int} (hx : xs.length ≤ 1000) : Gd (c.setJ t xs) k := ⟨fun i => by
  show (if i = t then xs else c.J i).length ≤ 1000
  split
  · exact hx
  · exact h.jl i, h.nt⟩
theorem contains_k (a : Option Addr) (cc N : Nat) (ms : List Int) (d : Int) (w : World) (hn : ms.length = N) (hv : intE.Rd w (.slice a N cc) ms) (hl : N ≤ 100000) :
    Calls Tryz.prog 130 #[.slice a N cc, .int .i64 d] w fun e w' => e = .returned (.bool (decide (d ∈ ms))) ∧ w' = w := by
  have K := hide (idx_any a cc N ms d w hn hv hl)
  have hd : decide (0 ≤ loc ms d) = decide (d ∈ ms) := by
    by_cases q : d ∈ ms
    · rw [(loc_in q).1, decide_eq_true q, decide_eq_true (by omega)]
    · rw [loc_no q, decide_eq_false q, decide_eq_false (by omega)]
  generalize loc ms d = res at *
  generalize decide (d ∈ ms) = yes at *
  clear hv hn
  go_enter Tryz.func130, Tryz.ntmps130
  go_wp2_with (go_at_call 112; refine K.out.mono ?_; rintro e w2 ⟨rfl, rfl⟩)
  go_ret
  exact ⟨rfl, rfl⟩
theorem isDown_any (h : (It.ctl B g E n m P c).P w) (d : Int) : Calls Tryz.prog 127 #[.pointer (some ⟨g, 0, none⟩), .int .i64 d] w fun e w' => e = .returned (.bool (decide (d ∈ P.S.down))) ∧ Below w.heap.size w w' := by
  obtain ⟨c0, c1, c2, c3, c4, c5, c37, c38⟩ := kt_c h
  have hl := mr_len (kt_m h)
  have hdl := down_len P.S
  have K1 := hide (downP (kt_m h))
  have K2 : Hid (∀ W a N cc, P.S.down.length = N → intE.Own W w.heap.size (.slice a N cc) P.S.down → Calls Tryz.prog 130 #[.slice a N cc, .int .i64 d] W fun e w' => e = .returned (.bool (decide (d ∈ P.S.down))) ∧ w' = W) := hide (fun W a N cc hN ho => contains_k a cc N _ d W hN ho.rd (by omega))
  clear h hl hdl
  generalize decide (d ∈ P.S.down) = yes at *
  go_enter Tryz.func127, Tryz.ntmps127
  go_wp2_with (first
    | (go_at_call 171; refine K1.out.mono ?_; rintro e w1 ⟨a1, N1, p1, rfl, q1, q2, q3⟩; have Q1 := hide q1; have Q2 := hide q2; have Q3 := hide q3; clear q1 q2 q3)
    | (go_at_call 130; refine (K2.out _ _ _ _ Q1.out Q2.out).mono ?_; rintro e w2 ⟨rfl, rfl⟩))
  go_ret
  exact ⟨rfl, Q3.out⟩
end
end Go.Proofs.YtocmngpoemfpkabGreatDoor

namespace Go.Proofs.YtocmngpoemfpkabGreatDoor
open Go.ChangeShapes Go.WideShapes Go.ChangeAt Go.RowKit
def Bs (w : World) (v : Value) (l : List Int) : Prop :=
  (v = .slice none 0 0 ∧ l = []) ∨ ∃ x cap, v = .slice (some x) l.length cap ∧ ∀ i, i < l.length → w.cell? (x.add i) = some (.int .u8 (l[i]?.getD 0))
def Ow (w : World) (B : Nat) (v : Value) (l : List Int) : Prop := w.ownsRow B 5 1 v l.length (l.map (Value.int .u8))
theorem add_plain (b off j : Nat) : (⟨b, off, none⟩ : Addr).add j = ⟨b, off + j, none⟩ := by unfold Addr.add; split <;> simp_all
theorem Bs.own {w : World} {B : Nat} {v : Value} {l : List Int} (h : Ow w B v l) : Bs w v l := by
  obtain ⟨_, h⟩ := h
  rcases h with ⟨hv, h0⟩ | ⟨g, cap, cur, hv, hb, hg, hn, hm, hs, ht⟩
  · left
    exact ⟨hv, List.eq_nil_of_length_eq_zero h0⟩
  · right
    refine ⟨⟨g, 0, none⟩, cap, hv, fun i hi => ?_⟩
    have e : cur[i]? = some (.int .u8 (l[i]?.getD 0)) := by
      have := congrArg (fun (m : List Value) => m[i]?) ht
      simp only [Nat.mul_one] at this
      rw [List.getElem?_take_of_lt hi] at this
      rw [← Array.getElem?_toList, this]
      simp [hi]
    rw [add_plain, Nat.zero_add]
    unfold World.cell?
    simp only [hg]
    exact e
theorem sum_bs {w : World} {v : Value} {l : List Int} (h : Bs w v l) (hr : InB l) (hm : l.length ≤ 140737488355328) :
    Calls Tryz.prog 161 #[v] w fun e w' => e = .returned (.int .u16 (uv (sm 0xFFFF#16 l))) ∧ w' = w := by
  rcases h with ⟨rfl, rfl⟩ | ⟨x, cap, rfl, hc⟩
  · exact sum_nil _ _ _
  · cases l with
    | nil => exact sum_nil _ _ _
    | cons z t =>
      obtain ⟨b, off, spot⟩ := x
      have hspot : spot = none := by simpa [Addr.add] using World.cell?_spot (hc 0 (by simp))
      subst hspot
      exact sum_at b off cap _ (z :: t) w rfl (fun i hi => by rw [← add_plain]; exact hc i hi) hr hm
theorem rsum_bs {w : World} {v : Value} {l : List Int} (h : Bs w v l) (hr : InB l) (hm : l.length ≤ 140737488355328) :
    Calls Tryz.prog 61 #[v] w fun e w' => e = .returned (.int .u16 (uv (sm 0xFFFF#16 l))) ∧ w' = w := by
  rcases h with ⟨rfl, rfl⟩ | ⟨x, cap, rfl, hc⟩
  · exact rsum_nil _ _ _
  · cases l with
    | nil => exact rsum_nil _ _ _
    | cons z t =>
      obtain ⟨b, off, spot⟩ := x
      have hspot : spot = none := by simpa [Addr.add] using World.cell?_spot (hc 0 (by simp))
      subst hspot
      exact rsum_at b off cap _ (z :: t) w rfl (fun i hi => by rw [← add_plain]; exact hc i hi) hr hm
theorem info5 : (Tryz.prog.info? 5).map (fun i => (i.zero, i.size, i.bytes)) = some (some (.int .u8 0), 1, 1) := by kernel_rfl
theorem run_app {w : World} {B : Nat} {v : Value} {xs : List Int} (hown : Ow w B v xs) (hB : B ≤ w.heap.size) {u : Value} {l : List Int} (hu : Bs w u l) (hn : xs.length + l.length ≤ 1000000) (ty : TypeId) :
    ∃ v' w', (Builtin.append_ #[54, 54] ty #[v, u]).run Tryz.prog w = .ok v' w' ∧ Ow w' B v' (xs ++ l) ∧ w.grownBy w' v.ownBlock := by
  obtain ⟨i, hi, he⟩ := Option.map_eq_some_iff.1 info5
  have e1 : i.zero = some (.int .u8 0) := congrArg Prod.fst he
  have e2 : i.size = 1 := congrArg (fun p => p.2.1) he
  have e3 : i.bytes = 1 := congrArg (fun p => p.2.2) he
  rcases hu with ⟨rfl, rfl⟩ | ⟨x, cap, rfl, hc⟩
  · refine ⟨v, w, run_append_owned_none (P := Tryz.prog) (w := w) B 54 ty 5 i 1 Tryz.underlying54 hi v _ _ hown, ?_, ⟨rfl, rfl, rfl, Nat.le_refl _, fun _ _ _ => rfl⟩⟩
    rw [List.append_nil]; exact hown
  · obtain ⟨v', w', hr, h2, h3, _, _⟩ := run_append_own_at (P := Tryz.prog) w B 54 ty 5 i (.int .u8 0) 1 1 Tryz.underlying54 hi e1 e2 e3 rfl (by omega) v xs.length (xs.map (Value.int .u8)) hown
      x l.length cap (l.map (Value.int .u8)) (by simp) (fun j y hy => by
        have hj : j < l.length := by
          rcases Nat.lt_or_ge j l.length with h | h
          · exact h
          · simp [List.getElem?_eq_none h] at hy
        rw [hc j hj]; simpa [hj] using hy)
      (fun y hy => by obtain ⟨z, _, rfl⟩ := List.mem_map.1 hy; rfl) (by unfold maxLen; omega) (by omega) hB
    refine ⟨v', w', hr, ?_, h3⟩
    unfold Ow
    rw [List.length_append, List.map_append]
    exact h2
theorem own_row {w : World} {B : Nat} {v : Value} {l : List Int} (h : Ow w B v l) : ∀ k, v.ownBlock = some k → B ≤ k := by
  intro k hk
  rcases h.2 with ⟨rfl, _⟩ | ⟨g, cap, cur, rfl, hb, _⟩
  · cases hk
  · simp [Value.ownBlock] at hk; omega
theorem wpList_app {w0 w : World} (hb : Below w0.heap.size w0 w) {ops : Array Oper} {rest : List Oper} {o : Oper} {a : Act} {Q : Exit → Act → World → Prop} (hwant : Region.wanted o (yielded ops a.tmps) = true) (s x : Operand)
    (ho : o.op = .call { callee := .builtin .append, args := #[s, x], argTypes := #[54, 54] }) (v u : Value) (hs : a.eval s = v) (hx : a.eval x = u)
    (xs l : List Int) (hown : Ow w w0.heap.size v xs) (hu : Bs w u l) (hn : xs.length + l.length ≤ 1000000)
    (h : ∀ v' w', Ow w' w0.heap.size v' (xs ++ l) → Below w0.heap.size w0 w' → wpList Tryz.prog ops Q rest (a.put o.dst v') w') : wpList Tryz.prog ops Q (o :: rest) a w := by
  obtain ⟨v', w', hr, h2, h3⟩ := run_app hown hb.size hu hn o.type
  refine wpList_step fun K hK => ?_
  rw [if_pos hwant]
  unfold Oper.wp execOp
  simp only [ho, resolve, invoke, builtin, Sem.run_bind, Sem.run_pure, Result.andThen_ok, List.map_toArray, List.map_cons, List.map_nil, hs, hx, hr]
  exact hK _ _ (h v' w' h2 (hb.grown h3 hb.size (own_row hown)))
end Go.Proofs.YtocmngpoemfpkabGreatDoor
