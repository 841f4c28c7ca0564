import Derived.Deep.CutBlock
import Derived.Deep.MidRow
import Derived.Deep.RegionHeld3
import Derived.Laws.IdiomStrings
import Derived.RegionTactic
import Derived.Test.YtocmngpoemfpkabGreatDoorControlSendsAC
import Derived.Test.YtocmngpoemfpkabGreatDoorControlSendsAD
import Derived.Test.YtocmngpoemfpkabGreatDoorControlSendsAE
import Derived.Test.YtocmngpoemfpkabGreatDoorControlSendsAG
set_option linter.unusedVariables false
namespace Go.Proofs.YtocmngpoemfpkabGreatDoor
open Go.ChangeShapes Go.WideShapes Go.ChangeAt Go.RowKit
theorem Its.cells4 {w0 w : World} {b : Nat} {p0 p1 p2 p3 : Value} {t : TypeId} {l : List It} (h : Its w0 (.box b #[p0, p1, p2, p3] t :: l) w) : w.cell? ⟨b, 0, none⟩ = some p0 ∧ w.cell? ⟨b, 1, none⟩ = some p1 ∧ w.cell? ⟨b, 2, none⟩ = some p2 ∧ w.cell? ⟨b, 3, none⟩ = some p3 ∧ (∀ i, w.frozen? ⟨b, i, none⟩ = false) :=
  ⟨(cells_at h.one 0).1, (cells_at h.one 1).1, (cells_at h.one 2).1, (cells_at h.one 3).1, fun i => (cells_at h.one i).2⟩
def bud (T : Tp) : Int := if T.ar = true then (T.bd : Int) else -1
def dv (T : Tp) : Value := .agg #[.string (str T.now), .string (str T.oth), .int .i64 (bud T), .bool T.dd]
end Go.Proofs.YtocmngpoemfpkabGreatDoor

namespace Go.Proofs.YtocmngpoemfpkabGreatDoor
open Go.RowKit
theorem rpl_app (l : List Nt) (x : Nt) : ∀ (S : Mr) (K : Bk), rpl (l ++ [x]) S K = match rpl l S K with
    | some p => if ndC p.1 p.2 x = 0 ∧ ndY p.2 x = true then some (ndS p.1 x, ndK p.2 x) else none
    | none => none := by
  induction l with
  | nil => intro S K; simp only [List.nil_append, rpl]
  | cons y l ih =>
    intro S K
    simp only [List.cons_append, rpl]
    by_cases h : ndC S K y = 0 ∧ ndY K y = true
    · rw [if_pos h, if_pos h, ih]
    · rw [if_neg h, if_neg h]
theorem rpl_append (l k : List Nt) : ∀ (S : Mr) (K : Bk), rpl (l ++ k) S K = match rpl l S K with
    | some p => rpl k p.1 p.2
    | none => none := by
  induction l with
  | nil => intro S K; rfl
  | cons y l ih =>
    intro S K
    simp only [List.cons_append, rpl]
    by_cases h : ndC S K y = 0 ∧ ndY K y = true
    · rw [if_pos h, if_pos h, ih]
    · rw [if_neg h, if_neg h]
theorem rpl_none {l k : List Nt} {S : Mr} {K : Bk} (h : rpl l S K = none) : rpl (l ++ k) S K = none := by rw [rpl_append, h]
theorem ndK_size (K : Bk) (x : Nt) : (ndK K x).all.length ≤ K.all.length + 1 ∧ (ndK K x).done.length ≤ K.done.length + 1 := by
  unfold ndK
  split
  · obtain ⟨h1, h2⟩ := Bk.size_ad K ⟨x.a, x.b, x.c⟩; rw [h2]; omega
  · split
    · obtain ⟨h1, h2⟩ := Bk.size_ca K x.a; rw [h2]; omega
    · split
      · have := Bk.size_se K x.a; omega
      · omega
theorem rpl_size (l : List Nt) : ∀ (S : Mr) (K : Bk) (p : Mr × Bk), rpl l S K = some p → p.2.all.length ≤ K.all.length + l.length ∧ p.2.done.length ≤ K.done.length + l.length := by
  induction l with
  | nil => intro S K p h; cases h; simp
  | cons y l ih =>
    intro S K p h
    simp only [rpl] at h
    split at h
    · have := ih _ _ _ h
      have := ndK_size K y
      simp only [List.length_cons]; omega
    · cases h
theorem nt_i64 {x : Nt} (h : x.ok = true) : I64 x.a := by
  have := (ok_iff x).1 h
  have h2 := this.2.1 0 x.a rfl
  unfold I64; omega
section
variable {w0 w : World} {l : List It} {g n m : Nat} {E : Ev} {P : Kp} {c : Ct}
theorem Its.knewM {gm : Nat} {Hm : Nat × Nat} {S : Mr} (h : Its w0 (.mir w0.heap.size gm Hm n m E.es S :: .ctl w0.heap.size g E n m P c :: l) w) :
    Its w0 (.ctl w0.heap.size g E n m { P with gm := gm, Hm := Hm, S := S } c :: l) (w.setCell ⟨g, 4, none⟩ (.pointer (some ⟨gm, 0, none⟩))) := by
  have hf := kt_f h.two
  have h1 := h.swap.kopen.1
  have h2 := h1.pick 0 rfl
  have h3 := h2.put1 4 (.pointer (some ⟨gm, 0, none⟩))
  have h4 := Its.back (l := kparts w0.heap.size g E n m P c ++ .mir w0.heap.size gm Hm n m E.es S :: l) 0 (by simp [kparts]) h3
  have h5 := h4.pick 6 rfl
  have h6 := h5.tail
  have h7 := h6.pick 7 rfl
  have h8 := (Its.pick (l := .mir w0.heap.size gm Hm n m E.es S :: _) h7 0 rfl)
  refine Its.kshut (P := { P with gm := gm, Hm := Hm, S := S }) ?_ ⟨hf.gd, hf.hn, hf.hm, hf.hs, hf.gq, hf.pa, hf.tk, hf.jo, hf.jd⟩
  refine h8.perm ?_
  show List.Perm (_ :: _ :: _ :: _ :: _ :: _ :: _ :: _ :: l) (_ :: _ :: _ :: _ :: _ :: _ :: _ :: _ :: l)
  exact (List.perm_middle (l₁ := [_, _, _, _, _, _])).symm
theorem Its.knewB {gb : Nat} {Hk : Hb} {K : Bk} (h : Its w0 (.book w0.heap.size gb Hk K :: .ctl w0.heap.size g E n m P c :: l) w) :
    Its w0 (.ctl w0.heap.size g E n m { P with gb := gb, Hk := Hk, K := K } c :: l) (w.setCell ⟨g, 5, none⟩ (.pointer (some ⟨gb, 0, none⟩))) := by
  have hf := kt_f h.two
  have h1 := h.swap.kopen.1
  have h2 := h1.pick 0 rfl
  have h3 := h2.put1 5 (.pointer (some ⟨gb, 0, none⟩))
  have h4 := Its.back (l := kparts w0.heap.size g E n m P c ++ .book w0.heap.size gb Hk K :: l) 0 (by simp [kparts]) h3
  have h5 := h4.pick 7 rfl
  have h6 := h5.tail
  have h7 := h6.pick 7 rfl
  refine Its.kshut (P := { P with gb := gb, Hk := Hk, K := K }) ?_ ⟨hf.gd, hf.hn, hf.hm, hf.hs, hf.gq, hf.pa, hf.tk, hf.jo, hf.jd⟩
  refine h7.perm ?_
  show List.Perm (_ :: _ :: _ :: _ :: _ :: _ :: _ :: _ :: l) (_ :: _ :: _ :: _ :: _ :: _ :: _ :: _ :: l)
  exact (List.perm_middle (l₁ := [_, _, _, _, _, _, _])).symm
def RecP (w0 : World) (l : List It) (g : Nat) (E : Ev) (n m : Nat) (c : Ct) (got : List Nt) (e : Ending) (w' : World) : Prop := ∃ P, Its w0 (.ctl w0.heap.size g E n m P c :: l) w' ∧
  ((e = .returned (.int .i64 0) ∧ rpl got (Mr.nw n E.es) Bk.new = some (P.S, P.K)) ∨ (e = .returned (.int .i64 180) ∧ rpl got (Mr.nw n E.es) Bk.new = none))
set_option maxRecDepth 100000 in
set_option maxHeartbeats 4000000 in
theorem krecall (h : Its w0 (.ctl w0.heap.size g E n m P c :: l) w) {got : List Nt} {r : List Int} (hr : NRds c.T.now got r) (hN : got.length ≤ 8000) : Calls Tryz.prog 26 #[.pointer (some ⟨g, 0, none⟩)] w (RecP w0 l g E n m c got) := by
  obtain ⟨c0, c1, c2, c3, c4, c5, c37, c38⟩ := kt_c h.one
  have z4 := kt_z h.one 4
  have hf := kt_f h.one
  have L := kt_l h.one
  have KN := hide (new_ok L hf.gd)
  have HI := hide h
  have KB : Hid (∀ W P', Its w0 (.ctl w0.heap.size g E n m P' c :: l) W → Calls Tryz.prog 72 #[] W fun e w' => ∃ g' H, e = .returned (.pointer (some ⟨g', 0, none⟩)) ∧ Its w0 (.book w0.heap.size g' H Bk.new :: .ctl w0.heap.size g E n m P' c :: l) w') := hide (fun W P' hW => new_any w0 W _ hW)
  have KR : Hid (∀ W P', Its w0 (.ctl w0.heap.size g E n m P' c :: l) W → Calls Tryz.prog 73 #[.pointer (some ⟨P'.gt, 0, none⟩)] W fun e w' => ∃ v, e = .returned v ∧ Its w0 (.row ntE w0.heap.size v got :: .ctl w0.heap.size g E n m P' c :: l) w') := hide (fun W P' hW => by
    refine (readS hW.ktape hr).mono ?_
    rintro e w' ⟨v, rfl, q⟩
    refine ⟨v, rfl, ?_⟩
    have q2 := (Its.back (l := kparts w0.heap.size g E n m P' c ++ l) 5 (by simp [kparts]) q.tail)
    have q3 : Its w0 (.ctl w0.heap.size g E n m P' c :: l) w' := Its.kshut q2 (kt_f hW.one)
    have q4 := Its.back (l := (.row ntE w0.heap.size v got :: (kparts w0.heap.size g E n m P' c ++ l))) 6 (by simp [kparts]) (q.swap)
    exact (Its.kshut (l := .row ntE w0.heap.size v got :: l) (P := P') (c := c) (q4.perm (by
      show List.Perm (_ :: kparts w0.heap.size g E n m P' c ++ l) (kparts w0.heap.size g E n m P' c ++ _ :: l)
      exact (List.perm_middle).symm)) (kt_f hW.one)).swap)
  have KD : Hid (∀ W P' (v : Value) (x : Nt), P'.K.all.length ≤ 9000 ∧ P'.K.done.length ≤ 9000 → I64 x.a → Its w0 (.row ntE w0.heap.size v got :: .ctl w0.heap.size g E n m P' c :: l) W → Calls Tryz.prog 74 #[.pointer (some ⟨g, 0, none⟩), .agg #[.int .i64 x.kind, .int .i64 x.a, .int .i64 x.b, .int .i64 x.c]] W (DoP w0 (.row ntE w0.heap.size v got :: l) g E n m P' c x)) := hide (fun W P' v x hb hx hW => kdoS hW.swap x hx hb)
  have HO : Hid (∀ x ∈ got, x.ok = true) := hide hr.ok
  have i0 : (got.length : Int) ≤ 8000 := by omega
  have HNl := hide hN
  clear h hf L hN
  go_enter Tryz.func26, Tryz.ntmps26
  go_wp2_with (first
    | (go_at_call 71; refine KN.out.mono ?_; rintro e w1 ⟨gm, Hm, rfl, q⟩; have I1 := hide (HI.out.addm q); clear q; obtain ⟨d0, d1, d2, d3, d4, d5, d37, d38⟩ := kt_c I1.out.two; have zz4 := kt_z I1.out.two 4; have I2 := hide I1.out.knewM)
    | (go_at_call 72; refine (KB.out _ _ I2.out).mono ?_; rintro e w2 ⟨gb, Hk, rfl, q⟩; have I3 := hide q; clear q; obtain ⟨d0, d1, d2, d3, d4, d5, d37, d38⟩ := kt_c I3.out.two; have zz5 := kt_z I3.out.two 5; have I4 := hide I3.out.knewB; obtain ⟨f0, f1, f2, f3, f4, f5, f37, f38⟩ := kt_c I4.out.one)
    | (go_at_call 73; refine (KR.out _ _ I4.out).mono ?_; rintro e w3 ⟨v, rfl, q⟩; obtain ⟨av, cv, hv⟩ := q.one.rd.form; have HLn := hide (rfl : got.length = got.length); subst hv; have I5 := hide q; clear q))
  have HT0 : Hid (rpl (got.take 0) (Mr.nw n E.es) Bk.new = some (Mr.nw n E.es, Bk.new)) := hide rfl
  obtain ⟨N, hN⟩ : ∃ N, got.length = N := ⟨_, rfl⟩
  rw [hN] at I5 i0 HNl ⊢
  have HN := hide hN
  clear hN KN KB KR HI I1 I2 I3 I4 HLn c0 c1 c2 c3 c4 c5 c37 c38 z4 d0 d1 d2 d3 d4 d5 d37 d38 zz4 zz5
  go_loopw [28] (fun v28 wr => ∃ (k : Nat) (P' : Kp), v28 = .int .i64 k ∧ k ≤ N ∧ Hid (rpl (got.take k) (Mr.nw n E.es) Bk.new = some (P'.S, P'.K)) ∧ Hid (Its w0 (.row ntE w0.heap.size (.slice av N cv) got :: .ctl w0.heap.size g E n m P' c :: l) wr)) (fun v28 _ => N - (intOf v28).toNat)
  case atStart => exact ⟨0, _, rfl, Nat.zero_le _, HT0, I5⟩
  case round =>
    obtain ⟨k, P', rfl, hk, HT, HR⟩ := hrel
    by_cases hlt : k < N
    · obtain ⟨x, hx⟩ : ∃ x, got[k]? = some x := ⟨_, List.getElem?_eq_getElem (by rw [HN.out]; exact hlt)⟩
      have hxo := nt_i64 (HO.out x (List.mem_of_getElem? hx))
      have hsz := rpl_size _ _ _ _ HT.out
      have hsb : P'.K.all.length ≤ 9000 ∧ P'.K.done.length ≤ 9000 := by
        have h1 := HNl.out
        simp only [List.length_take, Bk.new, List.length_nil] at hsz
        omega
      obtain ⟨b, off, rfl, q0, q1, q2, q3⟩ := nt_at HR.out.one.rd k x hx
      have HZ : Hid (rpl (got.take (k + 1)) (Mr.nw n E.es) Bk.new = if ndC P'.S P'.K x = 0 ∧ ndY P'.K x = true then some (ndS P'.S x, ndK P'.K x) else none) := hide (by
        rw [take_one hx, rpl_app, HT.out])
      have HZn : Hid (rpl (got.take (k + 1)) (Mr.nw n E.es) Bk.new = none → rpl got (Mr.nw n E.es) Bk.new = none) := hide (fun h => by
        rw [← List.take_append_drop (k + 1) got]; exact rpl_none h)
      have KDx := hide (fun W => KD.out W P' (.slice (some ⟨b, off, none⟩) N cv) x hsb hxo)
      have HX := hide (HR.out.boxN #[.int .i64 x.kind, .int .i64 x.a, .int .i64 x.b, .int .i64 x.c] 101 rfl)
      obtain ⟨t0, t1, t2, t3, _⟩ := Its.cells4 HX.out
      have j0 : (0 : Int) ≤ (k : Int) := by omega
      have j1 : (k : Int) < (N : Int) := by omega
      have j2 : wrap64 ((k : Int) + 1) = (k : Int) + 1 := by unfold wrap64; omega
      clear hx hxo hsz hsb
      unfold DoP at KDx
      generalize hz : ndC P'.S P'.K x = z at *
      generalize hy : ndY P'.K x = y at *
      clear hz hy
      obtain ⟨kd, xa, xb, xc⟩ := x
      dsimp only at *
      by_cases hz : z = 0
      · subst hz
        cases y with
        | true =>
          have HT' := hide (by have := HZ.out; rw [if_pos ⟨rfl, rfl⟩] at this; exact this : rpl (got.take (k + 1)) (Mr.nw n E.es) Bk.new = some (ndS P'.S ⟨kd, xa, xb, xc⟩, ndK P'.K ⟨kd, xa, xb, xc⟩))
          clear HZ HZn
          go_wp2_with (go_at_call 74; refine (KDx.out _ HX.out.tail).mono ?_; rintro e w4 ⟨rfl, H', q⟩; have HQ := hide q; clear q)
          go_roundw
          case rel => exact ⟨k + 1, _, by go_num, by omega, HT', hide HQ.out.swap⟩
          case measure => simp [intOf]; omega
        | false =>
          have HF := hide (HZn.out (by have := HZ.out; rw [if_neg (fun h => by cases h.2)] at this; exact this))
          clear HZ HZn
          go_wp2_with (go_at_call 74; refine (KDx.out _ HX.out.tail).mono ?_; rintro e w4 ⟨rfl, H', q⟩; have HQ := hide q; clear q)
          go_ret
          exact ⟨_, HQ.out.swap.tail, .inr ⟨rfl, HF.out⟩⟩
      · have hz' : (z == 0) = false := beq_eq_false_iff_ne.2 hz
        have HF := hide (HZn.out (by have := HZ.out; rw [if_neg (fun h => hz h.1)] at this; exact this))
        clear HZ HZn
        go_wp2_with (go_at_call 74; refine (KDx.out _ HX.out.tail).mono ?_; rintro e w4 ⟨rfl, H', q⟩; have HQ := hide q; clear q)
        go_ret
        exact ⟨_, HQ.out.swap.tail, .inr ⟨rfl, HF.out⟩⟩
    · obtain rfl : k = N := by omega
      have j1 : ¬ (k : Int) < (k : Int) := by omega
      have HF := hide (by have := HT.out; rw [List.take_of_length_le (by rw [HN.out]; exact Nat.le_refl _)] at this; exact this : rpl got (Mr.nw n E.es) Bk.new = some (P'.S, P'.K))
      go_wp2_with fail
      go_ret
      exact ⟨P', HR.out.tail, .inl ⟨rfl, HF.out⟩⟩
end
end Go.Proofs.YtocmngpoemfpkabGreatDoor

namespace Go.Proofs.YtocmngpoemfpkabGreatDoor
open Go.RowKit
theorem wr_rds {T : Tp} {got : List Nt} {x : Nt} (h : NRds T.now got []) : ∃ got' r', NRds (T.app [] [x]).2.now got' r' ∧ got'.length ≤ got.length + 1 := by
  rcases app_codes T [] [x] with e | ⟨hd, hok, _, hl, e⟩
  · rw [e]; exact ⟨got, [], h, by omega⟩
  · rw [e, put_now]
    have hq := h.eq
    rw [List.append_nil] at hq
    rcases (put_fact T T.cn ([x].flatMap Nt.bts)).2.2 with ⟨_, hA, _⟩ | ⟨_, hA, hlt, _⟩
    · rw [hA]
      exact ⟨got ++ [x], [], rds_app h hok, by simp⟩
    · rw [hA]
      obtain ⟨g2, r2, h2⟩ := rds_ex (T.A T.cn ++ ([x].flatMap Nt.bts).take T.bd)
      refine ⟨g2, r2, h2, ?_⟩
      have ho : ∀ y ∈ got ++ [x], y.ok = true := fun y hy => by
        rcases List.mem_append.1 hy with q | q
        · exact h.ok y q
        · exact List.all_eq_true.1 hok y q
      have he : T.A T.cn ++ ([x].flatMap Nt.bts).take T.bd = ((got ++ [x]).flatMap Nt.bts).take (T.now.length + T.bd) := by
        rw [List.flatMap_append, ← hq, List.take_length_add_append]; rfl
      rw [he] at h2
      have := NRds.cut ho (by rw [List.flatMap_append, ← hq, List.length_append]; omega) h2
      have := this.1
      simp only [List.length_append, List.length_singleton] at this
      exact this
theorem nd_same {S : Mr} {K : Bk} {x : Nt} (h : ndC S K x ≠ 0) : ndS S x = S ∧ ndK K x = K := by
  unfold ndC at h
  unfold ndS ndK
  split
  · rename_i k; rw [if_pos k] at h
    refine ⟨rfl, Bk.ad_no ?_⟩
    unfold Bk.adY; simp [h]
  · rename_i k2; rw [if_neg k2] at h
    split
    · rename_i k3; rw [if_pos k3] at h
      refine ⟨rfl, Bk.ca_no ?_⟩
      unfold Bk.caC at h
      unfold Bk.caY Bk.sta
      split at h
      · rename_i e he
        split at h
        · rename_i h2; simp [h2]
        · exact absurd rfl h
      · simp
    · rename_i k3; rw [if_neg k3] at h
      split
      · rename_i k6; rw [if_pos k6] at h
        exact ⟨rfl, Bk.se_no h⟩
      · rename_i k6; rw [if_neg k6] at h
        refine ⟨?_, rfl⟩
        unfold Mr.app at h ⊢
        split
        · rename_i k; rw [if_pos k] at h
          rcases put_cases S x.a x.b with ⟨_, q⟩ | ⟨q, _⟩
          · exact q
          · exact absurd q h
        · rename_i k; rw [if_neg k] at h
          split
          · rename_i k; rw [if_pos k] at h
            rcases snd_cases S x.a x.b x.c with ⟨_, q⟩ | ⟨q, _⟩
            · exact q
            · exact absurd q h
          · rename_i k; rw [if_neg k] at h
            split
            · rename_i k; rw [if_pos k] at h
              rcases mov_cases S x.a x.b with ⟨_, q⟩ | ⟨q, _⟩
              · exact q
              · exact absurd q h
            · rename_i k; rw [if_neg k] at h
              split
              · rename_i k; rw [if_pos k] at h
                rcases drp_cases S x.a with ⟨_, q⟩ | ⟨q, _⟩
                · exact q
                · exact absurd q h
              · rename_i k; rw [if_neg k] at h
                split
                · rename_i k; rw [if_pos k] at h
                  rcases msk_cases S x.a (decide (x.b = 1)) with ⟨_, q⟩ | ⟨q, _⟩
                  · exact q
                  · exact absurd q h
                · rfl
section
variable {w0 w : World} {l : List It} {g n m : Nat} {E : Ev} {P : Kp} {c : Ct}
theorem Its.kdie (h : Its w0 (.ctl w0.heap.size g E n m P c :: l) w) : Its w0 (.ctl w0.heap.size g E n m P ⟨c.S, c.K, c.T, c.J, c.tk, true⟩ :: l) (w.setCell ⟨g, 38, none⟩ (.bool true)) := by
  have hf := kt_f h.one
  have h2 := h.kopen.1.pick 0 rfl
  have h3 := h2.put1 38 (.bool true)
  have h4 := Its.back (l := kparts w0.heap.size g E n m P c ++ l) 0 (by simp [kparts]) h3
  exact Its.kshut (c := ⟨c.S, c.K, c.T, c.J, c.tk, true⟩) h4 ⟨hf.gd, hf.hn, hf.hm, hf.hs, hf.gq, hf.pa, hf.tk, hf.jo, hf.jd⟩
theorem Its.kany {S S' : Mr} {K K' : Bk} {T : Tp} {J : Int → List Int} {tk : List Int} {d : Bool} (h : Its w0 (.ctl w0.heap.size g E n m P ⟨S, K, T, J, tk, d⟩ :: l) w) : Its w0 (.ctl w0.heap.size g E n m P ⟨S', K', T, J, tk, d⟩ :: l) w := by
  have hf := kt_f h.one
  exact Its.kshut (c := ⟨S', K', T, J, tk, d⟩) h.kopen.1 ⟨hf.gd, hf.hn, hf.hm, hf.hs, hf.gq, hf.pa, hf.tk, hf.jo, hf.jd⟩
def CodeP (w0 : World) (l : List It) (g : Nat) (E : Ev) (n m : Nat) (p : Int × Ct) (e : Ending) (w' : World) : Prop := e = .returned (.int .i64 p.1) ∧ ∃ P', Liv P' p.2 ∧ Its w0 (.ctl w0.heap.size g E n m P' p.2 :: l) w'
theorem note_no {x : Nt} (h : ndC c.S c.K x ≠ 0) : c.note x = (ndC c.S c.K x, c) := if_pos h
theorem note_ok {x : Nt} (h : ndC c.S c.K x = 0) (h2 : (c.wr x).1 = 0) : c.note x = (0, ⟨ndS c.S x, ndK c.K x, (c.wr x).2, c.J, c.tk, c.dead⟩) := by unfold Ct.note; rw [if_neg (by simp [h]), if_pos h2]
theorem note_die {x : Nt} (h : ndC c.S c.K x = 0) (h2 : (c.wr x).1 ≠ 0) : c.note x = ((c.wr x).1, ⟨c.S, c.K, (c.wr x).2, c.J, c.tk, true⟩) := by unfold Ct.note; rw [if_neg (by simp [h]), if_neg h2]
set_option maxRecDepth 100000 in
set_option maxHeartbeats 4000000 in
theorem knoteS (h : Its w0 (.ctl w0.heap.size g E n m P c :: l) w) (hv : Liv P c) (hd : c.dead = false) {got : List Nt} (hr : NRds c.T.now got []) (hN : got.length ≤ 7000) (x : Nt) (hx : I64 x.a) (hb : c.K.all.length ≤ 8000 ∧ c.K.done.length ≤ 8000) :
    Calls Tryz.prog 49 #[.pointer (some ⟨g, 0, none⟩), .agg #[.int .i64 x.kind, .int .i64 x.a, .int .i64 x.b, .int .i64 x.c]] w (CodeP w0 l g E n m (c.note x)) := by
  obtain ⟨eS, eK⟩ := hv hd
  obtain ⟨got2, r2, hr2, hN2⟩ := wr_rds (x := x) hr
  obtain ⟨l', hl'⟩ : ∃ l', It.box w.heap.size #[.int .i64 x.kind, .int .i64 x.a, .int .i64 x.b, .int .i64 x.c] 101 :: l = l' := ⟨_, rfl⟩
  obtain ⟨w1, hw1⟩ : ∃ w1, w.alloc (.cells #[.int .i64 x.kind, .int .i64 x.a, .int .i64 x.b, .int .i64 x.c] 101) = w1 := ⟨_, rfl⟩
  have h1 : Its w0 (.ctl w0.heap.size g E n m P c :: l') w1 := by
    rw [← hw1, ← hl']
    exact (h.new (x := .box w.heap.size _ 101) (heap_new w _) (fun k hk => by cases hk; exact Nat.le_refl _) (below_new w _)).swap
  have SX : Hid (∀ W P' c', P'.gt = P.gt → Its w0 (.ctl w0.heap.size g E n m P' c' :: l') W → (W.cell? ⟨w.heap.size, 0, none⟩ = some (.int .i64 x.kind) ∧ W.cell? ⟨w.heap.size, 1, none⟩ = some (.int .i64 x.a) ∧ W.cell? ⟨w.heap.size, 2, none⟩ = some (.int .i64 x.b) ∧ W.cell? ⟨w.heap.size, 3, none⟩ = some (.int .i64 x.c)) ∧ W.cell? ⟨g, 3, none⟩ = some (.pointer (some ⟨P.gt, 0, none⟩)) ∧ W.frozen? ⟨g, 38, none⟩ = false ∧ W.cell? ⟨g, 38, none⟩ = some (.bool c'.dead)) := hide (fun W P' c' e hW => by
    subst hl'
    obtain ⟨c0, c1, c2, c3, c4, c5, c37, c38⟩ := kt_c hW.one
    have hz := kt_z hW.one 38
    have hb := hW.two
    rw [e] at c3
    exact ⟨⟨(cells_at hb 0).1, (cells_at hb 1).1, (cells_at hb 2).1, (cells_at hb 3).1⟩, c3, hz, c38⟩)
  have drop : Hid (∀ W P' c', Its w0 (.ctl w0.heap.size g E n m P' c' :: l') W → Its w0 (.ctl w0.heap.size g E n m P' c' :: l) W) := hide (fun W P' c' hW => by subst hl'; exact hW.swap.tail)
  obtain ⟨P1, hP1⟩ : ∃ P1 : Kp, P1 = { P with S := ndS c.S x, K := ndK c.K x } := ⟨_, rfl⟩
  have KD : Hid (Calls Tryz.prog 74 #[.pointer (some ⟨g, 0, none⟩), .agg #[.int .i64 x.kind, .int .i64 x.a, .int .i64 x.b, .int .i64 x.c]] w1 fun e w' => e = .returned (.tuple #[.bool (ndY c.K x), .int .i64 (ndC c.S c.K x)]) ∧ ∃ P2 : Kp, (P2.S = ndS c.S x ∧ P2.K = ndK c.K x ∧ P2.gt = P.gt) ∧ Its w0 (.ctl w0.heap.size g E n m P2 c :: l') w') := hide (by
    refine (kdoS h1 x hx (by rw [eK]; omega)).mono ?_
    rintro e w' ⟨rfl, H, q⟩
    rw [eS, eK] at q
    exact ⟨by rw [eS, eK], { P with Hk := H, S := ndS c.S x, K := ndK c.K x }, ⟨rfl, rfl, rfl⟩, q⟩)
  have KA : Hid (∀ (W : World) (P2 : Kp), P2.gt = P.gt → Its w0 (.ctl w0.heap.size g E n m P2 c :: l') W → ∀ (a : Option Addr) (cp : Nat), ntE.Rd W (.slice a 1 cp) [x] → Calls Tryz.prog 116 #[.pointer (some ⟨P.gt, 0, none⟩), .slice a 1 cp] W fun e w' => e = .returned (.int .i64 (c.wr x).1) ∧ ∃ P3 : Kp, (P3.S = P2.S ∧ P3.K = P2.K ∧ P3.gt = P.gt) ∧ Its w0 (.ctl w0.heap.size g E n m P3 ⟨c.S, c.K, (c.wr x).2, c.J, c.tk, c.dead⟩ :: l') w') := hide (fun W P2 e hW a cp hn => by
    have hf := kt_f hW.one
    have e0 := e
    rw [← e0]
    refine (appendS hW.ktape hn rfl (by omega) hr).mono ?_
    rintro q w' ⟨rfl, H', hq⟩
    exact ⟨rfl, { P2 with Ht := H' }, ⟨rfl, rfl, rfl⟩, Its.ktapeB hf hq⟩)
  have KR : Hid (∀ (W : World) (P2 : Kp), Its w0 (.ctl w0.heap.size g E n m P2 ⟨c.S, c.K, (c.wr x).2, c.J, c.tk, true⟩ :: l') W → Calls Tryz.prog 26 #[.pointer (some ⟨g, 0, none⟩)] W fun e w' => (∃ v, e = .returned (.int .i64 v)) ∧ ∃ P3, Its w0 (.ctl w0.heap.size g E n m P3 ⟨c.S, c.K, (c.wr x).2, c.J, c.tk, true⟩ :: l') w') := hide (fun W P2 hW => by
    refine (krecall hW hr2 (by omega)).mono ?_
    rintro e w' ⟨P3, q, ⟨rfl, _⟩ | ⟨rfl, _⟩⟩
    · exact ⟨⟨_, rfl⟩, P3, q⟩
    · exact ⟨⟨_, rfl⟩, P3, q⟩)
  have HI := hide h1
  have hsame := hide (nd_same (S := c.S) (K := c.K) (x := x))
  have hno := hide (note_no (c := c) (x := x))
  have hok := hide (note_ok (c := c) (x := x))
  have hdi := hide (note_die (c := c) (x := x))
  generalize hnp : c.note x = np at *
  clear hnp
  generalize hz : ndC c.S c.K x = z at *
  generalize hy : ndY c.K x = y at *
  generalize hwp : c.wr x = wp at *
  clear hz hy hwp hP1
  obtain ⟨T1, T2⟩ := wp
  have HD := hide hd
  clear h h1 hl' hv hr hN hb hx eS eK hr2 hN2 hd
  obtain ⟨kd, xa, xb, xc⟩ := x
  dsimp only at *
  subst hw1
  by_cases hz : z = 0
  · subst hz
    have NP : Hid (T1 ≠ 0 → np = (T1, ⟨c.S, c.K, T2, c.J, c.tk, true⟩)) := hide (fun h => hdi.out rfl h)
    have NO : Hid (T1 = 0 → np = (0, ⟨ndS c.S ⟨kd, xa, xb, xc⟩, ndK c.K ⟨kd, xa, xb, xc⟩, T2, c.J, c.tk, c.dead⟩)) := hide (fun h => hok.out rfl h)
    clear hno hok hdi hsame
    go_enter Tryz.func49, Tryz.ntmps49
    obtain ⟨⟨a0, a1, a2, a3⟩, _⟩ := SX.out _ _ _ rfl HI.out
    go_upto_region 4 with (go_at_call 74; refine KD.out.mono ?_; rintro e w2 ⟨rfl, P2, ⟨p1, p2, p3⟩, q⟩; have HQ := hide q; have hp1 := hide p1; have hp2 := hide p2; have hp3 := hide p3; clear q p1 p2 p3)
    obtain ⟨⟨b0, b1, b2, b3⟩, b4, b5, b6⟩ := SX.out _ _ _ hp3.out HQ.out
    have sA : ∀ o, (w2.alloc o).cell? ⟨g, 3, none⟩ = some (.pointer (some ⟨P.gt, 0, none⟩)) ∧ (w2.alloc o).cell? ⟨w.heap.size, 0, none⟩ = some (.int .i64 kd) ∧ (w2.alloc o).cell? ⟨w.heap.size, 1, none⟩ = some (.int .i64 xa) ∧ (w2.alloc o).cell? ⟨w.heap.size, 2, none⟩ = some (.int .i64 xb) ∧ (w2.alloc o).cell? ⟨w.heap.size, 3, none⟩ = some (.int .i64 xc) := fun o => by
      obtain ⟨⟨b0, b1, b2, b3⟩, b4, b5, b6⟩ := SX.out _ _ _ hp3.out (HQ.out.alloc o)
      exact ⟨b4, b0, b1, b2, b3⟩
    have HQA := hide (HQ.out.alloc (.cells #[.int .i64 kd, .int .i64 xa, .int .i64 xb, .int .i64 xc] 101))
    have HN1 := hide (nt_new w2 ⟨kd, xa, xb, xc⟩ _ rfl)
    go_region_held3 (fun W => W.cell? ⟨g, 3, none⟩ = some (.pointer (some ⟨P.gt, 0, none⟩)) ∧ W.cell? ⟨w.heap.size, 0, none⟩ = some (.int .i64 kd) ∧ W.cell? ⟨w.heap.size, 1, none⟩ = some (.int .i64 xa) ∧ W.cell? ⟨w.heap.size, 2, none⟩ = some (.int .i64 xb) ∧ W.cell? ⟨w.heap.size, 3, none⟩ = some (.int .i64 xc)) (first | exact s3 | exact ⟨b4, b0, b1, b2, b3⟩ | exact sA _)
      (first
        | (go_at_call 116; refine (KA.out _ P2 hp3.out ?_ _ _ ?_).mono ?_; first | exact HQA.out | exact HQA.out.drew 1; exact HN1.out; rintro e w3 ⟨rfl, P3, ⟨p1, p2, p3⟩, q⟩; have HQ3 := hide q; have hq1 := hide p1; have hq2 := hide p2; have hq3 := hide p3; clear q p1 p2 p3; have s3 := (fun (z : _ ∧ _ ∧ _ ∧ _) => (⟨z.2.1, z.1.1, z.1.2.1, z.1.2.2.1, z.1.2.2.2⟩ : _ ∧ _ ∧ _ ∧ _ ∧ _)) (SX.out _ _ _ hq3.out HQ3.out))
        | fail)
    obtain ⟨_, _, d5, d6⟩ := SX.out _ _ _ hq3.out HQ3.out
    by_cases ht : T1 = 0
    · subst ht
      have NF := hide (NO.out rfl)
      clear NO NP
      go_wp2_with fail
      go_ret
      rw [NF.out]
      exact ⟨rfl, P3, fun _ => ⟨by rw [hq1.out, hp1.out], by rw [hq2.out, hp2.out]⟩, (drop.out _ _ _ HQ3.out).kany⟩
    · have ht' : (T1 == 0) = false := beq_eq_false_iff_ne.2 ht
      have NF := hide (NP.out ht)
      clear NO NP
      have HQ4 := hide HQ3.out.kdie
      go_wp2_with (go_at_call 26; refine (KR.out _ _ HQ4.out).mono ?_; rintro e w4 ⟨⟨v, rfl⟩, P4, q⟩; have HQ5 := hide q; clear q)
      go_ret
      rw [NF.out]
      exact ⟨rfl, P4, (fun h => by cases h), drop.out _ _ _ HQ5.out⟩
  · have hz' : (z == 0) = false := beq_eq_false_iff_ne.2 hz
    have NN : Hid (np = (z, c)) := hide (hno.out hz)
    obtain ⟨sS, sK⟩ := hsame.out hz
    have sS := hide sS
    have sK := hide sK
    clear hno hok hdi hsame KA KR
    go_enter Tryz.func49, Tryz.ntmps49
    obtain ⟨⟨a0, a1, a2, a3⟩, _⟩ := SX.out _ _ _ rfl HI.out
    go_wp2_with (go_at_call 74; refine KD.out.mono ?_; rintro e w2 ⟨rfl, P2, ⟨p1, p2, p3⟩, q⟩; have HQ := hide q; have hp1 := hide p1; have hp2 := hide p2; have hp3 := hide p3; clear q p1 p2 p3)
    go_ret
    rw [NN.out]
    exact ⟨rfl, P2, fun _ => ⟨by rw [hp1.out, sS.out], by rw [hp2.out, sK.out]⟩, drop.out _ _ _ HQ.out⟩
end
end Go.Proofs.YtocmngpoemfpkabGreatDoor

namespace Go.Proofs.YtocmngpoemfpkabGreatDoor
open Go.RowKit
def epd (es : List Ed) (x d : Int) : Bool := decide (edN es d = x)
def jl (P : Kp) : List Value := (List.range 31).map P.vJ
theorem jl_at (P : Kp) (k : Nat) (hk : k < 31) : (jl P)[k]? = some (P.vJ k) := by unfold jl; rw [List.getElem?_map, List.getElem?_range hk]; rfl
theorem jl_len (P : Kp) : (jl P).length = 31 := by simp [jl]
theorem kt_rng {w : World} {B g n m : Nat} {E : Ev} {P : Kp} {c : Ct} (h : (It.ctl B g E n m P c).P w) : w.rangeAt g 6 (jl P) := fun j u hu => by
  have hj : j < 31 := by have := idx_lt hu; rw [jl_len] at this; exact this
  rw [jl_at P j hj] at hu
  cases hu
  exact kt_vj h j hj
theorem index31 (P : Kp) (k : Nat) (hk : k < 31) (w : World) : (Instr.index 88 (.agg (jl P).toArray) (.int .i64 (k : Int))).run Tryz.prog w = .ok (P.vJ k) w := by
  have h1 : (0 : Int) ≤ (k : Int) ∧ (k : Int) < 31 := by omega
  have h2 : (jl P)[k]? = some (P.vJ k) := jl_at P k hk
  simp [Instr.index, run_underlying Tryz.underlying88, asIntOf, h1, part, go_sem]
  rw [if_pos hk, h2]
  rfl
section
set_option maxRecDepth 100000
set_option maxHeartbeats 2000000
theorem clo151_any {w : World} {B g n m : Nat} {E : Ev} {P : Kp} {c : Ct} (h : (It.ctl B g E n m P c).P w) (k3 k4 : Nat) (x d : Int) (h3 : w.cell? ⟨k3, 0, none⟩ = some (.pointer (some ⟨g, 0, none⟩))) (h4 : w.cell? ⟨k4, 0, none⟩ = some (.int .i64 x)) (hd : 1 ≤ d ∧ d ≤ (m : Int)) :
    Calls Tryz.prog 118 #[.int .i64 d, .pointer (some ⟨k3, 0, none⟩), .pointer (some ⟨k4, 0, none⟩)] w fun e w' => e = .returned (.bool (epd E.es x d)) ∧ ∃ q, w' = w.drewN q := by
  obtain ⟨c0, c1, _⟩ := kt_c h
  have hm := (kt_f h).hm
  have hm4 := (kt_ly h).m4
  obtain ⟨k, rfl⟩ : ∃ k : Nat, d = (k : Int) + 1 := ⟨(d - 1).toNat, by omega⟩
  obtain ⟨p, hp⟩ : ∃ p, E.es[k]? = some p := ⟨_, List.getElem?_eq_getElem (by omega)⟩
  have he : epd E.es x ((k : Int) + 1) = decide (p.2 = x) := by
    unfold epd edN
    rw [show ((k : Int) + 1 - 1).toNat = k by omega, hp]; rfl
  rw [he]
  obtain ⟨b, off, hlb, e0, e1⟩ := ed_at (kt_es h).rd k p hp
  rw [hlb] at c1
  obtain ⟨p1, p2⟩ := p
  dsimp only at *
  have j0 : (0 : Int) ≤ (k : Int) := by omega
  have j1 : (k : Int) < (m : Int) := by omega
  have j2 : wrap64 ((k : Int) + 1 - 1) = (k : Int) := by unfold wrap64; omega
  have j3 : IntKind.i64.wrap (k : Int) = (k : Int) := by unfold IntKind.wrap; simp [IntKind.signed, IntKind.bits]; omega
  clear he hlb hp hd h hm hm4
  by_cases hq : p2 = x
  · subst hq
    go_enter Tryz.func118, Tryz.ntmps118
    go_wp2_with fail
    go_quiet (fail)
    go_wp2_with fail
    go_ret
    exact ⟨by simp, _, rfl⟩
  · have hq' : (p2 == x) = false := beq_eq_false_iff_ne.2 hq
    go_enter Tryz.func118, Tryz.ntmps118
    go_wp2_with fail
    go_quiet (fail)
    go_wp2_with fail
    go_ret
    exact ⟨by simp [hq], _, rfl⟩
theorem idx196_any {w : World} {B g n m : Nat} {E : Ev} {P : Kp} {c : Ct} (h : (It.ctl B g E n m P c).P w) (k3 k4 : Nat) (x : Int) (h3 : w.cell? ⟨k3, 0, none⟩ = some (.pointer (some ⟨g, 0, none⟩))) (h4 : w.cell? ⟨k4, 0, none⟩ = some (.int .i64 x)) (a : Option Addr) (N cc : Nat) (xs : List Int) (hn : xs.length = N) (hv : intE.Rd w (.slice a N cc) xs) (hl : N ≤ 1000) (hd : ∀ d ∈ xs, 1 ≤ d ∧ d ≤ (m : Int)) :
    Calls Tryz.prog 179 #[.slice a N cc, .func (.func 118) #[] #[.pointer (some ⟨k3, 0, none⟩), .pointer (some ⟨k4, 0, none⟩)]] w fun e w' => e = .returned (.int .i64 (fx (epd E.es x) xs)) ∧ ∃ q, w' = w.drewN q := by
  have Hn := hide hn
  have i0 : (N : Int) ≤ 1000 := by omega
  have KC : Hid (∀ q d, d ∈ xs → Calls Tryz.prog 118 #[.int .i64 d, .pointer (some ⟨k3, 0, none⟩), .pointer (some ⟨k4, 0, none⟩)] (w.drewN q) fun e w' => e = .returned (.bool (epd E.es x d)) ∧ ∃ q, w' = w.drewN q) := hide (fun q d hq => by
    refine (clo151_any (w := w.drewN q) ((It.ctl B g E n m P c).st h fun _ _ => rfl) k3 k4 x d h3 h4 (hd d hq)).mono ?_
    rintro e w' ⟨rfl, q', rfl⟩
    exact ⟨rfl, q + q', by simp [World.drewN, Nat.add_assoc]⟩)
  have HV : Hid (∀ q k y, xs[k]? = some y → ∃ b off, a = some ⟨b, off, none⟩ ∧ (w.drewN q).cell? ⟨b, off + k, none⟩ = some (.int .i64 y)) := hide (fun q k y hy => int_at (w := w) hv k y hy)
  have yes : Hid (∀ (k : Nat) (p : Int), xs[k]? = some p → epd E.es x p = true → (∀ j d, j < k → xs[j]? = some d → epd E.es x d = false) → fx (epd E.es x) xs = (k : Int)) := hide (fun k p h1 h2 h3 => fx_at h1 h2 h3)
  have no : Hid ((∀ (j : Nat) (d : Int), j < N → xs[j]? = some d → epd E.es x d = false) → fx (epd E.es x) xs = -1) := hide (fun h => fx_none (by rw [hn]; exact h))
  generalize fx (epd E.es x) xs = res at *
  clear h h3 h4 hv hn hd
  go_enter Tryz.func179, Tryz.ntmps179
  go_wp2_with fail
  go_loopw [8] (fun v8 wr => ∃ k q : Nat, k ≤ N ∧ v8 = .int .i64 k ∧ wr = w.drewN q ∧ Hid (∀ j d, j < k → xs[j]? = some d → epd E.es x d = false)) (fun v8 _ => N - (intOf v8).toNat)
  case atStart => exact ⟨0, 0, by omega, rfl, rfl, hide (fun j q h => by omega)⟩
  case round =>
    obtain ⟨k, q, hk, rfl, rfl, Hno⟩ := hrel
    by_cases hlt : k < N
    · obtain ⟨p, hp⟩ : ∃ p, xs[k]? = some p := ⟨_, List.getElem?_eq_getElem (by rw [Hn.out]; exact hlt)⟩
      obtain ⟨b, off, rfl, e0⟩ := HV.out q k p hp
      have K := hide (KC.out q p (List.mem_of_getElem? hp))
      have j0 : (0 : Int) ≤ (k : Int) := by omega
      have j1 : (k : Int) < (N : Int) := by omega
      have j2 : wrap64 ((k : Int) + 1) = (k : Int) + 1 := by unfold wrap64; omega
      have Hp := hide hp
      clear hp
      cases he : epd E.es x p with
      | true =>
        rw [he] at K
        have e1 := yes.out k p Hp.out he Hno.out
        subst e1
        clear he
        go_wp2_with (go_at_call 118; refine K.out.mono ?_; rintro e w2 ⟨rfl, q', rfl⟩)
        go_ret
        exact ⟨rfl, _, rfl⟩
      | false =>
        rw [he] at K
        have HX1 : Hid (∀ j d, j < k + 1 → xs[j]? = some d → epd E.es x d = false) := hide (fun j d hj hd => by
          rcases Nat.lt_or_ge j k with g | g
          · exact Hno.out j d g hd
          · obtain rfl : j = k := by omega
            rw [Hp.out] at hd
            cases hd
            exact he)
        clear he
        go_wp2_with (go_at_call 118; refine K.out.mono ?_; rintro e w2 ⟨rfl, q', rfl⟩)
        go_roundw
        case rel => exact ⟨k + 1, q', by omega, by go_num, rfl, HX1⟩
        case measure => simp [intOf]; omega
    · obtain rfl : k = N := by omega
      have j1 : ¬ (k : Int) < (k : Int) := by omega
      have e1 := no.out Hno.out
      subst e1
      go_wp2_with fail
      go_ret
      exact ⟨rfl, _, rfl⟩
theorem fx_any {α : Type} (p : α → Bool) (q : List α) : decide (0 ≤ fx p q) = q.any p := by
  rcases fx_cases p q with ⟨i, c, hi, hp, _, e⟩ | ⟨h, e⟩
  · rw [e, decide_eq_true (by omega), List.any_eq_true.2 ⟨c, List.mem_of_getElem? hi, hp⟩]
  · rw [e, decide_eq_false (by omega)]
    symm
    rw [List.any_eq_false]
    intro c hc
    rw [h c hc]; simp
theorem has152_any {w : World} {B g n m : Nat} {E : Ev} {P : Kp} {c : Ct} (h : (It.ctl B g E n m P c).P w) (k3 k4 : Nat) (x : Int) (h3 : w.cell? ⟨k3, 0, none⟩ = some (.pointer (some ⟨g, 0, none⟩))) (h4 : w.cell? ⟨k4, 0, none⟩ = some (.int .i64 x)) (a : Option Addr) (N cc : Nat) (xs : List Int) (hn : xs.length = N) (hv : intE.Rd w (.slice a N cc) xs) (hl : N ≤ 1000) (hd : ∀ d ∈ xs, 1 ≤ d ∧ d ≤ (m : Int)) :
    Calls Tryz.prog 119 #[.slice a N cc, .func (.func 118) #[] #[.pointer (some ⟨k3, 0, none⟩), .pointer (some ⟨k4, 0, none⟩)]] w fun e w' => e = .returned (.bool (xs.any (epd E.es x))) ∧ ∃ q, w' = w.drewN q := by
  have K := hide (idx196_any h k3 k4 x h3 h4 a N cc xs hn hv hl hd)
  have hd := fx_any (epd E.es x) xs
  generalize fx (epd E.es x) xs = res at *
  generalize xs.any (epd E.es x) = yes at *
  clear hv hn h h3 h4
  go_enter Tryz.func119, Tryz.ntmps119
  go_wp2_with (go_at_call 179; refine K.out.mono ?_; rintro e w2 ⟨rfl, q, rfl⟩)
  go_ret
  exact ⟨rfl, _, rfl⟩
def onN (E : Ev) (c : Ct) (x but : Int) (k : Nat) : Bool := (List.range k).any (fun t : Nat => decide ((t : Int) ≠ but) && (c.J (t : Int)).any (epd E.es x))
theorem onN_succ (E : Ev) (c : Ct) (x but : Int) (k : Nat) : onN E c x but (k + 1) = (onN E c x but k || (decide ((k : Int) ≠ but) && (c.J (k : Int)).any (epd E.es x))) := by unfold onN; rw [List.range_succ, List.any_append]; simp
theorem onN_up (E : Ev) (c : Ct) (x but : Int) {k j : Nat} (h : onN E c x but k = true) (hk : k ≤ j) : onN E c x but j = true := by
  unfold onN at *
  rw [List.any_eq_true] at *
  obtain ⟨t, ht, q⟩ := h
  exact ⟨t, List.mem_range.2 (by have := List.mem_range.1 ht; omega), q⟩
theorem isOnPath_any {w : World} {B g n m : Nat} {E : Ev} {P : Kp} {c : Ct} (h : (It.ctl B g E n m P c).P w) (hl : ∀ t, (c.J t).length ≤ 1000) (x but : Int) :
    Calls Tryz.prog 51 #[.pointer (some ⟨g, 0, none⟩), .int .i64 x, .int .i64 but] w fun e w' => e = .returned (.bool (c.onP E x but)) ∧ Below w.heap.size w w' := by
  obtain ⟨W1, hW1⟩ : ∃ W1, (w.alloc (.cells #[.pointer (some ⟨g, 0, none⟩)] 31)).alloc (.cells #[.int .i64 x] 3) = W1 := ⟨_, rfl⟩
  have hb : Below w.heap.size w W1 := by rw [← hW1]; exact (below_new _ _).alloc (by show w.heap.size ≤ (w.heap.push _).size; simp) _
  have h1 : (It.ctl B g E n m P c).P W1 := (It.ctl B g E n m P c).st h fun k hk => hb.block k ((It.ctl B g E n m P c).lt h k hk)
  have s3 : W1.cell? ⟨w.heap.size, 0, none⟩ = some (.pointer (some ⟨g, 0, none⟩)) := by
    have hh : W1.heap[w.heap.size]? = some (.cells #[.pointer (some ⟨g, 0, none⟩)] 31) := by
      rw [← hW1]
      rw [(below_new (w.alloc (.cells #[.pointer (some ⟨g, 0, none⟩)] 31)) _).block w.heap.size (by show _ < (w.heap.push _).size; simp)]
      exact heap_new _ _
    exact (cells_at hh 0).1
  have s4 : W1.cell? ⟨w.heap.size + 1, 0, none⟩ = some (.int .i64 x) := by
    have hh : W1.heap[w.heap.size + 1]? = some (.cells #[.int .i64 x] 3) := by
      rw [← hW1]
      have := heap_new (w.alloc (.cells #[.pointer (some ⟨g, 0, none⟩)] 31)) (.cells #[.int .i64 x] 3)
      rwa [show (w.alloc (.cells #[.pointer (some ⟨g, 0, none⟩)] 31)).heap.size = w.heap.size + 1 by show (w.heap.push _).size = _; simp] at this
    exact (cells_at hh 0).1
  have f := kt_f h
  have HJ : Hid (∀ q t : Nat, t < 31 → ∃ a cc, P.vJ t = .slice a (c.J (t : Int)).length cc ∧ Calls Tryz.prog 119 #[.slice a (c.J (t : Int)).length cc, .func (.func 118) #[] #[.pointer (some ⟨w.heap.size, 0, none⟩), .pointer (some ⟨w.heap.size + 1, 0, none⟩)]] (W1.drewN q) fun e w' => e = .returned (.bool ((c.J (t : Int)).any (epd E.es x))) ∧ ∃ q, w' = (W1.drewN q)) := hide (fun q t ht => by
    obtain ⟨a, cc, e, _⟩ := (kt_j h1 t ht).form
    refine ⟨a, cc, e, ?_⟩
    have hr := (kt_j h1 t ht).rd
    rw [e] at hr
    refine (has152_any (w := W1.drewN q) ((It.ctl B g E n m P c).st h1 fun _ _ => rfl) _ _ x s3 s4 a _ cc _ rfl hr (hl _) (f.jd _)).mono ?_
    rintro e w' ⟨rfl, q', rfl⟩
    exact ⟨rfl, q + q', by simp [World.drewN, Nat.add_assoc]⟩)
  have Hrg := kt_rng h1
  have HI : Hid (∀ k : Nat, k < 31 → ∀ W, (Instr.index 88 (.agg (jl P).toArray) (.int .i64 (k : Int))).run Tryz.prog W = .ok (P.vJ k) W) := hide (fun k hk W => index31 P k hk W)
  have hjl := jl_len P
  have HB := hide hb
  have hf : ∀ W k j, (Instr.makeFunc (.func 118) #[] #[.pointer (some ⟨k, 0, none⟩), .pointer (some ⟨j, 0, none⟩)]).run Tryz.prog W = .ok (.func (.func 118) #[] #[.pointer (some ⟨k, 0, none⟩), .pointer (some ⟨j, 0, none⟩)]) W := fun _ _ _ => rfl
  have ON : Hid (∀ k, onN E c x but (k + 1) = (onN E c x but k || (decide ((k : Int) ≠ but) && (c.J (k : Int)).any (epd E.es x)))) := hide (onN_succ E c x but)
  have OU : Hid (∀ k, k ≤ 31 → onN E c x but k = true → c.onP E x but = true) := hide (fun k hk h => onN_up E c x but h hk)
  have OE : Hid (c.onP E x but = onN E c x but 31) := hide rfl
  have O0 : Hid (onN E c x but 0 = false) := hide rfl
  generalize hres : c.onP E x but = res at *
  generalize hon : onN E c x but = on at *
  generalize jl P = js at *
  clear hres hon h f h1 hb
  go_enter Tryz.func51, Tryz.ntmps51
  go_upto_region 1 with fail
  clear hW1
  go_wp2_with (refine wpList_load_mid rfl 88 (.tmp 12) rfl g 6 rfl _ _ Hrg Tryz.underlying88 rfl (by rw [hjl]; kernel_rfl) ?_)
  go_loopw [14] (fun v14 wr => ∃ k q : Nat, k ≤ 31 ∧ v14 = .int .i64 k ∧ wr = W1.drewN q ∧ Hid (on k = false)) (fun v14 _ => 31 - (intOf v14).toNat)
  case atStart => exact ⟨0, 0, by omega, rfl, rfl, O0⟩
  case round =>
    obtain ⟨k, q, hk, rfl, rfl, Hno⟩ := hrel
    by_cases hlt : k < 31
    · obtain ⟨a, cc, e, KC⟩ := HJ.out q k hlt
      have hix : ∀ W, (Instr.index 88 (.agg js.toArray) (.int .i64 (k : Int))).run Tryz.prog W = .ok (.slice a (c.J (k : Int)).length cc) W := fun W => by rw [HI.out k hlt W, e]
      have KC := hide KC
      have OS := hide (ON.out k)
      have s3 : (W1.drewN q).cell? ⟨w.heap.size, 0, none⟩ = some (.pointer (some ⟨g, 0, none⟩)) := s3
      have j0 : (0 : Int) ≤ (k : Int) := by omega
      have j1 : (k : Int) < 31 := by omega
      have j2 : wrap64 ((k : Int) + 1) = (k : Int) + 1 := by unfold wrap64; omega
      generalize hN : (c.J (k : Int)).length = N at *
      generalize hA : (c.J (k : Int)).any (epd E.es x) = A at *
      clear e hN hA ON
      by_cases hb : (k : Int) = but
      · have HX : Hid (on (k + 1) = false) := hide (by rw [OS.out, Hno.out, hb]; simp)
        clear OS KC
        subst hb
        go_wp2_with fail
        go_roundw
        case rel => exact ⟨k + 1, _, by omega, by go_num, rfl, HX⟩
        case measure => simp [intOf]; omega
      · have hb' : ((k : Int) == but) = false := beq_eq_false_iff_ne.2 hb
        cases A with
        | true =>
          have HR := hide (OU.out (k + 1) (by omega) (by rw [OS.out]; simp [hb]))
          clear OS
          go_wp2_with (go_at_call 119; refine KC.out.mono ?_; rintro e w2 ⟨rfl, q', rfl⟩)
          go_ret
          exact ⟨by rw [HR.out]; rfl, HB.out.trans ⟨rfl, rfl, rfl, Nat.le_refl _, fun _ _ => rfl⟩⟩
        | false =>
          have HX : Hid (on (k + 1) = false) := hide (by rw [OS.out, Hno.out]; simp)
          clear OS
          go_wp2_with (go_at_call 119; refine KC.out.mono ?_; rintro e w2 ⟨rfl, q', rfl⟩)
          go_roundw
          case rel => exact ⟨k + 1, _, by omega, by go_num, rfl, HX⟩
          case measure => simp [intOf]; omega
    · obtain rfl : k = 31 := by omega
      have j1 : ¬ ((31 : Nat) : Int) < 31 := by omega
      have HR := hide (OE.out.trans Hno.out)
      go_wp2_with fail
      go_ret
      exact ⟨by rw [HR.out]; rfl, HB.out.trans ⟨rfl, rfl, rfl, Nat.le_refl _, fun _ _ => rfl⟩⟩
structure Gd (c : Ct) (k : Nat) : Prop where
  jl : ∀ t, (c.J t).length ≤ 1000
  nt : c.dead = false → ∃ got, NRds c.T.now got [] ∧ got.length ≤ k ∧ c.K.all.length ≤ k ∧ c.K.done.length ≤ k
theorem Gd.up {c : Ct} {k j : Nat} (h : Gd c k) (hk : k ≤ j) : Gd c j := ⟨h.jl, fun hd => by
  obtain ⟨got, h1, h2, h3, h4⟩ := h.nt hd
  exact ⟨got, h1, by omega, by omega, by omega⟩⟩
theorem wr_now {T : Tp} {got : List Nt} {x : Nt} (h : NRds T.now got []) (h0 : (T.app [] [x]).1 = 0) : NRds (T.app [] [x]).2.now (got ++ [x]) [] := by
  unfold Tp.app at h0 ⊢
  split at h0
  · cases h0
  · rename_i q1; rw [if_neg q1]
    split at h0
    · cases h0
    · rename_i q2; rw [if_neg q2]
      rw [if_neg (by simp)] at h0 ⊢
      split at h0
      · cases h0
      · rename_i q3; rw [if_neg q3, put_now]
        rcases (put_fact T T.cn ([x].flatMap Nt.bts)).2.2 with ⟨_, hA, _⟩ | ⟨h1, _⟩
        · rw [hA]; exact rds_app h (by simpa using q2)
        · rw [h1] at h0; cases h0
theorem Gd.note {c : Ct} {k : Nat} (h : Gd c k) (x : Nt) : Gd (c.note x).2 (k + 1) := by
  unfold Ct.note
  split
  · exact h.up (by omega)
  · split
    · rename_i h0
      refine ⟨h.jl, fun hd => ?_⟩
      obtain ⟨got, h1, h2, h3, h4⟩ := h.nt hd
      have := ndK_size c.K x
      exact ⟨got ++ [x], wr_now h1 h0, by simp; omega, by show (ndK c.K x).all.length ≤ _; omega, by show (ndK c.K x).done.length ≤ _; omega⟩
    · exact ⟨h.jl, fun hd => by cases hd⟩
theorem knote_any {w0 w : World} {l : List It} {g n m : Nat} {E : Ev} {P : Kp} {c : Ct} (h : Its w0 (.ctl w0.heap.size g E n m P c :: l) w) (hv : Liv P c) (hd : c.dead = false) {k : Nat} (hg : Gd c k) (hk : k ≤ 7000) (x : Nt) (hx : I64 x.a) :
    Calls Tryz.prog 49 #[.pointer (some ⟨g, 0, none⟩), .agg #[.int .i64 x.kind, .int .i64 x.a, .int .i64 x.b, .int .i64 x.c]] w (CodeP w0 l g E n m (c.note x)) := by
  obtain ⟨got, h1, h2, h3, h4⟩ := hg.nt hd
  exact knoteS h hv hd h1 (by omega) x hx (by omega)
def Ct.put (E : Ev) (c : Ct) (t x : Int) : Int × Ct := if c.dead = true then (190, c) else if c.onP E x 0 = true then (100, c) else c.note ⟨1, t, x, 0⟩
theorem kputS {w0 w : World} {l : List It} {g n m : Nat} {E : Ev} {P : Kp} {c : Ct} (h : Its w0 (.ctl w0.heap.size g E n m P c :: l) w) (hv : Liv P c) {k : Nat} (hg : Gd c k) (hk : k ≤ 7000) (t x : Int) (ht : I64 t) :
    Calls Tryz.prog 16 #[.pointer (some ⟨g, 0, none⟩), .int .i64 t, .int .i64 x] w (CodeP w0 l g E n m (c.put E t x)) := by
  obtain ⟨c0, c1, c2, c3, c4, c5, c37, c38⟩ := kt_c h.one
  have KO := hide (isOnPath_any h.one hg.jl x 0)
  have KN : Hid (∀ W, c.dead = false → Its w0 (.ctl w0.heap.size g E n m P c :: l) W → Calls Tryz.prog 49 #[.pointer (some ⟨g, 0, none⟩), .agg #[.int .i64 1, .int .i64 t, .int .i64 x, .int .i64 0]] W (CodeP w0 l g E n m (c.note ⟨1, t, x, 0⟩))) := hide (fun W hd hW => knote_any hW hv hd hg hk ⟨1, t, x, 0⟩ ht)
  have HI := hide h
  have hp : c.put E t x = if c.dead = true then (190, c) else if c.onP E x 0 = true then (100, c) else c.note ⟨1, t, x, 0⟩ := rfl
  have HV := hide hv
  rw [hp]
  clear hp h hv hg
  cases hd : c.dead with
  | true =>
    rw [hd] at c38
    rw [if_pos rfl]
    have HD := hide hd
    clear hd KO KN
    go_enter Tryz.func16, Tryz.ntmps16
    go_wp2_with fail
    go_ret
    exact ⟨rfl, P, HV.out, HI.out⟩
  | false =>
    rw [hd] at c38
    rw [if_neg (by simp)]
    have HD := hide hd
    clear hd
    cases ho : c.onP E x 0 with
    | true =>
      rw [ho] at KO
      rw [if_pos rfl]
      clear ho KN
      go_enter Tryz.func16, Tryz.ntmps16
      go_wp2_with (go_at_call 51; refine KO.out.mono ?_; rintro e w1 ⟨rfl, q⟩; have HB := hide q; clear q)
      go_ret
      exact ⟨rfl, P, HV.out, HI.out.keep HB.out⟩
    | false =>
      rw [ho] at KO
      rw [if_neg (by simp)]
      clear ho
      generalize c.note ⟨1, t, x, 0⟩ = np at *
      go_enter Tryz.func16, Tryz.ntmps16
      go_wp2_with (first
        | (go_at_call 51; refine KO.out.mono ?_; rintro e w1 ⟨rfl, q⟩; have HB := hide q; clear q; have HI1 := hide (HI.out.keep HB.out))
        | (go_at_call 49; refine (KN.out _ HD.out HI1.out).mono ?_; rintro e w2 ⟨rfl, P', hv', q⟩; have HV' := hide hv'; have HQ := hide q; clear hv' q))
      go_ret
      exact ⟨rfl, P', HV'.out, HQ.out⟩
end
end Go.Proofs.YtocmngpoemfpkabGreatDoor

namespace Go.Proofs.YtocmngpoemfpkabGreatDoor
open Go.RowKit
def stN (E : Ev) (x : Int) : Bool := decide (0 ≤ x ∧ x < E.ns.length) && decide (kindAt E.ns x = 3)
noncomputable def frmF (E : Ev) (s : Nat) : List Int := open Classical in if h : ∃ l, Far (Eg E.es (clo E.es.length []) 0) (Tk E.ns) s E.ns.length l then Classical.choose h else []
theorem frmF_of {E : Ev} {s : Nat} {l : List Int} (g : Far (Eg E.es (clo E.es.length []) 0) (Tk E.ns) s E.ns.length l) : frmF E s = l := by
  have h : ∃ l, Far (Eg E.es (clo E.es.length []) 0) (Tk E.ns) s E.ns.length l := ⟨l, g⟩
  unfold frmF
  rw [dif_pos h]
  exact (Classical.choose_spec h).uniq g
def TwoP (w0 : World) (l : List It) (g : Nat) (E : Ev) (n m : Nat) (p : Bool × Int × Ct) (e : Ending) (w' : World) : Prop := e = .returned (.tuple #[.bool p.1, .int .i64 p.2.1]) ∧ ∃ P', Liv P' p.2.2 ∧ Its w0 (.ctl w0.heap.size g E n m P' p.2.2 :: l) w'
noncomputable def Ct.order (E : Ev) (c : Ct) (r : Rq) : Bool × Int × Ct :=
  if c.dead = true then (false, 190, c) else if r.id < 0 ∨ 2147483647 < r.id then (false, 1, c) else if c.K.sta r.id ≠ 0 then (c.K.adY r, c.K.adC r, c) else
    if stN E r.st = false then (false, 1, c) else if c.S.whr r.tt = -1 then (false, 160, c) else if va (frmF E (c.S.whr r.tt).toNat) r.st.toNat < 0 then (false, 161, c) else
      (decide ((c.note ⟨2, r.id, r.st, r.tt⟩).1 = 0), (c.note ⟨2, r.id, r.st, r.tt⟩).1, (c.note ⟨2, r.id, r.st, r.tt⟩).2)
section
set_option maxRecDepth 100000
set_option maxHeartbeats 4000000
variable {w0 w : World} {l : List It} {B g n m : Nat} {E : Ev} {P : Kp} {c : Ct}
theorem isStation_any (h : (It.ctl B g E n m P c).P w) (x : Int) : Calls Tryz.prog 46 #[.pointer (some ⟨g, 0, none⟩), .int .i64 x] w fun e w' => e = .returned (.bool (stN E x)) ∧ ∃ q, w' = w.drewN q := by
  obtain ⟨c0, c1, _⟩ := kt_c h
  have hn := (kt_f h).hn
  have hn4 := (kt_ly h).n4
  have HL := hide (kt_ns h).rd
  have e0 : stN E x = (decide (0 ≤ x ∧ x < (n : Int)) && decide (kindAt E.ns x = 3)) := by unfold stN; rw [hn]
  rw [e0]
  by_cases h1 : 0 ≤ x
  · by_cases h2 : x < (n : Int)
    · obtain ⟨k, rfl⟩ : ∃ k : Nat, x = (k : Int) := ⟨x.toNat, by omega⟩
      obtain ⟨p, hp⟩ : ∃ p, E.ns[k]? = some p := ⟨_, List.getElem?_eq_getElem (by omega)⟩
      obtain ⟨b, off, hb, q0, q1, q2⟩ := nd_at HL.out k p hp
      rw [hb] at c0
      have hk : kindAt E.ns (k : Int) = p.kind := by unfold kindAt; rw [show ((k : Int)).toNat = k by omega, hp]; rfl
      rw [hk, decide_eq_true ⟨h1, h2⟩, Bool.true_and]
      obtain ⟨nm, kd, zn⟩ := p
      dsimp only at *
      clear hk hb hp e0 hn4 hn HL h
      by_cases h3 : kd = 3
      · subst h3
        go_enter Tryz.func46, Tryz.ntmps46
        go_wp2_with fail
        go_ret
        exact ⟨by simp, 0, rfl⟩
      · have h3' : (kd == 3) = false := beq_eq_false_iff_ne.2 h3
        go_enter Tryz.func46, Tryz.ntmps46
        go_wp2_with fail
        go_ret
        exact ⟨by simp [h3], 0, rfl⟩
    · rw [decide_eq_false (fun q => h2 q.2), Bool.false_and]
      clear e0 hn4 hn HL h
      go_enter Tryz.func46, Tryz.ntmps46
      go_wp2_with fail
      go_ret
      exact ⟨rfl, 0, rfl⟩
  · rw [decide_eq_false (fun q => h1 q.1), Bool.false_and]
    clear e0 hn4 hn HL h
    go_enter Tryz.func46, Tryz.ntmps46
    go_wp2_with fail
    go_ret
    exact ⟨rfl, 0, rfl⟩
theorem Its.hp {w0 w w' : World} {l : List It} (h : Its w0 l w) (e : w'.heap = w.heap) (e1 : w'.os = w.os) (e2 : w'.tape = w.tape) (e3 : w'.output = w.output) : Its w0 l w' := h.keep ⟨e1, e2, e3, by rw [e]; exact Nat.le_refl _, fun k hk => by rw [e]⟩
theorem ad_known {K : Bk} {r : Rq} (h : K.sta r.id ≠ 0) : K.ad r = K := Bk.ad_no (by
  unfold Bk.adY
  unfold Bk.sta at h
  cases hf : fnd K.all r.id with
  | none => rw [hf] at h; exact absurd rfl h
  | some e => simp)
theorem korderS (h : Its w0 (.ctl w0.heap.size g E n m P c :: l) w) (hv : Liv P c) {k : Nat} (hg : Gd c k) (hk : k ≤ 7000) (r : Rq) :
    Calls Tryz.prog 14 #[.pointer (some ⟨g, 0, none⟩), .agg #[.int .i64 r.id, .int .i64 r.st, .int .i64 r.tt]] w (TwoP w0 l g E n m (c.order E r)) := by
  obtain ⟨l', hl'⟩ : ∃ l', It.box w.heap.size #[.int .i64 r.id, .int .i64 r.st, .int .i64 r.tt] 53 :: l = l' := ⟨_, rfl⟩
  obtain ⟨w1, hw1⟩ : ∃ w1, w.alloc (.cells #[.int .i64 r.id, .int .i64 r.st, .int .i64 r.tt] 53) = w1 := ⟨_, rfl⟩
  have h1 : Its w0 (.ctl w0.heap.size g E n m P c :: l') w1 := by
    rw [← hw1, ← hl']
    exact (h.new (x := .box w.heap.size _ 53) (heap_new w _) (fun k hk => by cases hk; exact Nat.le_refl _) (below_new w _)).swap
  have SX : Hid (∀ W, Its w0 (.ctl w0.heap.size g E n m P c :: l') W → (W.cell? ⟨w.heap.size, 0, none⟩ = some (.int .i64 r.id) ∧ W.cell? ⟨w.heap.size, 1, none⟩ = some (.int .i64 r.st) ∧ W.cell? ⟨w.heap.size, 2, none⟩ = some (.int .i64 r.tt)) ∧ W.cell? ⟨g, 0, none⟩ = some (.slice P.la n P.lc) ∧ W.cell? ⟨g, 1, none⟩ = some (.slice P.lb m P.le) ∧ W.cell? ⟨g, 4, none⟩ = some (.pointer (some ⟨P.gm, 0, none⟩)) ∧ W.cell? ⟨g, 5, none⟩ = some (.pointer (some ⟨P.gb, 0, none⟩)) ∧ W.cell? ⟨g, 38, none⟩ = some (.bool c.dead)) := hide (fun W hW => by
    subst hl'
    obtain ⟨c0, c1, c2, c3, c4, c5, c37, c38⟩ := kt_c hW.one
    have hb := hW.two
    exact ⟨⟨(cells_at hb 0).1, (cells_at hb 1).1, (cells_at hb 2).1⟩, c0, c1, c4, c5, c38⟩)
  have SBX : Hid (∀ W P', P'.gb = P.gb → Its w0 (.ctl w0.heap.size g E n m P' c :: l') W → W.cell? ⟨g, 5, none⟩ = some (.pointer (some ⟨P.gb, 0, none⟩)) ∧ W.cell? ⟨w.heap.size, 0, none⟩ = some (.int .i64 r.id) ∧ W.cell? ⟨w.heap.size, 1, none⟩ = some (.int .i64 r.st) ∧ W.cell? ⟨w.heap.size, 2, none⟩ = some (.int .i64 r.tt)) := hide (fun W P' e hW => by
    subst hl'
    obtain ⟨c0, c1, c2, c3, c4, c5, c37, c38⟩ := kt_c hW.one
    have hb := hW.two
    rw [e] at c5
    exact ⟨c5, (cells_at hb 0).1, (cells_at hb 1).1, (cells_at hb 2).1⟩)
  have drop : Hid (∀ W P' c', Its w0 (.ctl w0.heap.size g E n m P' c' :: l') W → Its w0 (.ctl w0.heap.size g E n m P' c' :: l) W) := hide (fun W P' c' hW => by subst hl'; exact hW.swap.tail)
  have hp : c.order E r = if c.dead = true then (false, 190, c) else if r.id < 0 ∨ 2147483647 < r.id then (false, 1, c) else if c.K.sta r.id ≠ 0 then (c.K.adY r, c.K.adC r, c) else if stN E r.st = false then (false, 1, c) else if c.S.whr r.tt = -1 then (false, 160, c) else if va (frmF E (c.S.whr r.tt).toNat) r.st.toNat < 0 then (false, 161, c) else (decide ((c.note ⟨2, r.id, r.st, r.tt⟩).1 = 0), (c.note ⟨2, r.id, r.st, r.tt⟩).1, (c.note ⟨2, r.id, r.st, r.tt⟩).2) := rfl
  rw [hp]
  clear hp
  have HI := hide h1
  have HV := hide hv
  have hI64 : 0 ≤ r.id → r.id ≤ 2147483647 → I64 r.id := fun a b => by unfold I64; omega
  have KN : Hid (c.dead = false → 0 ≤ r.id → r.id ≤ 2147483647 → ∀ W, Its w0 (.ctl w0.heap.size g E n m P c :: l') W → Calls Tryz.prog 49 #[.pointer (some ⟨g, 0, none⟩), .agg #[.int .i64 2, .int .i64 r.id, .int .i64 r.st, .int .i64 r.tt]] W (CodeP w0 l' g E n m (c.note ⟨2, r.id, r.st, r.tt⟩))) := hide (fun hd a b W hW => knote_any hW hv hd hg hk ⟨2, r.id, r.st, r.tt⟩ (hI64 a b))
  have KS : Hid (c.dead = false → 0 ≤ r.id → r.id ≤ 2147483647 → ∀ W, Its w0 (.ctl w0.heap.size g E n m P c :: l') W → Calls Tryz.prog 44 #[.pointer (some ⟨P.gb, 0, none⟩), .int .i64 r.id] W fun e w' => e = .returned (.int .i64 (c.K.sta r.id)) ∧ w' = W) := hide (fun hd a b W hW => by rw [← (hv hd).2]; exact state_any (kt_b hW.one) (hI64 a b))
  have KA : Hid (c.dead = false → 0 ≤ r.id → r.id ≤ 2147483647 → c.K.sta r.id ≠ 0 → ∀ W, Its w0 (.ctl w0.heap.size g E n m P c :: l') W → Calls Tryz.prog 45 #[.pointer (some ⟨P.gb, 0, none⟩), .agg #[.int .i64 r.id, .int .i64 r.st, .int .i64 r.tt]] W fun q w' => q = .returned (.tuple #[.bool (c.K.adY r), .int .i64 (c.K.adC r)]) ∧ ∃ P', P'.gb = P.gb ∧ Liv P' c ∧ Its w0 (.ctl w0.heap.size g E n m P' c :: l') w') := hide (fun hd a b hs W hW => by
    have hf := kt_f hW.one
    obtain ⟨eS, eK⟩ := hv hd
    obtain ⟨got, _, _, h3, h4⟩ := hg.nt hd
    refine (addS r hW.kbook (hI64 a b) (by rw [eK]; omega) ⟨rfl, rfl⟩ rfl).mono ?_
    rintro q w' ⟨rfl, H', hq⟩
    exact ⟨by rw [eK], { P with Hk := H', K := P.K.ad r }, rfl, fun _ => ⟨eS, by show P.K.ad r = c.K; rw [eK]; exact ad_known hs⟩, Its.kbookB hf hq⟩)
  have KT : Hid (∀ W, Its w0 (.ctl w0.heap.size g E n m P c :: l') W → Calls Tryz.prog 46 #[.pointer (some ⟨g, 0, none⟩), .int .i64 r.st] W fun e w' => e = .returned (.bool (stN E r.st)) ∧ ∃ q, w' = W.drewN q) := hide (fun W hW => isStation_any hW.one r.st)
  have KW : Hid (c.dead = false → ∀ W, Its w0 (.ctl w0.heap.size g E n m P c :: l') W → Calls Tryz.prog 47 #[.pointer (some ⟨P.gm, 0, none⟩), .int .i64 r.tt] W fun e w' => e = .returned (.int .i64 (c.S.whr r.tt)) ∧ w' = W) := hide (fun hd W hW => by rw [← (hv hd).1]; exact where_m (kt_m hW.one) r.tt)
  have KF : Hid (∀ (s j : Nat), s < n → j < n → r.st = (j : Int) → ∀ W, Its w0 (.ctl w0.heap.size g E n m P c :: l') W → Calls Tryz.prog 48 #[.agg #[.slice P.la n P.lc, .slice P.lb m P.le], .slice none 0 0, .int .i64 (s : Int)] W fun e w' => ∃ gl, e = .returned (.tuple #[.slice (some ⟨gl, 0, none⟩) n n, .int .i64 0]) ∧ w'.cell? ⟨gl, j, none⟩ = some (.int .i64 (va (frmF E s) r.st.toNat)) ∧ Its w0 (.ctl w0.heap.size g E n m P c :: l') w') := hide (fun s j hs hj hst W hW => by
    have hf := kt_f hW.one
    refine (from_ok _ _ _ _ _ _ n m 0 s E.ns E.es [] W (kt_ly hW.one) ⟨rfl, .inl ⟨rfl, rfl⟩, by omega⟩ hs).mono ?_
    rintro e w' ⟨⟨gl, L, rfl, ho, hfar⟩, hb⟩
    have hfar' : Far (Eg E.es (clo E.es.length []) 0) (Tk E.ns) s E.ns.length L := by rw [hf.hm, hf.hn]; exact hfar
    have hL := hfar.1
    have e1 := El.Own.at1 (Value.int .i64) (fun _ => rfl) rfl ho j (va L j) (va_at L j (by rw [hL]; exact hj))
    refine ⟨gl, rfl, ?_, hW.keep hb⟩
    rw [frmF_of hfar', hst, show ((j : Int)).toNat = j by omega]
    exact e1.1)
  have Hwn : Hid (∀ t, c.dead = false → c.S.whr t ≠ -1 → ∃ s : Nat, c.S.whr t = (s : Int) ∧ s < n) := hide (fun t hd ht => by
    obtain ⟨eS, _⟩ := hv hd
    have hl := (mr_len (kt_m h.one)).1
    have hT : isT t = true := by
      cases hb : isT t with
      | true => rfl
      | false => exfalso; apply ht; unfold Mr.whr; rw [hb]; rfl
    have h2 := (whr_at hT ht).1
    rw [← eS] at h2 ⊢
    have h3 := Mr.isN_iff.1 h2
    exact ⟨(P.S.whr t).toNat, by omega, by omega⟩)
  have Hst : Hid (stN E r.st = true → ∃ j : Nat, r.st = (j : Int) ∧ j < n) := hide (fun hs => by
    have hn := (kt_f h.one).hn
    unfold stN at hs
    simp only [Bool.and_eq_true, decide_eq_true_eq] at hs
    exact ⟨r.st.toNat, by omega, by omega⟩)
  have hnn := hide (kt_f h.one).hn
  obtain ⟨⟨y0, y1, y2⟩, x0, x1, x4, x5, x38⟩ := SX.out _ HI.out
  clear h h1 hl' hv hg hI64
  obtain ⟨rid, rst, rtt⟩ := r
  dsimp only at *
  cases hd : c.dead with
  | true =>
    rw [hd] at x38
    rw [if_pos rfl]
    clear hd KN KS KA KT KW KF Hwn Hst
    go_enter Tryz.func14, Tryz.ntmps14
    go_wp2_with fail
    go_ret2
    exact ⟨rfl, P, HV.out, drop.out _ _ _ HI.out⟩
  | false =>
  rw [hd] at x38
  rw [if_neg (by simp)]
  have KN := hide (KN.out hd)
  have KS := hide (KS.out hd)
  have KA := hide (KA.out hd)
  have KW := hide (KW.out hd)
  have Hwn := hide (fun t => Hwn.out t hd)
  clear hd
  by_cases q1 : rid < 0
  · rw [if_pos (.inl q1)]
    clear KN KS KA KT KW KF Hwn Hst
    go_enter Tryz.func14, Tryz.ntmps14
    go_wp2_with fail
    go_ret2
    exact ⟨rfl, P, HV.out, drop.out _ _ _ HI.out⟩
  by_cases q2 : 2147483647 < rid
  · rw [if_pos (.inr q2)]
    clear KN KS KA KT KW KF Hwn Hst
    go_enter Tryz.func14, Tryz.ntmps14
    go_wp2_with fail
    go_ret2
    exact ⟨rfl, P, HV.out, drop.out _ _ _ HI.out⟩
  rw [if_neg (by omega)]
  have KN := hide (KN.out (by omega) (by omega))
  have KS := hide (KS.out (by omega) (by omega))
  have KA := hide (KA.out (by omega) (by omega))
  generalize c.K.sta rid = sx at *
  by_cases q3 : sx = 0
  · subst q3
    rw [if_neg (by simp)]
    clear KA
    cases q4 : stN E rst with
    | false =>
      rw [q4] at KT
      rw [if_pos rfl]
      clear q4 KN KW KF Hwn Hst SBX
      go_enter Tryz.func14, Tryz.ntmps14
      go_upto_region 5 with fail
      go_region_held3 (fun W => W.cell? ⟨g, 5, none⟩ = some (.pointer (some ⟨P.gb, 0, none⟩)) ∧ W.cell? ⟨w.heap.size, 0, none⟩ = some (.int .i64 rid)) (exact ⟨x5, y0⟩) (first | (go_at_call 44; refine (KS.out _ ?_).mono ?_; exact HI.out.hp rfl rfl rfl rfl; rintro e w2 ⟨rfl, rfl⟩) | fail)
      go_wp2_with (go_at_call 46; refine (KT.out _ ?_).mono ?_; exact HI.out.hp rfl rfl rfl rfl; rintro e w3 ⟨rfl, q9, rfl⟩)
      go_ret2
      exact ⟨rfl, P, HV.out, drop.out _ _ _ (HI.out.hp rfl rfl rfl rfl)⟩
    | true =>
    rw [q4] at KT
    rw [if_neg (by simp)]
    obtain ⟨j, rfl, hj⟩ := Hst.out q4
    clear q4 Hst
    generalize hwt : c.S.whr rtt = wt at *
    by_cases q5 : wt = -1
    · rw [if_pos q5]
      have q5' : (wt == -1) = true := by rw [q5]; rfl
      subst q5
      clear KN KF Hwn hwt SBX
      go_enter Tryz.func14, Tryz.ntmps14
      go_upto_region 5 with fail
      go_region_held3 (fun W => W.cell? ⟨g, 5, none⟩ = some (.pointer (some ⟨P.gb, 0, none⟩)) ∧ W.cell? ⟨w.heap.size, 0, none⟩ = some (.int .i64 rid)) (exact ⟨x5, y0⟩) (first | (go_at_call 44; refine (KS.out _ ?_).mono ?_; exact HI.out.hp rfl rfl rfl rfl; rintro e w2 ⟨rfl, rfl⟩) | fail)
      go_upto_region 9 with (go_at_call 46; refine (KT.out _ ?_).mono ?_; exact HI.out.hp rfl rfl rfl rfl; rintro e w3 ⟨rfl, q9, rfl⟩)
      go_region_held3 (fun W => W.cell? ⟨g, 4, none⟩ = some (.pointer (some ⟨P.gm, 0, none⟩)) ∧ W.cell? ⟨w.heap.size, 2, none⟩ = some (.int .i64 rtt)) (exact ⟨x4, y2⟩) (first | (go_at_call 47; refine (KW.out _ ?_).mono ?_; exact HI.out.hp rfl rfl rfl rfl; rintro e w6 ⟨rfl, rfl⟩) | fail)
      go_wp2_with fail
      go_ret2
      exact ⟨rfl, P, HV.out, drop.out _ _ _ (HI.out.hp rfl rfl rfl rfl)⟩
    rw [if_neg q5]
    have q5' : (wt == -1) = false := beq_eq_false_iff_ne.2 q5
    obtain ⟨s, hs1, hs2⟩ := Hwn.out rtt (by rw [hwt]; exact q5)
    rw [hwt] at hs1
    subst hs1
    have KF := hide (KF.out s j hs2 hj rfl)
    rw [show ((s : Int)).toNat = s by omega]
    generalize va (frmF E s) ((j : Int)).toNat = d at *
    have j0 : (0 : Int) ≤ (j : Int) := by omega
    have j1 : (j : Int) < (n : Int) := by omega
    clear hwt Hwn SBX hs2
    by_cases q6 : d < 0
    · rw [if_pos q6]
      clear KN
      go_enter Tryz.func14, Tryz.ntmps14
      go_upto_region 5 with fail
      go_region_held3 (fun W => W.cell? ⟨g, 5, none⟩ = some (.pointer (some ⟨P.gb, 0, none⟩)) ∧ W.cell? ⟨w.heap.size, 0, none⟩ = some (.int .i64 rid)) (exact ⟨x5, y0⟩) (first | (go_at_call 44; refine (KS.out _ ?_).mono ?_; exact HI.out.hp rfl rfl rfl rfl; rintro e w2 ⟨rfl, rfl⟩) | fail)
      go_upto_region 9 with (go_at_call 46; refine (KT.out _ ?_).mono ?_; exact HI.out.hp rfl rfl rfl rfl; rintro e w3 ⟨rfl, q9, rfl⟩)
      go_region_held3 (fun W => W.cell? ⟨g, 4, none⟩ = some (.pointer (some ⟨P.gm, 0, none⟩)) ∧ W.cell? ⟨w.heap.size, 2, none⟩ = some (.int .i64 rtt)) (exact ⟨x4, y2⟩) (first | (go_at_call 47; refine (KW.out _ ?_).mono ?_; exact HI.out.hp rfl rfl rfl rfl; rintro e w6 ⟨rfl, rfl⟩) | fail)
      go_wp2_with (go_at_call 48; refine (KF.out _ ?_).mono ?_; exact HI.out.hp rfl rfl rfl rfl; rintro e w4 ⟨gl, rfl, e4, q⟩; have HI4 := hide q; obtain ⟨⟨v0, v1, v2⟩, _⟩ := SX.out _ q; clear q)
      go_ret2
      exact ⟨rfl, P, HV.out, drop.out _ _ _ HI4.out⟩
    · rw [if_neg q6]
      generalize c.note ⟨2, rid, (j : Int), rtt⟩ = np at *
      obtain ⟨cd, c'⟩ := np
      dsimp only at *
      by_cases hc : cd = 0
      · subst hc
        go_enter Tryz.func14, Tryz.ntmps14
        go_upto_region 5 with fail
        go_region_held3 (fun W => W.cell? ⟨g, 5, none⟩ = some (.pointer (some ⟨P.gb, 0, none⟩)) ∧ W.cell? ⟨w.heap.size, 0, none⟩ = some (.int .i64 rid)) (exact ⟨x5, y0⟩) (first | (go_at_call 44; refine (KS.out _ ?_).mono ?_; exact HI.out.hp rfl rfl rfl rfl; rintro e w2 ⟨rfl, rfl⟩) | fail)
        go_upto_region 9 with (go_at_call 46; refine (KT.out _ ?_).mono ?_; exact HI.out.hp rfl rfl rfl rfl; rintro e w3 ⟨rfl, q9, rfl⟩)
        go_region_held3 (fun W => W.cell? ⟨g, 4, none⟩ = some (.pointer (some ⟨P.gm, 0, none⟩)) ∧ W.cell? ⟨w.heap.size, 2, none⟩ = some (.int .i64 rtt)) (exact ⟨x4, y2⟩) (first | (go_at_call 47; refine (KW.out _ ?_).mono ?_; exact HI.out.hp rfl rfl rfl rfl; rintro e w6 ⟨rfl, rfl⟩) | fail)
        go_wp2_with (first
          | (go_at_call 48; refine (KF.out _ ?_).mono ?_; exact HI.out.hp rfl rfl rfl rfl; rintro e w4 ⟨gl, rfl, e4, q⟩; have HI4 := hide q; obtain ⟨⟨v0, v1, v2⟩, _⟩ := SX.out _ q; clear q)
          | (go_at_call 49; refine (KN.out _ HI4.out).mono ?_; rintro e w5 ⟨rfl, P', hv', q⟩; have HV' := hide hv'; have HQ := hide q; clear hv' q))
        go_ret2
        exact ⟨rfl, P', HV'.out, drop.out _ _ _ HQ.out⟩
      · have hc' : (cd == 0) = false := beq_eq_false_iff_ne.2 hc
        rw [decide_eq_false hc]
        go_enter Tryz.func14, Tryz.ntmps14
        go_upto_region 5 with fail
        go_region_held3 (fun W => W.cell? ⟨g, 5, none⟩ = some (.pointer (some ⟨P.gb, 0, none⟩)) ∧ W.cell? ⟨w.heap.size, 0, none⟩ = some (.int .i64 rid)) (exact ⟨x5, y0⟩) (first | (go_at_call 44; refine (KS.out _ ?_).mono ?_; exact HI.out.hp rfl rfl rfl rfl; rintro e w2 ⟨rfl, rfl⟩) | fail)
        go_upto_region 9 with (go_at_call 46; refine (KT.out _ ?_).mono ?_; exact HI.out.hp rfl rfl rfl rfl; rintro e w3 ⟨rfl, q9, rfl⟩)
        go_region_held3 (fun W => W.cell? ⟨g, 4, none⟩ = some (.pointer (some ⟨P.gm, 0, none⟩)) ∧ W.cell? ⟨w.heap.size, 2, none⟩ = some (.int .i64 rtt)) (exact ⟨x4, y2⟩) (first | (go_at_call 47; refine (KW.out _ ?_).mono ?_; exact HI.out.hp rfl rfl rfl rfl; rintro e w6 ⟨rfl, rfl⟩) | fail)
        go_wp2_with (first
          | (go_at_call 48; refine (KF.out _ ?_).mono ?_; exact HI.out.hp rfl rfl rfl rfl; rintro e w4 ⟨gl, rfl, e4, q⟩; have HI4 := hide q; obtain ⟨⟨v0, v1, v2⟩, _⟩ := SX.out _ q; clear q)
          | (go_at_call 49; refine (KN.out _ HI4.out).mono ?_; rintro e w5 ⟨rfl, P', hv', q⟩; have HV' := hide hv'; have HQ := hide q; clear hv' q))
        go_ret2
        exact ⟨rfl, P', HV'.out, drop.out _ _ _ HQ.out⟩
  · rw [if_pos q3]
    have q3' : (sx == 0) = false := beq_eq_false_iff_ne.2 q3
    have KA := hide (KA.out q3)
    clear KN KT KW KF Hwn Hst
    generalize c.K.adY ⟨rid, rst, rtt⟩ = ay at *
    generalize c.K.adC ⟨rid, rst, rtt⟩ = ac at *
    go_enter Tryz.func14, Tryz.ntmps14
    go_upto_region 5 with fail
    go_region_held3 (fun W => W.cell? ⟨g, 5, none⟩ = some (.pointer (some ⟨P.gb, 0, none⟩)) ∧ W.cell? ⟨w.heap.size, 0, none⟩ = some (.int .i64 rid) ∧ W.cell? ⟨w.heap.size, 1, none⟩ = some (.int .i64 rst) ∧ W.cell? ⟨w.heap.size, 2, none⟩ = some (.int .i64 rtt)) (exact ⟨x5, y0, y1, y2⟩)
      (first
        | (go_at_call 44; refine (KS.out _ ?_).mono ?_; exact HI.out.hp rfl rfl rfl rfl; rintro e w2 ⟨rfl, rfl⟩)
        | fail)
    go_upto_region 6 with fail
    have SB : Hid (∀ W P', P'.gb = P.gb → Its w0 (.ctl w0.heap.size g E n m P' c :: l') W → W.cell? ⟨g, 5, none⟩ = some (.pointer (some ⟨P.gb, 0, none⟩)) ∧ W.cell? ⟨w.heap.size, 0, none⟩ = some (.int .i64 rid) ∧ W.cell? ⟨w.heap.size, 1, none⟩ = some (.int .i64 rst) ∧ W.cell? ⟨w.heap.size, 2, none⟩ = some (.int .i64 rtt)) := SBX
    go_region_held3 (fun W => W.cell? ⟨g, 5, none⟩ = some (.pointer (some ⟨P.gb, 0, none⟩)) ∧ W.cell? ⟨w.heap.size, 0, none⟩ = some (.int .i64 rid) ∧ W.cell? ⟨w.heap.size, 1, none⟩ = some (.int .i64 rst) ∧ W.cell? ⟨w.heap.size, 2, none⟩ = some (.int .i64 rtt)) (first | exact s6 | exact ⟨x5, y0, y1, y2⟩)
      (first
        | (go_at_call 45; refine (KA.out _ ?_).mono ?_; exact HI.out.hp rfl rfl rfl rfl; rintro e w2 ⟨rfl, P', hgb, hv', q⟩; have HV' := hide hv'; have HQ := hide q; have s6 := SB.out _ _ hgb q; clear hv' q)
        | fail)
    go_wp2_with fail
    go_ret2
    exact ⟨rfl, P', HV'.out, drop.out _ _ _ HQ.out⟩
end
end Go.Proofs.YtocmngpoemfpkabGreatDoor

namespace Go.Proofs.YtocmngpoemfpkabGreatDoor
open Go.RowKit
section
set_option maxRecDepth 100000
set_option maxHeartbeats 4000000
theorem nclone_any (a : Option Addr) (n c : Nat) (ms : List Nd) (w : World) (hn : ms.length = n) (hl : n ≤ 100000) (hv : ndE.Rd w (.slice a n c) ms) :
    Calls Tryz.prog 68 #[.slice a n c] w fun e w' => ∃ a' c', e = .returned (.slice a' n c') ∧ ndE.Own w' w.heap.size (.slice a' n c') ms ∧ Below w.heap.size w w' := by
  have hq : ∀ W a n c, (binOp .eql 22 (.slice a n c) (.slice none 0 0)).run Tryz.prog W = .ok (.bool a.isNone) W := fun W a n c => Lib.run_eql_slice_nil W 22 133 a n c 0 0 Tryz.underlying22
  cases a with
  | none =>
    obtain ⟨rfl, rfl, rfl⟩ : n = 0 ∧ c = 0 ∧ ms = [] := by
      rcases hv with ⟨h1, h2⟩ | ⟨x, cap, h, _⟩
      · simp only [Value.slice.injEq] at h1; exact ⟨h1.2.1, h1.2.2, h2⟩
      · simp only [Value.slice.injEq] at h; cases h.1
    clear hv hn hl
    go_enter Tryz.func68, Tryz.ntmps68
    go_wp2_with fail
    go_ret
    exact ⟨_, _, rfl, El.Own.nil _ _ _, Below.refl _ _⟩
  | some x =>
    have HR : Hid (∀ o, ndE.Rd (w.alloc o) (.slice (some x) n c) ms) := hide (fun o => hv.keep ((Below.refl _ _).alloc (Nat.le_refl _) o))
    have Hnew : Hid (ndE.Own (w.alloc (.cells #[] 133)) w.heap.size (.slice (some ⟨w.heap.size, 0, none⟩) 0 0) []) := hide (El.Own.new ndE w w.heap.size (Nat.le_refl _) #[] [] rfl (by simp) _ _ _ rfl rfl rfl)
    have Hb : Hid (∀ o, Below w.heap.size w (w.alloc o)) := hide (fun o => (Below.refl _ _).alloc (Nat.le_refl _) o)
    have Hn : Hid (([] : List Nd).length + ms.length ≤ 1000000) := hide (by simp; omega)
    have Hl := hide hn
    clear hv hl hn
    go_enter Tryz.func68, Tryz.ntmps68
    go_wp2_with (at_builtin; refine ndE.wp (w0 := w) (Hb.out _) (by rfl) _ _ rfl _ _ rfl rfl [] ms Hnew.out (HR.out _) Hn.out ?_; intro v1 w2 ho2 _ _ hb2; have Ho := hide ho2; have HB2 := hide hb2; clear ho2 hb2)
    obtain ⟨a', c', e⟩ := Ho.out.rd.form
    rw [List.nil_append, Hl.out] at e
    subst e
    go_ret
    exact ⟨_, _, rfl, Ho.out, HB2.out⟩
theorem eclone_any (a : Option Addr) (n c : Nat) (ms : List Ed) (w : World) (hn : ms.length = n) (hl : n ≤ 100000) (hv : edE.Rd w (.slice a n c) ms) :
    Calls Tryz.prog 69 #[.slice a n c] w fun e w' => ∃ a' c', e = .returned (.slice a' n c') ∧ edE.Own w' w.heap.size (.slice a' n c') ms ∧ Below w.heap.size w w' := by
  have hq : ∀ W a n c, (binOp .eql 23 (.slice a n c) (.slice none 0 0)).run Tryz.prog W = .ok (.bool a.isNone) W := fun W a n c => Lib.run_eql_slice_nil W 23 65 a n c 0 0 Tryz.underlying23
  cases a with
  | none =>
    obtain ⟨rfl, rfl, rfl⟩ : n = 0 ∧ c = 0 ∧ ms = [] := by
      rcases hv with ⟨h1, h2⟩ | ⟨x, cap, h, _⟩
      · simp only [Value.slice.injEq] at h1; exact ⟨h1.2.1, h1.2.2, h2⟩
      · simp only [Value.slice.injEq] at h; cases h.1
    clear hv hn hl
    go_enter Tryz.func69, Tryz.ntmps69
    go_wp2_with fail
    go_ret
    exact ⟨_, _, rfl, El.Own.nil _ _ _, Below.refl _ _⟩
  | some x =>
    have HR : Hid (∀ o, edE.Rd (w.alloc o) (.slice (some x) n c) ms) := hide (fun o => hv.keep ((Below.refl _ _).alloc (Nat.le_refl _) o))
    have Hnew : Hid (edE.Own (w.alloc (.cells #[] 65)) w.heap.size (.slice (some ⟨w.heap.size, 0, none⟩) 0 0) []) := hide (El.Own.new edE w w.heap.size (Nat.le_refl _) #[] [] rfl (by simp) _ _ _ rfl rfl rfl)
    have Hb : Hid (∀ o, Below w.heap.size w (w.alloc o)) := hide (fun o => (Below.refl _ _).alloc (Nat.le_refl _) o)
    have Hn : Hid (([] : List Ed).length + ms.length ≤ 1000000) := hide (by simp; omega)
    have Hl := hide hn
    clear hv hl hn
    go_enter Tryz.func69, Tryz.ntmps69
    go_wp2_with (at_builtin; refine edE.wp (w0 := w) (Hb.out _) (by rfl) _ _ rfl _ _ rfl rfl [] ms Hnew.out (HR.out _) Hn.out ?_; intro v1 w2 ho2 _ _ hb2; have Ho := hide ho2; have HB2 := hide hb2; clear ho2 hb2)
    obtain ⟨a', c', e⟩ := Ho.out.rd.form
    rw [List.nil_append, Hl.out] at e
    subst e
    go_ret
    exact ⟨_, _, rfl, Ho.out, HB2.out⟩
variable {w : World} {a b : Option Addr} {n m c e : Nat} {ns : List Nd} {es : List Ed}
theorem Its.ndsame {w0 w : World} {l : List It} {g n cp k : Nat} {ns : List Nd} {p : Nd} (h : Its w0 (.row ndE w0.heap.size (.slice (some ⟨g, 0, none⟩) n cp) ns :: l) w) (hp : ns[k]? = some p) : Its w0 (.row ndE w0.heap.size (.slice (some ⟨g, 0, none⟩) n cp) ns :: l) (w.setCell ⟨g, k * 3, none⟩ (.string p.name)) := by
  have h1 := own_setC (j := 0) h.one hp (z := p) (u := .string p.name) (by decide) rfl
  rw [set_same hp] at h1
  exact h.chg h1 (fun k hk => .inl hk) ((Frm.set w g (k * 3) (.string p.name)).mono (fun j _ e => by subst e; rfl))
theorem Its.ndsame0 {w0 w : World} {l : List It} {g n cp k o : Nat} {ns : List Nd} {p : Nd} (ho : o = 0) (h : Its w0 (.row ndE w0.heap.size (.slice (some ⟨g, o, none⟩) n cp) ns :: l) w) (hp : ns[k]? = some p) : Its w0 (.row ndE w0.heap.size (.slice (some ⟨g, o, none⟩) n cp) ns :: l) (w.setCell ⟨g, o + k * 3, none⟩ (.string p.name)) := by
  subst ho
  rw [Nat.zero_add]
  exact h.ndsame hp
theorem Its.add2 {w0 w w' : World} {l : List It} {α β : Type} {E : El Tryz.prog α} {F : El Tryz.prog β} {u v : Value} {xs : List α} {ys : List β} (h : Its w0 l w) (h' : Its w [.row E w.heap.size u xs, .row F w.heap.size v ys] w') : Its w0 (.row E w0.heap.size u xs :: .row F w0.heap.size v ys :: l) w' := by
  have hs := List.pairwise_cons.1 h'.sep
  have hk := h.keep h'.bel
  have g1 := h'.ge (.row E w.heap.size u xs) (by simp)
  have g2 := h'.ge (.row F w.heap.size v ys) (by simp)
  have hsz := h.size
  refine ⟨hk.bel, ?_, ?_, List.pairwise_cons.2 ⟨?_, List.pairwise_cons.2 ⟨?_, h.sep⟩⟩⟩
  · intro y hy
    rcases List.mem_cons.1 hy with rfl | hy
    · exact El.Own.mono h'.one hsz
    · rcases List.mem_cons.1 hy with rfl | hy
      · exact El.Own.mono h'.two hsz
      · exact hk.all y hy
  · intro y hy k hk'
    rcases List.mem_cons.1 hy with rfl | hy
    · have := g1 k hk'; omega
    · rcases List.mem_cons.1 hy with rfl | hy
      · have := g2 k hk'; omega
      · exact h.ge y hy k hk'
  · intro y hy k q q'
    rcases List.mem_cons.1 hy with rfl | hy
    · exact hs.1 (.row F w.heap.size v ys) (by simp) k q q'
    · have := y.lt (h.all y hy) k q'
      have := g1 k q
      omega
  · intro y hy k q q'
    have := y.lt (h.all y hy) k q'
    have := g2 k q
    omega
theorem kcopy_any (hn : ns.length = n) (hm : es.length = m) (hn4 : n ≤ 1000) (hm4 : m ≤ 1000) (hs : ∀ p ∈ ns, p.name.size ≤ 100000) (hv : ndE.Rd w (.slice a n c) ns) (hu : edE.Rd w (.slice b m e) es) :
    Calls Tryz.prog 25 #[.agg #[.slice a n c, .slice b m e]] w fun r w' => ∃ a1 c1 b1 e1, r = .returned (.agg #[.slice a1 n c1, .slice b1 m e1]) ∧ Its w [.row ndE w.heap.size (.slice a1 n c1) ns, .row edE w.heap.size (.slice b1 m e1) es] w' := by
  have I0 : Hid (Its w [.box (w.heap.size + 1) #[.slice none 0 0, .slice none 0 0] 25, .box w.heap.size #[.slice a n c, .slice b m e] 25] ((w.alloc (.cells #[.slice a n c, .slice b m e] 25)).alloc (.cells #[.slice none 0 0, .slice none 0 0] 25))) := hide (by
    have := ((Its.nil w).box1 #[.slice a n c, .slice b m e] 25).boxN #[.slice none 0 0, .slice none 0 0] 25 rfl
    rwa [show (w.alloc (.cells #[.slice a n c, .slice b m e] 25)).heap.size = w.heap.size + 1 by simp] at this)
  obtain ⟨l1, hl1⟩ : ∃ l1 : List It, [.box (w.heap.size + 1) #[.slice none 0 0, .slice none 0 0] 25, .box w.heap.size #[.slice a n c, .slice b m e] 25] = l1 := ⟨_, rfl⟩
  have SB0 : Hid (∀ W, Its w l1 W → W.cell? ⟨w.heap.size, 0, none⟩ = some (.slice a n c) ∧ W.cell? ⟨w.heap.size, 1, none⟩ = some (.slice b m e)) := hide (fun W hW => by subst hl1; exact ⟨(cells_at hW.two 0).1, (cells_at hW.two 1).1⟩)
  have SB1 : Hid (∀ W x, Its w (x :: l1) W → W.cell? ⟨w.heap.size, 0, none⟩ = some (.slice a n c) ∧ W.cell? ⟨w.heap.size, 1, none⟩ = some (.slice b m e)) := hide (fun W x hW => SB0.out W hW.tail)
  have SB2 : Hid (∀ W x y, Its w (x :: y :: l1) W → W.cell? ⟨w.heap.size, 0, none⟩ = some (.slice a n c) ∧ W.cell? ⟨w.heap.size, 1, none⟩ = some (.slice b m e)) := hide (fun W x y hW => SB0.out W hW.tail.tail)
  have SB3 : Hid (∀ W x y z, Its w (x :: y :: z :: l1) W → W.cell? ⟨w.heap.size, 0, none⟩ = some (.slice a n c) ∧ W.cell? ⟨w.heap.size, 1, none⟩ = some (.slice b m e)) := hide (fun W x y z hW => SB0.out W hW.tail.tail.tail)
  have KN : Hid (∀ W L, Its w L W → Calls Tryz.prog 68 #[.slice a n c] W fun r w' => ∃ a1 c1, r = .returned (.slice a1 n c1) ∧ Its w (.row ndE w.heap.size (.slice a1 n c1) ns :: L) w') := hide (fun W L hW => by
    refine (nclone_any a n c ns W hn (by omega) (hv.keep hW.bel)).mono ?_
    rintro r w' ⟨a1, c1, rfl, q1, q2⟩
    exact ⟨a1, c1, rfl, hW.fresh q1 q2⟩)
  have KE : Hid (∀ W L, Its w L W → Calls Tryz.prog 69 #[.slice b m e] W fun r w' => ∃ b1 e1, r = .returned (.slice b1 m e1) ∧ Its w (.row edE w.heap.size (.slice b1 m e1) es :: L) w') := hide (fun W L hW => by
    refine (eclone_any b m e es W hm (by omega) (hu.keep hW.bel)).mono ?_
    rintro r w' ⟨b1, e1, rfl, q1, q2⟩
    exact ⟨b1, e1, rfl, hW.fresh q1 q2⟩)
  have KS : Hid (∀ p ∈ ns, ∀ W, Calls Tryz.prog 70 #[.string p.name] W fun r w' => r = .returned (.string p.name) ∧ Below W.heap.size W w') := hide (fun p hp W => clone_any p.name W (hs p hp))
  have i0 : (n : Int) ≤ 1000 := by omega
  have Hn := hide hn
  have HX0 : Hid (Its w l1 ((w.alloc (.cells #[.slice a n c, .slice b m e] 25)).alloc (.cells #[.slice none 0 0, .slice none 0 0] 25))) := hide (by rw [← hl1]; exact I0.out)
  have Hl1 := hide hl1
  clear hn hm hn4 hm4 hs hv hu I0 hl1
  go_enter Tryz.func25, Tryz.ntmps25
  go_upto_region 1 with fail
  generalize (w.alloc (.cells #[.slice a n c, .slice b m e] 25)).alloc (.cells #[.slice none 0 0, .slice none 0 0] 25) = W0 at *
  go_cut [3] (fun v3 wx => ∃ (x3 : Nat) (a1 : Option Addr) (c1 : Nat) (b1 : Option Addr) (e1 : Nat), v3 = .pointer (some ⟨x3, 0, none⟩) ∧ Hid (Its w (.box x3 #[.slice a1 n c1, .slice b1 m e1] 25 :: .row ndE w.heap.size (.slice a1 n c1) ns :: .row edE w.heap.size (.slice b1 m e1) es :: l1) wx))
  case first =>
    refine wp_region_held_drew (S := (fun W => W.cell? ⟨w.heap.size, 0, none⟩ = some (.slice a n c) ∧ W.cell? ⟨w.heap.size, 1, none⟩ = some (.slice b m e))) (by kernel_rfl) (by first | exact SB0.out _ HX0.out | exact SB0.out _ (HX0.out.hp rfl rfl rfl rfl)) (fun hS => ?_)
    refine wpAnyH_take (i := 0) (v := .pointer (some ⟨w.heap.size, 0, none⟩)) rfl (by kernel_rfl) (by kernel_rfl) (by kernel_rfl) (fun _ _ _ h => h) (Or.inl ⟨by kernel_rfl, fun W' hW => by obtain ⟨s0, s1⟩ := hW; go_simp⟩) hS ?_
    refine wpAnyH_take (i := 1) (v := .slice a n c) rfl (by kernel_rfl) (by kernel_rfl) (by kernel_rfl) (fun _ _ _ h => h) (Or.inl ⟨by kernel_rfl, fun W' hW => by obtain ⟨s0, s1⟩ := hW; go_simp⟩) hS ?_
    refine wpAnyH_take (i := 3) (v := .pointer (some ⟨w.heap.size, 1, none⟩)) rfl (by kernel_rfl) (by kernel_rfl) (by kernel_rfl) (fun _ _ _ h => h) (Or.inl ⟨by kernel_rfl, fun W' hW => by obtain ⟨s0, s1⟩ := hW; go_simp⟩) hS ?_
    refine wpAnyH_take (i := 4) (v := .slice b m e) rfl (by kernel_rfl) (by kernel_rfl) (by kernel_rfl) (fun _ _ _ h => h) (Or.inl ⟨by kernel_rfl, fun W' hW => by obtain ⟨s0, s1⟩ := hW; go_simp⟩) hS ?_
    refine wpAnyH_ready (rs := [2, 7]) (by kernel_rfl) (by simp) ?_
    refine AllReadyH.cons rfl (fun K hK => ?_) (AllReadyH.cons rfl (fun K hK => ?_) AllReadyH.nil)
    · go_simp
      go_at_call 68
      refine (KN.out _ (l1) ?_).mono ?_
      first | exact HX0.out | exact HX0.out.hp rfl rfl rfl rfl
      rintro r w1 ⟨a1, c1, rfl, q⟩
      have HX1 := hide q
      clear q
      go_simp
      refine hK.out _ _ (by first | exact SB1.out _ _ HX1.out | exact SB1.out _ _ (HX1.out.hp rfl rfl rfl rfl)) (fun _ => ?_)
      clear hK K
      refine wpAnyH_ready (rs := [5, 7]) (by kernel_rfl) (by simp) ?_
      refine AllReadyH.cons rfl (fun K hK => ?_) (AllReadyH.cons rfl (fun K hK => ?_) AllReadyH.nil)
      · go_simp
        go_at_call 69
        refine (KE.out _ ((.row ndE w.heap.size (.slice a1 n c1) ns : It) :: l1) ?_).mono ?_
        first | exact HX1.out | exact HX1.out.hp rfl rfl rfl rfl
        rintro r w2 ⟨b1, e1, rfl, q⟩
        have HX2 := hide q
        clear q
        go_simp
        refine hK.out _ _ (by first | exact SB2.out _ _ _ HX2.out | exact SB2.out _ _ _ (HX2.out.hp rfl rfl rfl rfl)) (fun _ => ?_)
        clear hK K
        refine wpAnyH_take (i := 6) (v := .agg #[.slice a1 n c1, .slice b1 m e1]) rfl (by kernel_rfl) (by kernel_rfl) (by kernel_rfl) (fun _ _ _ h => h) (Or.inl ⟨by kernel_rfl, fun W' hW => by obtain ⟨s0, s1⟩ := hW; go_simp⟩) (by first | exact SB2.out _ _ _ HX2.out | exact SB2.out _ _ _ (HX2.out.hp rfl rfl rfl rfl)) ?_
        refine wpAnyH_ready (rs := [7]) (by kernel_rfl) (by simp) ?_
        refine AllReadyH.cons rfl (fun K hK => ?_) AllReadyH.nil
        · go_simp
          have HX3 := hide (HX2.out.boxN #[.slice none 0 0, .slice none 0 0] 25 rfl)
          obtain ⟨xb, hxb⟩ : ∃ xb, xb = w2.heap.size := ⟨_, rfl⟩
          rw [← hxb] at HX3
          try rw [← hxb]
          have Hxb := hide hxb
          clear hxb
          refine hK.out _ _ (by first | exact SB3.out _ _ _ _ HX3.out | exact SB3.out _ _ _ _ (HX3.out.hp rfl rfl rfl rfl)) (fun _ => ?_)
          clear hK K
          have HB := hide (show Its w (.box xb #[.slice none 0 0, .slice none 0 0] 25 :: .row ndE w.heap.size (.slice a1 n c1) ns :: .row edE w.heap.size (.slice b1 m e1) es :: l1) _ from ((((((HX3.out).pick 1 rfl)).pick 2 rfl)).pick 2 rfl))
          have hb := HB.out.one
          have z0 := (cells_at hb 0).1
          have z1 := (cells_at hb 1).1
          have f0 := (cells_at hb 0).2
          have f1 := (cells_at hb 1).2
          have HB2 := hide ((HB.out.put1 0 (.slice a1 n c1)).put1 1 (.slice b1 m e1))
          clear hb
          refine wpAnyH_ready (rs := [8]) (by kernel_rfl) (by simp) ?_
          refine AllReadyH.cons rfl (fun K hK => ?_) AllReadyH.nil
          go_simp
          refine hK.out _ _ (by first | exact SB3.out _ _ _ _ HB2.out | exact SB3.out _ _ _ _ (HB2.out.hp rfl rfl rfl rfl)) (fun _ => ?_)
          clear hK K
          refine wpAnyH_done (by kernel_rfl) ?_ _
          go_wp2_with fail
          go_meet
          exact ⟨xb, a1, c1, b1, e1, rfl, hide (by first | exact HB2.out | exact HB2.out.hp rfl rfl rfl rfl)⟩
      · go_simp
        have HX2 := hide (HX1.out.boxN #[.slice none 0 0, .slice none 0 0] 25 rfl)
        obtain ⟨xb, hxb⟩ : ∃ xb, xb = w1.heap.size := ⟨_, rfl⟩
        rw [← hxb] at HX2
        try rw [← hxb]
        have Hxb := hide hxb
        clear hxb
        refine hK.out _ _ (by first | exact SB2.out _ _ _ HX2.out | exact SB2.out _ _ _ (HX2.out.hp rfl rfl rfl rfl)) (fun _ => ?_)
        clear hK K
        refine wpAnyH_ready (rs := [5]) (by kernel_rfl) (by simp) ?_
        refine AllReadyH.cons rfl (fun K hK => ?_) AllReadyH.nil
        · go_simp
          go_at_call 69
          refine (KE.out _ ((.box xb #[.slice none 0 0, .slice none 0 0] 25 : It) :: (.row ndE w.heap.size (.slice a1 n c1) ns : It) :: l1) ?_).mono ?_
          first | exact HX2.out | exact HX2.out.hp rfl rfl rfl rfl
          rintro r w3 ⟨b1, e1, rfl, q⟩
          have HX3 := hide q
          clear q
          go_simp
          refine hK.out _ _ (by first | exact SB3.out _ _ _ _ HX3.out | exact SB3.out _ _ _ _ (HX3.out.hp rfl rfl rfl rfl)) (fun _ => ?_)
          clear hK K
          refine wpAnyH_take (i := 6) (v := .agg #[.slice a1 n c1, .slice b1 m e1]) rfl (by kernel_rfl) (by kernel_rfl) (by kernel_rfl) (fun _ _ _ h => h) (Or.inl ⟨by kernel_rfl, fun W' hW => by obtain ⟨s0, s1⟩ := hW; go_simp⟩) (by first | exact SB3.out _ _ _ _ HX3.out | exact SB3.out _ _ _ _ (HX3.out.hp rfl rfl rfl rfl)) ?_
          have HB := hide (show Its w (.box xb #[.slice none 0 0, .slice none 0 0] 25 :: .row ndE w.heap.size (.slice a1 n c1) ns :: .row edE w.heap.size (.slice b1 m e1) es :: l1) _ from ((((((HX3.out).pick 0 rfl)).pick 2 rfl)).pick 2 rfl))
          have hb := HB.out.one
          have z0 := (cells_at hb 0).1
          have z1 := (cells_at hb 1).1
          have f0 := (cells_at hb 0).2
          have f1 := (cells_at hb 1).2
          have HB2 := hide ((HB.out.put1 0 (.slice a1 n c1)).put1 1 (.slice b1 m e1))
          clear hb
          refine wpAnyH_ready (rs := [8]) (by kernel_rfl) (by simp) ?_
          refine AllReadyH.cons rfl (fun K hK => ?_) AllReadyH.nil
          go_simp
          refine hK.out _ _ (by first | exact SB3.out _ _ _ _ HB2.out | exact SB3.out _ _ _ _ (HB2.out.hp rfl rfl rfl rfl)) (fun _ => ?_)
          clear hK K
          refine wpAnyH_done (by kernel_rfl) ?_ _
          go_wp2_with fail
          go_meet
          exact ⟨xb, a1, c1, b1, e1, rfl, hide (by first | exact HB2.out | exact HB2.out.hp rfl rfl rfl rfl)⟩
    · go_simp
      have HX1 := hide (HX0.out.boxN #[.slice none 0 0, .slice none 0 0] 25 rfl)
      obtain ⟨xb, hxb⟩ : ∃ xb, xb = W0.heap.size := ⟨_, rfl⟩
      rw [← hxb] at HX1
      try rw [← hxb]
      have Hxb := hide hxb
      clear hxb
      refine hK.out _ _ (by first | exact SB1.out _ _ HX1.out | exact SB1.out _ _ (HX1.out.hp rfl rfl rfl rfl)) (fun _ => ?_)
      clear hK K
      refine wpAnyH_ready (rs := [2]) (by kernel_rfl) (by simp) ?_
      refine AllReadyH.cons rfl (fun K hK => ?_) AllReadyH.nil
      · go_simp
        go_at_call 68
        refine (KN.out _ ((.box xb #[.slice none 0 0, .slice none 0 0] 25 : It) :: l1) ?_).mono ?_
        first | exact HX1.out | exact HX1.out.hp rfl rfl rfl rfl
        rintro r w2 ⟨a1, c1, rfl, q⟩
        have HX2 := hide q
        clear q
        go_simp
        refine hK.out _ _ (by first | exact SB2.out _ _ _ HX2.out | exact SB2.out _ _ _ (HX2.out.hp rfl rfl rfl rfl)) (fun _ => ?_)
        clear hK K
        refine wpAnyH_ready (rs := [5]) (by kernel_rfl) (by simp) ?_
        refine AllReadyH.cons rfl (fun K hK => ?_) AllReadyH.nil
        · go_simp
          go_at_call 69
          refine (KE.out _ ((.row ndE w.heap.size (.slice a1 n c1) ns : It) :: (.box xb #[.slice none 0 0, .slice none 0 0] 25 : It) :: l1) ?_).mono ?_
          first | exact HX2.out | exact HX2.out.hp rfl rfl rfl rfl
          rintro r w3 ⟨b1, e1, rfl, q⟩
          have HX3 := hide q
          clear q
          go_simp
          refine hK.out _ _ (by first | exact SB3.out _ _ _ _ HX3.out | exact SB3.out _ _ _ _ (HX3.out.hp rfl rfl rfl rfl)) (fun _ => ?_)
          clear hK K
          refine wpAnyH_take (i := 6) (v := .agg #[.slice a1 n c1, .slice b1 m e1]) rfl (by kernel_rfl) (by kernel_rfl) (by kernel_rfl) (fun _ _ _ h => h) (Or.inl ⟨by kernel_rfl, fun W' hW => by obtain ⟨s0, s1⟩ := hW; go_simp⟩) (by first | exact SB3.out _ _ _ _ HX3.out | exact SB3.out _ _ _ _ (HX3.out.hp rfl rfl rfl rfl)) ?_
          have HB := hide (show Its w (.box xb #[.slice none 0 0, .slice none 0 0] 25 :: .row ndE w.heap.size (.slice a1 n c1) ns :: .row edE w.heap.size (.slice b1 m e1) es :: l1) _ from ((((((HX3.out).pick 0 rfl)).pick 1 rfl)).pick 2 rfl))
          have hb := HB.out.one
          have z0 := (cells_at hb 0).1
          have z1 := (cells_at hb 1).1
          have f0 := (cells_at hb 0).2
          have f1 := (cells_at hb 1).2
          have HB2 := hide ((HB.out.put1 0 (.slice a1 n c1)).put1 1 (.slice b1 m e1))
          clear hb
          refine wpAnyH_ready (rs := [8]) (by kernel_rfl) (by simp) ?_
          refine AllReadyH.cons rfl (fun K hK => ?_) AllReadyH.nil
          go_simp
          refine hK.out _ _ (by first | exact SB3.out _ _ _ _ HB2.out | exact SB3.out _ _ _ _ (HB2.out.hp rfl rfl rfl rfl)) (fun _ => ?_)
          clear hK K
          refine wpAnyH_done (by kernel_rfl) ?_ _
          go_wp2_with fail
          go_meet
          exact ⟨xb, a1, c1, b1, e1, rfl, hide (by first | exact HB2.out | exact HB2.out.hp rfl rfl rfl rfl)⟩
  case rest =>
    obtain ⟨x3, a1, c1, b1, e1, rfl, HC⟩ := hcut
    obtain ⟨l2, hl2⟩ : ∃ l2, .row edE w.heap.size (.slice b1 m e1) es :: l1 = l2 := ⟨_, rfl⟩
    have HC2 : Hid (Its w (.row ndE w.heap.size (.slice a1 n c1) ns :: .box x3 #[.slice a1 n c1, .slice b1 m e1] 25 :: l2) wc) := hide (by rw [← hl2]; exact HC.out.swap)
    have HCE : Hid (l2 = .row edE w.heap.size (.slice b1 m e1) es :: l1) := hide hl2.symm
    have hbx := HC2.out.two
    have x0 := (cells_at hbx 0).1
    clear hbx HC hl2 KN KE SB0 SB1 SB2 SB3 HX0
    go_wp2_with fail
    clear x0
    go_loopw [16] (fun v16 wr => ∃ (k : Nat), v16 = .int .i64 k ∧ k ≤ n ∧ Hid (Its w (.row ndE w.heap.size (.slice a1 n c1) ns :: .box x3 #[.slice a1 n c1, .slice b1 m e1] 25 :: l2) wr)) (fun v16 _ => n - (intOf v16).toNat)
    case atStart => exact ⟨0, rfl, Nat.zero_le _, hide (by first | exact HC2.out | exact HC2.out.hp rfl rfl rfl rfl)⟩
    case round =>
      obtain ⟨k, rfl, hk, HR⟩ := hrel
      by_cases hlt : k < n
      · obtain ⟨p, hp⟩ : ∃ p, ns[k]? = some p := ⟨_, List.getElem?_eq_getElem (by rw [Hn.out]; exact hlt)⟩
        obtain ⟨g1, o1, rfl, q0, q1, q2⟩ := nd_at HR.out.one.rd k p hp
        have ho : o1 = 0 := by
          obtain ⟨g', cap, z, _⟩ := El.Own.some HR.out.one (by intro z; rw [z] at hp; cases hp)
          simp only [Value.slice.injEq, Option.some.injEq, Addr.mk.injEq] at z
          exact z.1.2.1
        have Ho := hide ho
        have hz0 : wr.frozen? ⟨g1, o1 + k * 3, none⟩ = false := by
          obtain ⟨cur, hcur, _⟩ := own_cells HR.out.one g1 (by rw [ho]; rfl)
          exact (cells_at hcur _).2
        have Hp := hide hp
        have KSp := hide (KS.out p (List.mem_of_getElem? hp))
        have j0 : (0 : Int) ≤ (k : Int) := by omega
        have j1 : (k : Int) < (n : Int) := by omega
        have j2 : wrap64 ((k : Int) + 1) = (k : Int) + 1 := by unfold wrap64; omega
        have HX := hide (HR.out.boxN #[.string p.name, .int .i64 p.kind, .int .i64 p.zone] 133 rfl)
        have SS : Hid (∀ W, Its w (.box wr.heap.size #[.string p.name, .int .i64 p.kind, .int .i64 p.zone] 133 :: .row ndE w.heap.size (.slice (some ⟨g1, o1, none⟩) n c1) ns :: .box x3 #[.slice (some ⟨g1, o1, none⟩) n c1, .slice b1 m e1] 25 :: l2) W → W.cell? ⟨wr.heap.size, 0, none⟩ = some (.string p.name) ∧ W.cell? ⟨x3, 0, none⟩ = some (.slice (some ⟨g1, o1, none⟩) n c1) ∧ W.cell? ⟨g1, o1 + k * 3, none⟩ = some (.string p.name) ∧ W.frozen? ⟨g1, o1 + k * 3, none⟩ = false) := hide (fun W hW => by
          obtain ⟨g', o', z0, z1, z2, z3⟩ := nd_at hW.two.rd k p Hp.out
          simp only [Option.some.injEq, Addr.mk.injEq, and_true] at z0
          obtain ⟨rfl, rfl⟩ := z0
          refine ⟨(cells_at hW.one 0).1, (cells_at hW.three 0).1, z1, ?_⟩
          obtain ⟨cur, hcur, _⟩ := own_cells hW.two g1 (by rw [Ho.out]; rfl)
          exact (cells_at hcur _).2)
        obtain ⟨s0, s1, _, _⟩ := SS.out _ HX.out
        clear hp ho hz0
        obtain ⟨nm, kd, zn⟩ := p
        dsimp only at *
        go_upto_region 5 with fail
        clear s0 s1 q0 q1 q2
        go_region_held3 (fun W => W.cell? ⟨wr.heap.size, 0, none⟩ = some (.string nm) ∧ W.cell? ⟨x3, 0, none⟩ = some (.slice (some ⟨g1, o1, none⟩) n c1) ∧ W.cell? ⟨g1, o1 + k * 3, none⟩ = some (.string nm) ∧ W.frozen? ⟨g1, o1 + k * 3, none⟩ = false) (first | exact HSS.out | exact SS.out _ HS.out | exact SS.out _ (HS.out.hp rfl rfl rfl rfl) | exact SS.out _ HY.out | exact SS.out _ (HY.out.hp rfl rfl rfl rfl) | exact SS.out _ HX.out | exact SS.out _ (HX.out.hp rfl rfl rfl rfl) | fail)
          (first
            | (go_at_call 70; refine (KSp.out _).mono ?_; rintro r w5 ⟨rfl, q9⟩; (first | (have HY := hide (HX.out.keep q9)) | (have HY := hide (Its.keep (HX.out.hp (w' := (wr.alloc (.cells #[.string nm, .int .i64 kd, .int .i64 zn] 133)).drew) rfl rfl rfl rfl) q9)) | (have HY := hide (Its.keep (HX.out.hp (w' := ((wr.alloc (.cells #[.string nm, .int .i64 kd, .int .i64 zn] 133)).drewN _)) rfl rfl rfl rfl) q9))); have HS := hide ((HY.out.swap.ndsame0 Ho.out Hp.out).swap); have HSS := hide (SS.out _ HS.out); clear q9)
            | fail)
        all_goals (
          go_wp2_with fail
          go_roundw
          case rel => exact ⟨k + 1, by go_num, by omega, hide (HS.out.tail.hp rfl rfl rfl rfl)⟩
          case measure => simp [intOf]; omega)
      · obtain rfl : k = n := by omega
        have j1 : ¬ (k : Int) < (k : Int) := by omega
        have hbx := HR.out.two
        have y0 := (cells_at hbx 0).1
        have y1 := (cells_at hbx 1).1
        have HF := hide (show Its w [.row ndE w.heap.size (.slice a1 k c1) ns, .row edE w.heap.size (.slice b1 m e1) es] wr from by
          have h2 := HR.out
          rw [HCE.out] at h2
          have h3 := h2.swap.tail
          rw [← Hl1.out] at h3
          exact ⟨h3.bel, fun x hx => h3.all x (by simp only [List.mem_cons, List.not_mem_nil, or_false] at hx ⊢; rcases hx with h | h <;> simp [h]), fun x hx => h3.ge x (by simp only [List.mem_cons, List.not_mem_nil, or_false] at hx ⊢; rcases hx with h | h <;> simp [h]), ((List.pairwise_append (l₁ := [_, _])).1 h3.sep).1⟩)
        have hz := HR.out
        rw [HCE.out, ← Hl1.out] at hz
        have HP2 := hide hz
        clear hbx hz
        have hb2 := (HP2.out.pick 3 rfl).one
        have z0 := (cells_at hb2 0).1
        have z1 := (cells_at hb2 1).1
        have f0 := (cells_at hb2 0).2
        have f1 := (cells_at hb2 1).2
        have HQ := hide (((HP2.out.pick 3 rfl).put1 0 (.slice a1 k c1)).put1 1 (.slice b1 m e1))
        clear hb2
        go_wp2_with fail
        have q0 := (cells_at HQ.out.one 0).1
        have q1 := (cells_at HQ.out.one 1).1
        simp at q0 q1
        refine bodyPost_ret (v := .agg #[.slice a1 k c1, .slice b1 m e1]) (by simp [results, Tryz.results25, go_sem, q0, q1]) rfl ?_
        refine ⟨a1, c1, b1, e1, rfl, ?_⟩
        have h4 := HQ.out.tail
        have h5 := h4.swap.tail
        have h6 : Its w [.row ndE w.heap.size (.slice a1 k c1) ns, .row edE w.heap.size (.slice b1 m e1) es] _ := ⟨h5.bel, fun x hx => h5.all x (by simp only [List.mem_cons, List.not_mem_nil, or_false] at hx; rcases hx with h | h <;> simp [h]), fun x hx => h5.ge x (by simp only [List.mem_cons, List.not_mem_nil, or_false] at hx; rcases hx with h | h <;> simp [h]), ((List.pairwise_append (l₁ := [_, _])).1 h5.sep).1⟩
        first
          | exact h6
          | exact h6.hp rfl rfl rfl rfl
end
end Go.Proofs.YtocmngpoemfpkabGreatDoor
