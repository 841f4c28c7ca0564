/- ControlOrders: texts Kda Kea Rmd Nfm Tda Kfa Kga Kha. -/
import Derived.Deep.CutBlock
import Derived.Deep.MidRow
import Derived.Deep.RegionHeld3
import Derived.Laws.IdiomStrings
import Derived.RegionTactic
import Derived.Test.YtocmngpoemfpkaaGreatDoorControlOrdersAA
import Derived.Test.YtocmngpoemfpkaaGreatDoorControlOrdersAE
import Derived.Test.YtocmngpoemfpkaaGreatDoorControlOrdersAF
import Derived.Test.YtocmngpoemfpkaaGreatDoorControlOrdersAG
import Derived.Test.YtocmngpoemfpkaaGreatDoorControlOrdersAL
namespace Go.Proofs.YtocmngpoemfpkaaGreatDoor
open Go.RowKit
set_option linter.unusedVariables false
def OwnI (w : World) (ds : List Int) (e : Ending) (w' : World) : Prop := ∃ a n c, e = .returned (.slice a n c) ∧ ds.length = n ∧ intE.Own w' w.heap.size (.slice a n c) ds ∧ Below w.heap.size w w'
section
variable {w : World} {B g n m : Nat} {H : Nat × Nat} {es : List (Int × Int)} {S : Mr}
set_option maxRecDepth 100000 in
set_option maxHeartbeats 2000000 in
theorem downP (h1 : (It.mir B g H n m es S).P w) : Calls Tryz.prog 136 #[.pointer (some ⟨g, 0, none⟩)] w fun e w' => OwnI w S.down e w' := by
  have H1 := hide h1
  obtain ⟨c0, c1⟩ := mr_cells h1
  obtain ⟨l0, l1, l2, l3⟩ := mr_len h1
  have HE := hide ((Its.nil w).empty intE)
  have L1 := hide l1
  have i0 : (m : Int) ≤ 120 := by omega
  have dn : Hid (S.down = downF 0 S.ds) := hide rfl
  obtain ⟨dd, hdd⟩ : ∃ dd, S.down = dd := ⟨_, rfl⟩
  rw [hdd] at dn ⊢
  clear hdd l0 l1 h1
  obtain ⟨W0, rfl⟩ : ∃ W, W = w := ⟨_, rfl⟩
  go_enter Tryz.func136, Tryz.ntmps136
  go_wp2_with fail
  go_loopw [11, 3] (fun v11 v3 wr => ∃ (k : Nat) (a : Option Addr) (q c : Nat), v11 = .int .i64 k ∧ v3 = .slice a q c ∧ k ≤ m ∧ Hid ((downF 0 (S.ds.take k)).length = q) ∧ Hid (Its W0 (.ints W0.heap.size (.slice a q c) (downF 0 (S.ds.take k)) :: []) wr)) (fun v11 _ _ => m - (intOf v11).toNat)
  case atStart => exact ⟨0, none, 0, 0, rfl, rfl, Nat.zero_le _, hide rfl, HE⟩
  case round =>
    obtain ⟨k, a, q, c, rfl, rfl, hk, HL, HR⟩ := hrel
    by_cases hlt : k < m
    · obtain ⟨D, hD⟩ : ∃ D, S.ds[k]? = some D := ⟨_, List.getElem?_eq_getElem (by rw [L1.out]; exact hlt)⟩
      obtain ⟨d0, d1, d2, d3, d4, d5⟩ := mr_d (It.keep (.mir B g H n m es S) H1.out HR.out.bel) hD
      have j0 : (0 : Int) ≤ (k : Int) := by omega
      have j1 : (k : Int) < (m : Int) := by omega
      have j2 : wrap64 ((k : Int) + 1) = (k : Int) + 1 := by unfold wrap64; omega
      have Htk : Hid (downF 0 (S.ds.take (k + 1)) = downF 0 (S.ds.take k) ++ (if D.dn then [(k : Int) + 1] else [])) := hide (by
        rw [take_one hD, downF_app, List.length_take, Nat.min_eq_left (by rw [L1.out]; omega), Nat.zero_add])
      have Hle : Hid ((downF 0 (S.ds.take k)).length + [(k : Int) + 1].length ≤ 1000000) := hide (by
        have := downF_len 0 (S.ds.take k)
        rw [List.length_take] at this
        simp only [List.length_singleton]; omega)
      have HA : Hid (∀ o, Its W0 (.ints W0.heap.size (.slice a q c) (downF 0 (S.ds.take k)) :: []) (wr.alloc o)) := hide (fun o => HR.out.alloc o)
      clear hD
      obtain ⟨fr, en, tt, sq, ev, dw⟩ := D
      dsimp only at *
      cases dw with
      | false =>
        go_wp2_with fail
        go_roundw
        case rel => exact ⟨k + 1, a, q, c, by go_num, rfl, by omega, hide (by rw [Htk.out]; simpa using HL.out), hide (by rw [Htk.out]; simpa using HA.out _)⟩
        case measure => simp [intOf]; omega
      | true =>
        have HX := hide ((HA.out (.cells #[.int .i64 fr, .int .i64 en, .int .i64 tt, .int .i64 sq, .bool ev, .bool true] 219)).alloc (.cells #[.int .i64 ((k : Int) + 1)] 3))
        have HS : Hid (intE.Rd ((wr.alloc (.cells #[.int .i64 fr, .int .i64 en, .int .i64 tt, .int .i64 sq, .bool ev, .bool true] 219)).alloc (.cells #[.int .i64 ((k : Int) + 1)] 3)) (.slice (some ⟨wr.heap.size + 1, 0, none⟩) 1 1) [(k : Int) + 1]) := hide (int_new _ _ _ (by show _ = (wr.heap.push _).size; simp))
        generalize hdl : downF 0 (S.ds.take k) = dl at *
        go_wp2_with (at_builtin; refine intE.wpB (B := W0.heap.size) HX.out.size (by rfl) _ _ rfl _ _ rfl rfl dl [(k : Int) + 1] HX.out.one HS.out Hle.out ?_; intro v4 W4 ho hg hs; obtain ⟨a4, p4, hf4⟩ := ho.rd.form; obtain ⟨n4, hn4⟩ : ∃ n4, (dl ++ [(k : Int) + 1]).length = n4 := ⟨_, rfl⟩; rw [hn4] at hf4; subst hf4; have HI4 := hide (HX.out.grow ho hg hs); have Hn4 := hide hn4; clear ho hg hs hn4)
        go_roundw
        case rel => exact ⟨k + 1, a4, n4, p4, by go_num, rfl, by omega, hide (by rw [Htk.out]; exact Hn4.out), hide (by rw [Htk.out]; exact HI4.out)⟩
        case measure => simp [intOf]; omega
    · obtain rfl : k = m := by omega
      have j1 : ¬ (k : Int) < (k : Int) := by omega
      have e1 : dd = downF 0 (S.ds.take k) := by rw [dn.out, List.take_of_length_le (by rw [L1.out]; exact Nat.le_refl _)]
      subst e1
      go_wp2_with fail
      go_ret
      exact ⟨a, q, c, rfl, HL.out, HR.out.one, HR.out.bel⟩
end
theorem down_len (S : Mr) : S.down.length ≤ S.ds.length := downF_len 0 S.ds
theorem down_mem {S : Mr} {d : Int} (hd : S.isD d = true) : d ∈ S.down ↔ (S.dev d).dn = true := by
  rw [down_filter, List.mem_filter]
  have h := Mr.isD_iff.1 hd
  constructor
  · intro h; exact h.2
  · intro h2
    refine ⟨List.mem_map.2 ⟨(d - 1).toNat, List.mem_range.2 (by omega), by omega⟩, h2⟩
section
variable {w : World} {B g n m : Nat} {E : Ev} {P : Kp} {c : Ct}
set_option maxRecDepth 100000
theorem kwhere_any (h : (It.ctl B g E n m P c).P w) (t : Int) : Calls Tryz.prog 26 #[.pointer (some ⟨g, 0, none⟩), .int .i64 t] w fun e w' => e = .returned (.int .i64 (P.S.whr t)) ∧ w' = w := by
  obtain ⟨c0, c1, c2, c3, c4, c5, c37, c38⟩ := kt_c h
  have K1 := hide (where_m (kt_m h) t)
  clear h
  go_enter Tryz.func26, Tryz.ntmps26
  go_wp2_with (first | (go_at_call 76; refine K1.out.mono ?_; rintro e w1 ⟨rfl, rfl⟩))
  go_ret
  exact ⟨rfl, rfl⟩
theorem kstate_any (h : (It.ctl B g E n m P c).P w) {x : Int} (hx : I64 x) : Calls Tryz.prog 33 #[.pointer (some ⟨g, 0, none⟩), .int .i64 x] w fun e w' => e = .returned (.int .i64 (P.K.sta x)) ∧ w' = w := by
  obtain ⟨c0, c1, c2, c3, c4, c5, c37, c38⟩ := kt_c h
  have K1 := hide (state_any (kt_b h) hx)
  clear h
  go_enter Tryz.func33, Tryz.ntmps33
  go_wp2_with (first | (go_at_call 79; refine K1.out.mono ?_; rintro e w1 ⟨rfl, rfl⟩))
  go_ret
  exact ⟨rfl, rfl⟩
theorem kreq_any (h : (It.ctl B g E n m P c).P w) : Calls Tryz.prog 40 #[.pointer (some ⟨g, 0, none⟩)] w fun e w' => ∃ a' c', e = .returned (.slice a' (ops P.K.all).length c') ∧ rqE.Own w' w.heap.size (.slice a' (ops P.K.all).length c') (ops P.K.all) ∧ Below w.heap.size w w' := by
  obtain ⟨c0, c1, c2, c3, c4, c5, c37, c38⟩ := kt_c h
  have K1 := hide (bopen_any (kt_b h))
  clear h
  obtain ⟨nn, hnn⟩ : ∃ nn, (ops P.K.all).length = nn := ⟨_, rfl⟩
  rw [hnn] at K1 ⊢
  clear hnn
  go_enter Tryz.func40, Tryz.ntmps40
  go_wp2_with (first | (go_at_call 99; refine K1.out.mono ?_; rintro e w1 ⟨a1, p1, rfl, q2, q3⟩))
  go_ret
  exact ⟨a1, p1, rfl, q2, q3⟩
end
end Go.Proofs.YtocmngpoemfpkaaGreatDoor

namespace Go.Proofs.YtocmngpoemfpkaaGreatDoor
open Go.RowKit
set_option linter.unusedVariables false
section
variable {w0 w : World} {l : List It} {g n m : Nat} {E : Ev} {P : Kp} {c : Ct}
theorem Its.kbook (h : Its w0 (.ctl w0.heap.size g E n m P c :: l) w) : Its w0 (.book w0.heap.size P.gb P.Hk P.K :: ((kparts w0.heap.size g E n m P c ++ l).eraseIdx 7)) w := h.kopen.1.pick 7 rfl
theorem Its.kbookB {K : Bk} {H : Hb} (hf : KF E n m P c) (h : Its w0 (.book w0.heap.size P.gb H K :: ((kparts w0.heap.size g E n m P c ++ l).eraseIdx 7)) w) : Its w0 (.ctl w0.heap.size g E n m { P with Hk := H, K := K } c :: l) w :=
  Its.kshut (Its.back 7 (by simp [kparts]) h) ⟨hf.gd, hf.hn, hf.hm, hf.hs, hf.gq, hf.pa, hf.tk, hf.jo, hf.jd⟩
theorem Its.kmir (h : Its w0 (.ctl w0.heap.size g E n m P c :: l) w) : Its w0 (.mir w0.heap.size P.gm P.Hm n m E.es P.S :: ((kparts w0.heap.size g E n m P c ++ l).eraseIdx 6)) w := h.kopen.1.pick 6 rfl
theorem Its.kmirB {S : Mr} (hf : KF E n m P c) (h : Its w0 (.mir w0.heap.size P.gm P.Hm n m E.es S :: ((kparts w0.heap.size g E n m P c ++ l).eraseIdx 6)) w) : Its w0 (.ctl w0.heap.size g E n m { P with S := S } c :: l) w :=
  Its.kshut (Its.back 6 (by simp [kparts]) h) ⟨hf.gd, hf.hn, hf.hm, hf.hs, hf.gq, hf.pa, hf.tk, hf.jo, hf.jd⟩
theorem Its.ktape (h : Its w0 (.ctl w0.heap.size g E n m P c :: l) w) : Its w0 (.tape w0.heap.size P.gt P.Ht c.T :: ((kparts w0.heap.size g E n m P c ++ l).eraseIdx 5)) w := h.kopen.1.pick 5 rfl
theorem Its.ktapeB {T : Tp} {H : Bool → Value} (hf : KF E n m P c) (h : Its w0 (.tape w0.heap.size P.gt H T :: ((kparts w0.heap.size g E n m P c ++ l).eraseIdx 5)) w) : Its w0 (.ctl w0.heap.size g E n m { P with Ht := H } ⟨c.S, c.K, T, c.J, c.tk, c.dead⟩ :: l) w :=
  Its.kshut (Its.back 5 (by simp [kparts]) h) ⟨hf.gd, hf.hn, hf.hm, hf.hs, hf.gq, hf.pa, hf.tk, hf.jo, hf.jd⟩
def DoP (w0 : World) (l : List It) (g : Nat) (E : Ev) (n m : Nat) (P : Kp) (c : Ct) (x : Nt) (e : Ending) (w' : World) : Prop :=
  e = .returned (.tuple #[.bool (ndY P.K x), .int .i64 (ndC P.S P.K x)]) ∧ ∃ H, Its w0 (.ctl w0.heap.size g E n m { P with Hk := H, S := ndS P.S x, K := ndK P.K x } c :: l) w'
set_option maxRecDepth 100000 in
set_option maxHeartbeats 4000000 in
theorem kdoS (h : Its w0 (.ctl w0.heap.size g E n m P c :: l) w) (x : Nt) (hx : I64 x.a) (hb : P.K.all.length ≤ 9000 ∧ P.K.done.length ≤ 9000) : Calls Tryz.prog 116 #[.pointer (some ⟨g, 0, none⟩), .agg #[.int .i64 x.kind, .int .i64 x.a, .int .i64 x.b, .int .i64 x.c]] w (DoP w0 l g E n m P c x) := by
  obtain ⟨l', hl'⟩ : ∃ l', It.box w.heap.size #[.int .i64 x.kind, .int .i64 x.a, .int .i64 x.b, .int .i64 x.c] 69 :: l = l' := ⟨_, rfl⟩
  obtain ⟨w1, hw1⟩ : ∃ w1, w.alloc (.cells #[.int .i64 x.kind, .int .i64 x.a, .int .i64 x.b, .int .i64 x.c] 69) = w1 := ⟨_, rfl⟩
  have h1 : Its w0 (.ctl w0.heap.size g E n m P c :: l') w1 := by
    rw [← hw1, ← hl']
    exact (h.new (x := .box w.heap.size _ 69) (heap_new w _) (fun k hk => by cases hk; exact Nat.le_refl _) (below_new w _)).swap
  have hf := hide (kt_f h.one)
  have XB : Hid (∀ W, Its w0 (.ctl w0.heap.size g E n m P c :: l') W → (W.cell? ⟨w.heap.size, 0, none⟩ = some (.int .i64 x.kind) ∧ W.cell? ⟨w.heap.size, 1, none⟩ = some (.int .i64 x.a) ∧ W.cell? ⟨w.heap.size, 2, none⟩ = some (.int .i64 x.b) ∧ W.cell? ⟨w.heap.size, 3, none⟩ = some (.int .i64 x.c)) ∧ W.cell? ⟨g, 3, none⟩ = some (.pointer (some ⟨P.gt, 0, none⟩)) ∧ W.cell? ⟨g, 4, none⟩ = some (.pointer (some ⟨P.gm, 0, none⟩)) ∧ W.cell? ⟨g, 5, none⟩ = some (.pointer (some ⟨P.gb, 0, none⟩))) := hide (fun W hW => by
    subst hl'
    obtain ⟨c0, c1, c2, c3, c4, c5, c37, c38⟩ := kt_c hW.one
    have hb := hW.two
    exact ⟨⟨(cells_at hb 0).1, (cells_at hb 1).1, (cells_at hb 2).1, (cells_at hb 3).1⟩, c3, c4, c5⟩)
  have KA : Hid (∀ W, Its w0 (.ctl w0.heap.size g E n m P c :: l') W → Calls Tryz.prog 80 #[.pointer (some ⟨P.gb, 0, none⟩), .agg #[.int .i64 x.a, .int .i64 x.b, .int .i64 x.c]] W fun q w' => q = .returned (.tuple #[.bool (P.K.adY ⟨x.a, x.b, x.c⟩), .int .i64 (P.K.adC ⟨x.a, x.b, x.c⟩)]) ∧ ∃ P', P' = { P with Hk := P'.Hk, K := P.K.ad ⟨x.a, x.b, x.c⟩ } ∧ Its w0 (.ctl w0.heap.size g E n m P' c :: l') w') := hide (fun W hW => by
    refine (addS ⟨x.a, x.b, x.c⟩ hW.kbook hx (by omega) ⟨rfl, rfl⟩ rfl).mono ?_
    rintro q w' ⟨rfl, H', hq⟩
    exact ⟨rfl, { P with Hk := H', K := P.K.ad ⟨x.a, x.b, x.c⟩ }, rfl, Its.kbookB hf.out hq⟩)
  have KC : Hid (∀ W, Its w0 (.ctl w0.heap.size g E n m P c :: l') W → Calls Tryz.prog 87 #[.pointer (some ⟨P.gb, 0, none⟩), .int .i64 x.a] W fun q w' => q = .returned (.tuple #[.bool (P.K.caY x.a), .int .i64 (P.K.caC x.a)]) ∧ ∃ P', P' = { P with Hk := P'.Hk, K := P.K.ca x.a } ∧ Its w0 (.ctl w0.heap.size g E n m P' c :: l') w') := hide (fun W hW => by
    refine (cancelS hW.kbook hx ⟨rfl, rfl⟩ rfl).mono ?_
    rintro q w' ⟨rfl, H', hq⟩
    exact ⟨rfl, { P with Hk := H', K := P.K.ca x.a }, rfl, Its.kbookB hf.out hq⟩)
  have KE : Hid (∀ W, Its w0 (.ctl w0.heap.size g E n m P c :: l') W → Calls Tryz.prog 171 #[.pointer (some ⟨P.gb, 0, none⟩), .int .i64 x.a] W fun q w' => q = .returned (.int .i64 (P.K.seC x.a)) ∧ ∃ P', P' = { P with Hk := P'.Hk, K := P.K.se x.a } ∧ Its w0 (.ctl w0.heap.size g E n m P' c :: l') w') := hide (fun W hW => by
    refine (serveS hW.kbook hx (by omega) rfl rfl).mono ?_
    rintro q w' ⟨rfl, H', hq⟩
    exact ⟨rfl, { P with Hk := H', K := P.K.se x.a }, rfl, Its.kbookB hf.out hq⟩)
  have KM : Hid (∀ W, Its w0 (.ctl w0.heap.size g E n m P c :: l') W → Calls Tryz.prog 172 #[.pointer (some ⟨P.gm, 0, none⟩), .agg #[.int .i64 x.kind, .int .i64 x.a, .int .i64 x.b, .int .i64 x.c]] W fun q w' => q = .returned (.int .i64 (P.S.app x).1) ∧ ∃ P', P' = { P with S := (P.S.app x).2 } ∧ Its w0 (.ctl w0.heap.size g E n m P' c :: l') w') := hide (fun W hW => by
    refine (applyS hW.kmir x).mono ?_
    rintro q w' ⟨rfl, hq⟩
    exact ⟨rfl, { P with S := (P.S.app x).2 }, rfl, Its.kmirB hf.out hq⟩)
  have HI := hide h1
  have HD : Hid (∀ q, Its w0 (.ctl w0.heap.size g E n m P c :: l') (w1.drewN q)) := hide (fun q => h1.drew q)
  have SX : Hid (∀ W P', P'.gt = P.gt → P'.gm = P.gm → P'.gb = P.gb → Its w0 (.ctl w0.heap.size g E n m P' c :: l') W → (W.cell? ⟨w.heap.size, 0, none⟩ = some (.int .i64 x.kind) ∧ W.cell? ⟨w.heap.size, 1, none⟩ = some (.int .i64 x.a) ∧ W.cell? ⟨w.heap.size, 2, none⟩ = some (.int .i64 x.b) ∧ W.cell? ⟨w.heap.size, 3, none⟩ = some (.int .i64 x.c)) ∧ W.cell? ⟨g, 4, none⟩ = some (.pointer (some ⟨P.gm, 0, none⟩)) ∧ W.cell? ⟨g, 5, none⟩ = some (.pointer (some ⟨P.gb, 0, none⟩))) := hide (fun W P' e1 e2 e3 hW => by
    subst hl'
    obtain ⟨c0, c1, c2, c3, c4, c5, c37, c38⟩ := kt_c hW.one
    have hb := hW.two
    rw [e2] at c4; rw [e3] at c5
    exact ⟨⟨(cells_at hb 0).1, (cells_at hb 1).1, (cells_at hb 2).1, (cells_at hb 3).1⟩, c4, c5⟩)
  have drop : Hid (∀ W P', Its w0 (.ctl w0.heap.size g E n m P' c :: l') W → Its w0 (.ctl w0.heap.size g E n m P' c :: l) W) := hide (fun W P' hW => by subst hl'; exact hW.swap.tail)
  have fin2 : Hid (∀ W P', x.kind = 2 → P' = { P with Hk := P'.Hk, K := P.K.ad ⟨x.a, x.b, x.c⟩ } → Its w0 (.ctl w0.heap.size g E n m P' c :: l') W → DoP w0 l g E n m P c x (.returned (.tuple #[.bool (P.K.adY ⟨x.a, x.b, x.c⟩), .int .i64 (P.K.adC ⟨x.a, x.b, x.c⟩)])) W) := hide (fun W P' hk e q => by
    refine ⟨by simp [ndY, ndC, hk], P'.Hk, ?_⟩
    have q' := drop.out W P' q
    rw [e] at q'
    simpa only [ndS, ndK, if_pos hk] using q')
  have fin3 : Hid (∀ W P', x.kind = 3 → P' = { P with Hk := P'.Hk, K := P.K.ca x.a } → Its w0 (.ctl w0.heap.size g E n m P' c :: l') W → DoP w0 l g E n m P c x (.returned (.tuple #[.bool (P.K.caY x.a), .int .i64 (P.K.caC x.a)])) W) := hide (fun W P' hk e q => by
    have h2 : ¬ x.kind = 2 := by omega
    refine ⟨by simp [ndY, ndC, hk], P'.Hk, ?_⟩
    have q' := drop.out W P' q
    rw [e] at q'
    simpa only [ndS, ndK, if_neg h2, if_pos hk] using q')
  have fin6 : Hid (∀ W P', x.kind = 6 → P' = { P with Hk := P'.Hk, K := P.K.se x.a } → Its w0 (.ctl w0.heap.size g E n m P' c :: l') W → DoP w0 l g E n m P c x (.returned (.tuple #[.bool true, .int .i64 (P.K.seC x.a)])) W) := hide (fun W P' hk e q => by
    have h2 : ¬ x.kind = 2 := by omega
    have h3 : ¬ x.kind = 3 := by omega
    refine ⟨by simp [ndY, ndC, hk], P'.Hk, ?_⟩
    have q' := drop.out W P' q
    rw [e] at q'
    simpa only [ndS, ndK, if_neg h2, if_neg h3, if_pos hk] using q')
  have fin0 : Hid (∀ W P', ¬ x.kind = 2 → ¬ x.kind = 3 → ¬ x.kind = 6 → P' = { P with S := (P.S.app x).2 } → Its w0 (.ctl w0.heap.size g E n m P' c :: l') W → DoP w0 l g E n m P c x (.returned (.tuple #[.bool true, .int .i64 (P.S.app x).1])) W) := hide (fun W P' h2 h3 h6 e q => by
    refine ⟨by simp [ndY, ndC, h2, h3, h6], P.Hk, ?_⟩
    have q' := drop.out W P' q
    rw [e] at q'
    simpa only [ndS, ndK, if_neg h2, if_neg h3, if_neg h6] using q')
  obtain ⟨kd, xa, xb, xc⟩ := x
  dsimp only at *
  clear XB h h1 hl'
  subst hw1
  generalize hR : DoP w0 l g E n m P c ⟨kd, xa, xb, xc⟩ = R at *
  clear hR drop
  have pe : ∀ P' : Kp, (∃ H S K, P' = { P with Hk := H, S := S, K := K }) → P'.gt = P.gt ∧ P'.gm = P.gm ∧ P'.gb = P.gb := fun P' ⟨H, S, K, e⟩ => by subst e; exact ⟨rfl, rfl, rfl⟩
  have PE := hide pe
  clear pe
  obtain ⟨⟨y0, y1, y2, y3⟩, c4, c5⟩ := SX.out _ P rfl rfl rfl HI.out
  by_cases k2 : kd = 2
  · subst k2
    clear KC KE KM fin3 fin6 fin0
    replace fin2 : Hid _ := hide (fin2.out · · rfl)
    go_enter Tryz.func116, Tryz.ntmps116
    go_upto_region 3 with fail
    go_region_held3 (fun W => W.cell? ⟨g, 5, none⟩ = some (.pointer (some ⟨P.gb, 0, none⟩)) ∧ W.cell? ⟨w.heap.size, 0, none⟩ = some (.int .i64 2) ∧ W.cell? ⟨w.heap.size, 1, none⟩ = some (.int .i64 xa) ∧ W.cell? ⟨w.heap.size, 2, none⟩ = some (.int .i64 xb) ∧ W.cell? ⟨w.heap.size, 3, none⟩ = some (.int .i64 xc)) (first | exact ⟨c5, y0, y1, y2, y3⟩ | exact s2)
      (first
        | (go_at_call 80; refine (KA.out _ ?_).mono ?_; first | exact HI.out | exact HD.out _; rintro e w2 ⟨rfl, P', hP', q⟩; have HQ := hide q; have HP := hide hP'; clear q hP'; have s2 := (fun (z : _ ∧ _ ∧ _) => (⟨z.2.2, z.1.1, z.1.2.1, z.1.2.2.1, z.1.2.2.2⟩ : _ ∧ _ ∧ _ ∧ _ ∧ _)) (SX.out w2 P' (PE.out P' ⟨_, _, _, HP.out⟩).1 (PE.out P' ⟨_, _, _, HP.out⟩).2.1 (PE.out P' ⟨_, _, _, HP.out⟩).2.2 HQ.out))
        | fail)
    go_wp2_with fail
    exact fin2.out _ _ HP.out HQ.out
  have k2' : (kd == 2) = false := beq_eq_false_iff_ne.2 k2
  by_cases k3 : kd = 3
  · subst k3
    clear KA KE KM fin2 fin6 fin0
    replace fin3 : Hid _ := hide (fin3.out · · rfl)
    go_enter Tryz.func116, Tryz.ntmps116
    go_upto_region 5 with fail
    go_region_held3 (fun W => W.cell? ⟨g, 5, none⟩ = some (.pointer (some ⟨P.gb, 0, none⟩)) ∧ W.cell? ⟨w.heap.size, 0, none⟩ = some (.int .i64 3) ∧ W.cell? ⟨w.heap.size, 1, none⟩ = some (.int .i64 xa) ∧ W.cell? ⟨w.heap.size, 2, none⟩ = some (.int .i64 xb) ∧ W.cell? ⟨w.heap.size, 3, none⟩ = some (.int .i64 xc)) (first | exact ⟨c5, y0, y1, y2, y3⟩ | exact s2)
      (first
        | (go_at_call 87; refine (KC.out _ ?_).mono ?_; first | exact HI.out | exact HD.out _; rintro e w2 ⟨rfl, P', hP', q⟩; have HQ := hide q; have HP := hide hP'; clear q hP'; have s2 := (fun (z : _ ∧ _ ∧ _) => (⟨z.2.2, z.1.1, z.1.2.1, z.1.2.2.1, z.1.2.2.2⟩ : _ ∧ _ ∧ _ ∧ _ ∧ _)) (SX.out w2 P' (PE.out P' ⟨_, _, _, HP.out⟩).1 (PE.out P' ⟨_, _, _, HP.out⟩).2.1 (PE.out P' ⟨_, _, _, HP.out⟩).2.2 HQ.out))
        | fail)
    go_wp2_with fail
    exact fin3.out _ _ HP.out HQ.out
  have k3' : (kd == 3) = false := beq_eq_false_iff_ne.2 k3
  by_cases k6 : kd = 6
  · subst k6
    clear KA KC KM fin2 fin3 fin0
    replace fin6 : Hid _ := hide (fin6.out · · rfl)
    go_enter Tryz.func116, Tryz.ntmps116
    go_upto_region 7 with fail
    go_region_held3 (fun W => W.cell? ⟨g, 5, none⟩ = some (.pointer (some ⟨P.gb, 0, none⟩)) ∧ W.cell? ⟨w.heap.size, 0, none⟩ = some (.int .i64 6) ∧ W.cell? ⟨w.heap.size, 1, none⟩ = some (.int .i64 xa) ∧ W.cell? ⟨w.heap.size, 2, none⟩ = some (.int .i64 xb) ∧ W.cell? ⟨w.heap.size, 3, none⟩ = some (.int .i64 xc)) (first | exact ⟨c5, y0, y1, y2, y3⟩ | exact s2)
      (first
        | (go_at_call 171; refine (KE.out _ ?_).mono ?_; first | exact HI.out | exact HD.out _; rintro e w2 ⟨rfl, P', hP', q⟩; have HQ := hide q; have HP := hide hP'; clear q hP'; have s2 := (fun (z : _ ∧ _ ∧ _) => (⟨z.2.2, z.1.1, z.1.2.1, z.1.2.2.1, z.1.2.2.2⟩ : _ ∧ _ ∧ _ ∧ _ ∧ _)) (SX.out w2 P' (PE.out P' ⟨_, _, _, HP.out⟩).1 (PE.out P' ⟨_, _, _, HP.out⟩).2.1 (PE.out P' ⟨_, _, _, HP.out⟩).2.2 HQ.out))
        | fail)
    go_wp2_with fail
    exact fin6.out _ _ HP.out HQ.out
  have k6' : (kd == 6) = false := beq_eq_false_iff_ne.2 k6
  clear KA KC KE fin2 fin3 fin6
  replace fin0 : Hid _ := hide (fin0.out · · k2 k3 k6)
  go_enter Tryz.func116, Tryz.ntmps116
  go_upto_region 8 with fail
  go_region_held3 (fun W => W.cell? ⟨g, 4, none⟩ = some (.pointer (some ⟨P.gm, 0, none⟩)) ∧ W.cell? ⟨w.heap.size, 0, none⟩ = some (.int .i64 kd) ∧ W.cell? ⟨w.heap.size, 1, none⟩ = some (.int .i64 xa) ∧ W.cell? ⟨w.heap.size, 2, none⟩ = some (.int .i64 xb) ∧ W.cell? ⟨w.heap.size, 3, none⟩ = some (.int .i64 xc)) (first | exact ⟨c4, y0, y1, y2, y3⟩ | exact s2)
    (first
      | (go_at_call 172; refine (KM.out _ ?_).mono ?_; first | exact HI.out | exact HD.out _; rintro e w2 ⟨rfl, P', hP', q⟩; have HQ := hide q; have HP := hide hP'; clear q hP'; have s2 := (fun (z : _ ∧ _ ∧ _) => (⟨z.2.1, z.1.1, z.1.2.1, z.1.2.2.1, z.1.2.2.2⟩ : _ ∧ _ ∧ _ ∧ _ ∧ _)) (SX.out w2 P' (PE.out P' ⟨_, _, _, HP.out⟩).1 (PE.out P' ⟨_, _, _, HP.out⟩).2.1 (PE.out P' ⟨_, _, _, HP.out⟩).2.2 HQ.out))
      | fail)
  go_wp2_with fail
  exact fin0.out _ _ HP.out HQ.out
end
end Go.Proofs.YtocmngpoemfpkaaGreatDoor

namespace Go.Proofs.YtocmngpoemfpkaaGreatDoor
open Go.RowKit
set_option linter.unusedVariables false
theorem Its.put1 {w0 w : World} {b : Nat} {C : Array Value} {t : TypeId} {l : List It} (h : Its w0 (.box b C t :: l) w) (i : Nat) (x : Value) : Its w0 (.box b (C.setIfInBounds i x) t :: l) (w.setCell ⟨b, i, none⟩ x) :=
  h.chg (x' := .box b (C.setIfInBounds i x) t) (heap_put h.one x) (fun k hk => .inl hk) (Frm.set w b i x)
theorem Its.boxN {w0 w : World} {l : List It} (h : Its w0 l w) (C : Array Value) (t : TypeId) {n : Nat} (hn : w.heap.size = n) : Its w0 (.box n C t :: l) (w.alloc (.cells C t)) := by
  subst hn
  exact h.box1 C t
end Go.Proofs.YtocmngpoemfpkaaGreatDoor

namespace Go.Proofs.YtocmngpoemfpkaaGreatDoor
set_option linter.unusedVariables false
def pfx (m : Nt) (i : Nat) : Nat := ((m.vs.take i).flatMap num).length
def ys (m : Nt) (i : Nat) : List Int := (m.vs.take i).map (fun v : Nat => (v : Int)) ++ List.replicate (3 - i) 0
def Out (l : List Int) (i at' : Nat) (xs : List Int) : Prop := ∀ m, Fst l m → at' = 2 + pfx m i ∧ xs = ys m i
end Go.Proofs.YtocmngpoemfpkaaGreatDoor

namespace Go.Proofs.YtocmngpoemfpkaaGreatDoor
open Go.ChangeShapes Go.WideShapes Go.ChangeAt Go.RowKit
set_option linter.unusedVariables false
theorem Its.cells4 {w0 w : World} {b : Nat} {p0 p1 p2 p3 : Value} {t : TypeId} {l : List It} (h : Its w0 (.box b #[p0, p1, p2, p3] t :: l) w) : w.cell? ⟨b, 0, none⟩ = some p0 ∧ w.cell? ⟨b, 1, none⟩ = some p1 ∧ w.cell? ⟨b, 2, none⟩ = some p2 ∧ w.cell? ⟨b, 3, none⟩ = some p3 ∧ (∀ i, w.frozen? ⟨b, i, none⟩ = false) :=
  ⟨(cells_at h.one 0).1, (cells_at h.one 1).1, (cells_at h.one 2).1, (cells_at h.one 3).1, fun i => (cells_at h.one i).2⟩
def bud (T : Tp) : Int := if T.ar = true then (T.bd : Int) else -1
def Tp.oth (T : Tp) : List Int := T.A (!T.cn)
def dv (T : Tp) : Value := .agg #[.string (str T.now), .string (str T.oth), .int .i64 (bud T), .bool T.dd]
end Go.Proofs.YtocmngpoemfpkaaGreatDoor

namespace Go.Proofs.YtocmngpoemfpkaaGreatDoor
open Go.RowKit
set_option linter.unusedVariables false
theorem rpl_app (l : List Nt) (x : Nt) : ∀ (S : Mr) (K : Bk), rpl (l ++ [x]) S K = match rpl l S K with
    | some p => if ndC p.1 p.2 x = 0 ∧ ndY p.2 x = true then some (ndS p.1 x, ndK p.2 x) else none
    | none => none := by
  induction l with
  | nil => intro S K; simp only [List.nil_append, rpl]
  | cons y l ih =>
    intro S K
    simp only [List.cons_append, rpl]
    by_cases h : ndC S K y = 0 ∧ ndY K y = true
    · rw [if_pos h, if_pos h, ih]
    · rw [if_neg h, if_neg h]
theorem rpl_append (l k : List Nt) : ∀ (S : Mr) (K : Bk), rpl (l ++ k) S K = match rpl l S K with
    | some p => rpl k p.1 p.2
    | none => none := by
  induction l with
  | nil => intro S K; rfl
  | cons y l ih =>
    intro S K
    simp only [List.cons_append, rpl]
    by_cases h : ndC S K y = 0 ∧ ndY K y = true
    · rw [if_pos h, if_pos h, ih]
    · rw [if_neg h, if_neg h]
theorem rpl_none {l k : List Nt} {S : Mr} {K : Bk} (h : rpl l S K = none) : rpl (l ++ k) S K = none := by rw [rpl_append, h]
theorem ndK_size (K : Bk) (x : Nt) : (ndK K x).all.length ≤ K.all.length + 1 ∧ (ndK K x).done.length ≤ K.done.length + 1 := by
  unfold ndK
  split
  · obtain ⟨h1, h2⟩ := Bk.size_ad K ⟨x.a, x.b, x.c⟩; rw [h2]; omega
  · split
    · obtain ⟨h1, h2⟩ := Bk.size_ca K x.a; rw [h2]; omega
    · split
      · have := Bk.size_se K x.a; omega
      · omega
theorem rpl_size (l : List Nt) : ∀ (S : Mr) (K : Bk) (p : Mr × Bk), rpl l S K = some p → p.2.all.length ≤ K.all.length + l.length ∧ p.2.done.length ≤ K.done.length + l.length := by
  induction l with
  | nil => intro S K p h; cases h; simp
  | cons y l ih =>
    intro S K p h
    simp only [rpl] at h
    split at h
    · have := ih _ _ _ h
      have := ndK_size K y
      simp only [List.length_cons]; omega
    · cases h
theorem nt_i64 {x : Nt} (h : x.ok = true) : I64 x.a := by
  have := (ok_iff x).1 h
  have h2 := this.2.1 0 x.a rfl
  unfold I64; omega
section
variable {w0 w : World} {l : List It} {g n m : Nat} {E : Ev} {P : Kp} {c : Ct}
theorem Its.knewM {gm : Nat} {Hm : Nat × Nat} {S : Mr} (h : Its w0 (.mir w0.heap.size gm Hm n m E.es S :: .ctl w0.heap.size g E n m P c :: l) w) :
    Its w0 (.ctl w0.heap.size g E n m { P with gm := gm, Hm := Hm, S := S } c :: l) (w.setCell ⟨g, 4, none⟩ (.pointer (some ⟨gm, 0, none⟩))) := by
  have hf := kt_f h.two
  have h1 := h.swap.kopen.1
  have h2 := h1.pick 0 rfl
  have h3 := h2.put1 4 (.pointer (some ⟨gm, 0, none⟩))
  have h4 := Its.back (l := kparts w0.heap.size g E n m P c ++ .mir w0.heap.size gm Hm n m E.es S :: l) 0 (by simp [kparts]) h3
  have h5 := h4.pick 6 rfl
  have h6 := h5.tail
  have h7 := h6.pick 7 rfl
  have h8 := (Its.pick (l := .mir w0.heap.size gm Hm n m E.es S :: _) h7 0 rfl)
  refine Its.kshut (P := { P with gm := gm, Hm := Hm, S := S }) ?_ ⟨hf.gd, hf.hn, hf.hm, hf.hs, hf.gq, hf.pa, hf.tk, hf.jo, hf.jd⟩
  refine h8.perm ?_
  show List.Perm (_ :: _ :: _ :: _ :: _ :: _ :: _ :: _ :: l) (_ :: _ :: _ :: _ :: _ :: _ :: _ :: _ :: l)
  exact (List.perm_middle (l₁ := [_, _, _, _, _, _])).symm
theorem Its.knewB {gb : Nat} {Hk : Hb} {K : Bk} (h : Its w0 (.book w0.heap.size gb Hk K :: .ctl w0.heap.size g E n m P c :: l) w) :
    Its w0 (.ctl w0.heap.size g E n m { P with gb := gb, Hk := Hk, K := K } c :: l) (w.setCell ⟨g, 5, none⟩ (.pointer (some ⟨gb, 0, none⟩))) := by
  have hf := kt_f h.two
  have h1 := h.swap.kopen.1
  have h2 := h1.pick 0 rfl
  have h3 := h2.put1 5 (.pointer (some ⟨gb, 0, none⟩))
  have h4 := Its.back (l := kparts w0.heap.size g E n m P c ++ .book w0.heap.size gb Hk K :: l) 0 (by simp [kparts]) h3
  have h5 := h4.pick 7 rfl
  have h6 := h5.tail
  have h7 := h6.pick 7 rfl
  refine Its.kshut (P := { P with gb := gb, Hk := Hk, K := K }) ?_ ⟨hf.gd, hf.hn, hf.hm, hf.hs, hf.gq, hf.pa, hf.tk, hf.jo, hf.jd⟩
  refine h7.perm ?_
  show List.Perm (_ :: _ :: _ :: _ :: _ :: _ :: _ :: _ :: l) (_ :: _ :: _ :: _ :: _ :: _ :: _ :: _ :: l)
  exact (List.perm_middle (l₁ := [_, _, _, _, _, _, _])).symm
def RecP (w0 : World) (l : List It) (g : Nat) (E : Ev) (n m : Nat) (c : Ct) (got : List Nt) (e : Ending) (w' : World) : Prop := ∃ P, Its w0 (.ctl w0.heap.size g E n m P c :: l) w' ∧
  ((e = .returned (.int .i64 0) ∧ rpl got (Mr.nw n E.es) Bk.new = some (P.S, P.K)) ∨ (e = .returned (.int .i64 180) ∧ rpl got (Mr.nw n E.es) Bk.new = none))
set_option maxRecDepth 100000 in
set_option maxHeartbeats 4000000 in
theorem krecall (h : Its w0 (.ctl w0.heap.size g E n m P c :: l) w) {got : List Nt} {r : List Int} (hr : NRds c.T.now got r) (hN : got.length ≤ 8000) : Calls Tryz.prog 46 #[.pointer (some ⟨g, 0, none⟩)] w (RecP w0 l g E n m c got) := by
  obtain ⟨c0, c1, c2, c3, c4, c5, c37, c38⟩ := kt_c h.one
  have z4 := kt_z h.one 4
  have hf := kt_f h.one
  have L := kt_l h.one
  have KN := hide (new_ok L hf.gd)
  have HI := hide h
  have KB : Hid (∀ W P', Its w0 (.ctl w0.heap.size g E n m P' c :: l) W → Calls Tryz.prog 115 #[] W fun e w' => ∃ g' H, e = .returned (.pointer (some ⟨g', 0, none⟩)) ∧ Its w0 (.book w0.heap.size g' H Bk.new :: .ctl w0.heap.size g E n m P' c :: l) w') := hide (fun W P' hW => new_any w0 W _ hW)
  have KR : Hid (∀ W P', Its w0 (.ctl w0.heap.size g E n m P' c :: l) W → Calls Tryz.prog 65 #[.pointer (some ⟨P'.gt, 0, none⟩)] W fun e w' => ∃ v, e = .returned v ∧ Its w0 (.row ntE w0.heap.size v got :: .ctl w0.heap.size g E n m P' c :: l) w') := hide (fun W P' hW => by
    refine (readS hW.ktape hr).mono ?_
    rintro e w' ⟨v, rfl, q⟩
    refine ⟨v, rfl, ?_⟩
    have q2 := (Its.back (l := kparts w0.heap.size g E n m P' c ++ l) 5 (by simp [kparts]) q.tail)
    have q3 : Its w0 (.ctl w0.heap.size g E n m P' c :: l) w' := Its.kshut q2 (kt_f hW.one)
    have q4 := Its.back (l := (.row ntE w0.heap.size v got :: (kparts w0.heap.size g E n m P' c ++ l))) 6 (by simp [kparts]) (q.swap)
    exact (Its.kshut (l := .row ntE w0.heap.size v got :: l) (P := P') (c := c) (q4.perm (by
      show List.Perm (_ :: kparts w0.heap.size g E n m P' c ++ l) (kparts w0.heap.size g E n m P' c ++ _ :: l)
      exact (List.perm_middle).symm)) (kt_f hW.one)).swap)
  have KD : Hid (∀ W P' (v : Value) (x : Nt), P'.K.all.length ≤ 9000 ∧ P'.K.done.length ≤ 9000 → I64 x.a → Its w0 (.row ntE w0.heap.size v got :: .ctl w0.heap.size g E n m P' c :: l) W → Calls Tryz.prog 116 #[.pointer (some ⟨g, 0, none⟩), .agg #[.int .i64 x.kind, .int .i64 x.a, .int .i64 x.b, .int .i64 x.c]] W (DoP w0 (.row ntE w0.heap.size v got :: l) g E n m P' c x)) := hide (fun W P' v x hb hx hW => kdoS hW.swap x hx hb)
  have HO : Hid (∀ x ∈ got, x.ok = true) := hide hr.ok
  have i0 : (got.length : Int) ≤ 8000 := by omega
  have HNl := hide hN
  clear h hf L hN
  go_enter Tryz.func46, Tryz.ntmps46
  go_wp2_with (first
    | (go_at_call 114; refine KN.out.mono ?_; rintro e w1 ⟨gm, Hm, rfl, q⟩; have I1 := hide (HI.out.addm q); clear q; obtain ⟨d0, d1, d2, d3, d4, d5, d37, d38⟩ := kt_c I1.out.two; have zz4 := kt_z I1.out.two 4; have I2 := hide I1.out.knewM)
    | (go_at_call 115; refine (KB.out _ _ I2.out).mono ?_; rintro e w2 ⟨gb, Hk, rfl, q⟩; have I3 := hide q; clear q; obtain ⟨d0, d1, d2, d3, d4, d5, d37, d38⟩ := kt_c I3.out.two; have zz5 := kt_z I3.out.two 5; have I4 := hide I3.out.knewB; obtain ⟨f0, f1, f2, f3, f4, f5, f37, f38⟩ := kt_c I4.out.one)
    | (go_at_call 65; refine (KR.out _ _ I4.out).mono ?_; rintro e w3 ⟨v, rfl, q⟩; obtain ⟨av, cv, hv⟩ := q.one.rd.form; have HLn := hide (rfl : got.length = got.length); subst hv; have I5 := hide q; clear q))
  have HT0 : Hid (rpl (got.take 0) (Mr.nw n E.es) Bk.new = some (Mr.nw n E.es, Bk.new)) := hide rfl
  obtain ⟨N, hN⟩ : ∃ N, got.length = N := ⟨_, rfl⟩
  rw [hN] at I5 i0 HNl ⊢
  have HN := hide hN
  clear hN KN KB KR HI I1 I2 I3 I4 HLn c0 c1 c2 c3 c4 c5 c37 c38 z4 d0 d1 d2 d3 d4 d5 d37 d38 zz4 zz5
  go_loopw [28] (fun v28 wr => ∃ (k : Nat) (P' : Kp), v28 = .int .i64 k ∧ k ≤ N ∧ Hid (rpl (got.take k) (Mr.nw n E.es) Bk.new = some (P'.S, P'.K)) ∧ Hid (Its w0 (.row ntE w0.heap.size (.slice av N cv) got :: .ctl w0.heap.size g E n m P' c :: l) wr)) (fun v28 _ => N - (intOf v28).toNat)
  case atStart => exact ⟨0, _, rfl, Nat.zero_le _, HT0, I5⟩
  case round =>
    obtain ⟨k, P', rfl, hk, HT, HR⟩ := hrel
    by_cases hlt : k < N
    · obtain ⟨x, hx⟩ : ∃ x, got[k]? = some x := ⟨_, List.getElem?_eq_getElem (by rw [HN.out]; exact hlt)⟩
      have hxo := nt_i64 (HO.out x (List.mem_of_getElem? hx))
      have hsz := rpl_size _ _ _ _ HT.out
      have hsb : P'.K.all.length ≤ 9000 ∧ P'.K.done.length ≤ 9000 := by
        have h1 := HNl.out
        simp only [List.length_take, Bk.new, List.length_nil] at hsz
        omega
      obtain ⟨b, off, rfl, q0, q1, q2, q3⟩ := nt_at HR.out.one.rd k x hx
      have HZ : Hid (rpl (got.take (k + 1)) (Mr.nw n E.es) Bk.new = if ndC P'.S P'.K x = 0 ∧ ndY P'.K x = true then some (ndS P'.S x, ndK P'.K x) else none) := hide (by
        rw [take_one hx, rpl_app, HT.out])
      have HZn : Hid (rpl (got.take (k + 1)) (Mr.nw n E.es) Bk.new = none → rpl got (Mr.nw n E.es) Bk.new = none) := hide (fun h => by
        rw [← List.take_append_drop (k + 1) got]; exact rpl_none h)
      have KDx := hide (fun W => KD.out W P' (.slice (some ⟨b, off, none⟩) N cv) x hsb hxo)
      have HX := hide (HR.out.boxN #[.int .i64 x.kind, .int .i64 x.a, .int .i64 x.b, .int .i64 x.c] 69 rfl)
      obtain ⟨t0, t1, t2, t3, _⟩ := Its.cells4 HX.out
      have j0 : (0 : Int) ≤ (k : Int) := by omega
      have j1 : (k : Int) < (N : Int) := by omega
      have j2 : wrap64 ((k : Int) + 1) = (k : Int) + 1 := by unfold wrap64; omega
      clear hx hxo hsz hsb
      unfold DoP at KDx
      generalize hz : ndC P'.S P'.K x = z at *
      generalize hy : ndY P'.K x = y at *
      clear hz hy
      obtain ⟨kd, xa, xb, xc⟩ := x
      dsimp only at *
      by_cases hz : z = 0
      · subst hz
        cases y with
        | true =>
          have HT' := hide (by have := HZ.out; rw [if_pos ⟨rfl, rfl⟩] at this; exact this : rpl (got.take (k + 1)) (Mr.nw n E.es) Bk.new = some (ndS P'.S ⟨kd, xa, xb, xc⟩, ndK P'.K ⟨kd, xa, xb, xc⟩))
          clear HZ HZn
          go_wp2_with (go_at_call 116; refine (KDx.out _ HX.out.tail).mono ?_; rintro e w4 ⟨rfl, H', q⟩; have HQ := hide q; clear q)
          go_roundw
          case rel => exact ⟨k + 1, _, by go_num, by omega, HT', hide HQ.out.swap⟩
          case measure => simp [intOf]; omega
        | false =>
          have HF := hide (HZn.out (by have := HZ.out; rw [if_neg (fun h => by cases h.2)] at this; exact this))
          clear HZ HZn
          go_wp2_with (go_at_call 116; refine (KDx.out _ HX.out.tail).mono ?_; rintro e w4 ⟨rfl, H', q⟩; have HQ := hide q; clear q)
          go_ret
          exact ⟨_, HQ.out.swap.tail, .inr ⟨rfl, HF.out⟩⟩
      · have hz' : (z == 0) = false := beq_eq_false_iff_ne.2 hz
        have HF := hide (HZn.out (by have := HZ.out; rw [if_neg (fun h => hz h.1)] at this; exact this))
        clear HZ HZn
        go_wp2_with (go_at_call 116; refine (KDx.out _ HX.out.tail).mono ?_; rintro e w4 ⟨rfl, H', q⟩; have HQ := hide q; clear q)
        go_ret
        exact ⟨_, HQ.out.swap.tail, .inr ⟨rfl, HF.out⟩⟩
    · obtain rfl : k = N := by omega
      have j1 : ¬ (k : Int) < (k : Int) := by omega
      have HF := hide (by have := HT.out; rw [List.take_of_length_le (by rw [HN.out]; exact Nat.le_refl _)] at this; exact this : rpl got (Mr.nw n E.es) Bk.new = some (P'.S, P'.K))
      go_wp2_with fail
      go_ret
      exact ⟨P', HR.out.tail, .inl ⟨rfl, HF.out⟩⟩
end
end Go.Proofs.YtocmngpoemfpkaaGreatDoor

namespace Go.Proofs.YtocmngpoemfpkaaGreatDoor
open Go.RowKit
set_option linter.unusedVariables false
theorem wr_rds {T : Tp} {got : List Nt} {x : Nt} (h : NRds T.now got []) : ∃ got' r', NRds (T.app [] [x]).2.now got' r' ∧ got'.length ≤ got.length + 1 := by
  rcases app_codes T [] [x] with e | ⟨hd, hok, _, hl, e⟩
  · rw [e]; exact ⟨got, [], h, by omega⟩
  · rw [e, put_now]
    have hq := h.eq
    rw [List.append_nil] at hq
    rcases (put_fact T T.cn ([x].flatMap Nt.bts)).2.2 with ⟨_, hA, _⟩ | ⟨_, hA, hlt, _⟩
    · rw [hA]
      exact ⟨got ++ [x], [], rds_app h hok, by simp⟩
    · rw [hA]
      obtain ⟨g2, r2, h2⟩ := rds_ex (T.A T.cn ++ ([x].flatMap Nt.bts).take T.bd)
      refine ⟨g2, r2, h2, ?_⟩
      have ho : ∀ y ∈ got ++ [x], y.ok = true := fun y hy => by
        rcases List.mem_append.1 hy with q | q
        · exact h.ok y q
        · exact List.all_eq_true.1 hok y q
      have he : T.A T.cn ++ ([x].flatMap Nt.bts).take T.bd = ((got ++ [x]).flatMap Nt.bts).take (T.now.length + T.bd) := by
        rw [List.flatMap_append, ← hq, List.take_length_add_append]; rfl
      rw [he] at h2
      have := NRds.cut ho (by rw [List.flatMap_append, ← hq, List.length_append]; omega) h2
      have := this.1
      simp only [List.length_append, List.length_singleton] at this
      exact this
theorem nd_same {S : Mr} {K : Bk} {x : Nt} (h : ndC S K x ≠ 0) : ndS S x = S ∧ ndK K x = K := by
  unfold ndC at h
  unfold ndS ndK
  split
  · rename_i k; rw [if_pos k] at h
    refine ⟨rfl, Bk.ad_no ?_⟩
    unfold Bk.adY; simp [h]
  · rename_i k2; rw [if_neg k2] at h
    split
    · rename_i k3; rw [if_pos k3] at h
      refine ⟨rfl, Bk.ca_no ?_⟩
      unfold Bk.caC at h
      unfold Bk.caY Bk.sta
      split at h
      · rename_i e he
        split at h
        · rename_i h2; simp [h2]
        · exact absurd rfl h
      · simp
    · rename_i k3; rw [if_neg k3] at h
      split
      · rename_i k6; rw [if_pos k6] at h
        exact ⟨rfl, Bk.se_no h⟩
      · rename_i k6; rw [if_neg k6] at h
        refine ⟨?_, rfl⟩
        unfold Mr.app at h ⊢
        split
        · rename_i k; rw [if_pos k] at h
          rcases put_cases S x.a x.b with ⟨_, q⟩ | ⟨q, _⟩
          · exact q
          · exact absurd q h
        · rename_i k; rw [if_neg k] at h
          split
          · rename_i k; rw [if_pos k] at h
            rcases snd_cases S x.a x.b x.c with ⟨_, q⟩ | ⟨q, _⟩
            · exact q
            · exact absurd q h
          · rename_i k; rw [if_neg k] at h
            split
            · rename_i k; rw [if_pos k] at h
              rcases mov_cases S x.a x.b with ⟨_, q⟩ | ⟨q, _⟩
              · exact q
              · exact absurd q h
            · rename_i k; rw [if_neg k] at h
              split
              · rename_i k; rw [if_pos k] at h
                rcases drp_cases S x.a with ⟨_, q⟩ | ⟨q, _⟩
                · exact q
                · exact absurd q h
              · rename_i k; rw [if_neg k] at h
                split
                · rename_i k; rw [if_pos k] at h
                  rcases msk_cases S x.a (decide (x.b = 1)) with ⟨_, q⟩ | ⟨q, _⟩
                  · exact q
                  · exact absurd q h
                · rfl
section
variable {w0 w : World} {l : List It} {g n m : Nat} {E : Ev} {P : Kp} {c : Ct}
theorem Its.kdie (h : Its w0 (.ctl w0.heap.size g E n m P c :: l) w) : Its w0 (.ctl w0.heap.size g E n m P ⟨c.S, c.K, c.T, c.J, c.tk, true⟩ :: l) (w.setCell ⟨g, 38, none⟩ (.bool true)) := by
  have hf := kt_f h.one
  have h2 := h.kopen.1.pick 0 rfl
  have h3 := h2.put1 38 (.bool true)
  have h4 := Its.back (l := kparts w0.heap.size g E n m P c ++ l) 0 (by simp [kparts]) h3
  exact Its.kshut (c := ⟨c.S, c.K, c.T, c.J, c.tk, true⟩) h4 ⟨hf.gd, hf.hn, hf.hm, hf.hs, hf.gq, hf.pa, hf.tk, hf.jo, hf.jd⟩
theorem Its.kany {S S' : Mr} {K K' : Bk} {T : Tp} {J : Int → List Int} {tk : List Int} {d : Bool} (h : Its w0 (.ctl w0.heap.size g E n m P ⟨S, K, T, J, tk, d⟩ :: l) w) : Its w0 (.ctl w0.heap.size g E n m P ⟨S', K', T, J, tk, d⟩ :: l) w := by
  have hf := kt_f h.one
  exact Its.kshut (c := ⟨S', K', T, J, tk, d⟩) h.kopen.1 ⟨hf.gd, hf.hn, hf.hm, hf.hs, hf.gq, hf.pa, hf.tk, hf.jo, hf.jd⟩
def CodeP (w0 : World) (l : List It) (g : Nat) (E : Ev) (n m : Nat) (p : Int × Ct) (e : Ending) (w' : World) : Prop := e = .returned (.int .i64 p.1) ∧ ∃ P', Liv P' p.2 ∧ Its w0 (.ctl w0.heap.size g E n m P' p.2 :: l) w'
theorem note_no {x : Nt} (h : ndC c.S c.K x ≠ 0) : c.note x = (ndC c.S c.K x, c) := if_pos h
theorem note_ok {x : Nt} (h : ndC c.S c.K x = 0) (h2 : (c.wr x).1 = 0) : c.note x = (0, ⟨ndS c.S x, ndK c.K x, (c.wr x).2, c.J, c.tk, c.dead⟩) := by unfold Ct.note; rw [if_neg (by simp [h]), if_pos h2]
theorem note_die {x : Nt} (h : ndC c.S c.K x = 0) (h2 : (c.wr x).1 ≠ 0) : c.note x = ((c.wr x).1, ⟨c.S, c.K, (c.wr x).2, c.J, c.tk, true⟩) := by unfold Ct.note; rw [if_neg (by simp [h]), if_neg h2]
set_option maxRecDepth 100000 in
set_option maxHeartbeats 4000000 in
theorem knoteS (h : Its w0 (.ctl w0.heap.size g E n m P c :: l) w) (hv : Liv P c) (hd : c.dead = false) {got : List Nt} (hr : NRds c.T.now got []) (hN : got.length ≤ 7000) (x : Nt) (hx : I64 x.a) (hb : c.K.all.length ≤ 8000 ∧ c.K.done.length ≤ 8000) :
    Calls Tryz.prog 82 #[.pointer (some ⟨g, 0, none⟩), .agg #[.int .i64 x.kind, .int .i64 x.a, .int .i64 x.b, .int .i64 x.c]] w (CodeP w0 l g E n m (c.note x)) := by
  obtain ⟨eS, eK⟩ := hv hd
  obtain ⟨got2, r2, hr2, hN2⟩ := wr_rds (x := x) hr
  obtain ⟨l', hl'⟩ : ∃ l', It.box w.heap.size #[.int .i64 x.kind, .int .i64 x.a, .int .i64 x.b, .int .i64 x.c] 69 :: l = l' := ⟨_, rfl⟩
  obtain ⟨w1, hw1⟩ : ∃ w1, w.alloc (.cells #[.int .i64 x.kind, .int .i64 x.a, .int .i64 x.b, .int .i64 x.c] 69) = w1 := ⟨_, rfl⟩
  have h1 : Its w0 (.ctl w0.heap.size g E n m P c :: l') w1 := by
    rw [← hw1, ← hl']
    exact (h.new (x := .box w.heap.size _ 69) (heap_new w _) (fun k hk => by cases hk; exact Nat.le_refl _) (below_new w _)).swap
  have SX : Hid (∀ W P' c', P'.gt = P.gt → Its w0 (.ctl w0.heap.size g E n m P' c' :: l') W → (W.cell? ⟨w.heap.size, 0, none⟩ = some (.int .i64 x.kind) ∧ W.cell? ⟨w.heap.size, 1, none⟩ = some (.int .i64 x.a) ∧ W.cell? ⟨w.heap.size, 2, none⟩ = some (.int .i64 x.b) ∧ W.cell? ⟨w.heap.size, 3, none⟩ = some (.int .i64 x.c)) ∧ W.cell? ⟨g, 3, none⟩ = some (.pointer (some ⟨P.gt, 0, none⟩)) ∧ W.frozen? ⟨g, 38, none⟩ = false ∧ W.cell? ⟨g, 38, none⟩ = some (.bool c'.dead)) := hide (fun W P' c' e hW => by
    subst hl'
    obtain ⟨c0, c1, c2, c3, c4, c5, c37, c38⟩ := kt_c hW.one
    have hz := kt_z hW.one 38
    have hb := hW.two
    rw [e] at c3
    exact ⟨⟨(cells_at hb 0).1, (cells_at hb 1).1, (cells_at hb 2).1, (cells_at hb 3).1⟩, c3, hz, c38⟩)
  have drop : Hid (∀ W P' c', Its w0 (.ctl w0.heap.size g E n m P' c' :: l') W → Its w0 (.ctl w0.heap.size g E n m P' c' :: l) W) := hide (fun W P' c' hW => by subst hl'; exact hW.swap.tail)
  obtain ⟨P1, hP1⟩ : ∃ P1 : Kp, P1 = { P with S := ndS c.S x, K := ndK c.K x } := ⟨_, rfl⟩
  have KD : Hid (Calls Tryz.prog 116 #[.pointer (some ⟨g, 0, none⟩), .agg #[.int .i64 x.kind, .int .i64 x.a, .int .i64 x.b, .int .i64 x.c]] w1 fun e w' => e = .returned (.tuple #[.bool (ndY c.K x), .int .i64 (ndC c.S c.K x)]) ∧ ∃ P2 : Kp, (P2.S = ndS c.S x ∧ P2.K = ndK c.K x ∧ P2.gt = P.gt) ∧ Its w0 (.ctl w0.heap.size g E n m P2 c :: l') w') := hide (by
    refine (kdoS h1 x hx (by rw [eK]; omega)).mono ?_
    rintro e w' ⟨rfl, H, q⟩
    rw [eS, eK] at q
    exact ⟨by rw [eS, eK], { P with Hk := H, S := ndS c.S x, K := ndK c.K x }, ⟨rfl, rfl, rfl⟩, q⟩)
  have KA : Hid (∀ (W : World) (P2 : Kp), P2.gt = P.gt → Its w0 (.ctl w0.heap.size g E n m P2 c :: l') W → ∀ (a : Option Addr) (cp : Nat), ntE.Rd W (.slice a 1 cp) [x] → Calls Tryz.prog 20 #[.pointer (some ⟨P.gt, 0, none⟩), .slice a 1 cp] W fun e w' => e = .returned (.int .i64 (c.wr x).1) ∧ ∃ P3 : Kp, (P3.S = P2.S ∧ P3.K = P2.K ∧ P3.gt = P.gt) ∧ Its w0 (.ctl w0.heap.size g E n m P3 ⟨c.S, c.K, (c.wr x).2, c.J, c.tk, c.dead⟩ :: l') w') := hide (fun W P2 e hW a cp hn => by
    have hf := kt_f hW.one
    have e0 := e
    rw [← e0]
    refine (appendS hW.ktape hn rfl (by omega) hr).mono ?_
    rintro q w' ⟨rfl, H', hq⟩
    exact ⟨rfl, { P2 with Ht := H' }, ⟨rfl, rfl, rfl⟩, Its.ktapeB hf hq⟩)
  have KR : Hid (∀ (W : World) (P2 : Kp), Its w0 (.ctl w0.heap.size g E n m P2 ⟨c.S, c.K, (c.wr x).2, c.J, c.tk, true⟩ :: l') W → Calls Tryz.prog 46 #[.pointer (some ⟨g, 0, none⟩)] W fun e w' => (∃ v, e = .returned (.int .i64 v)) ∧ ∃ P3, Its w0 (.ctl w0.heap.size g E n m P3 ⟨c.S, c.K, (c.wr x).2, c.J, c.tk, true⟩ :: l') w') := hide (fun W P2 hW => by
    refine (krecall hW hr2 (by omega)).mono ?_
    rintro e w' ⟨P3, q, ⟨rfl, _⟩ | ⟨rfl, _⟩⟩
    · exact ⟨⟨_, rfl⟩, P3, q⟩
    · exact ⟨⟨_, rfl⟩, P3, q⟩)
  have HI := hide h1
  have hsame := hide (nd_same (S := c.S) (K := c.K) (x := x))
  have hno := hide (note_no (c := c) (x := x))
  have hok := hide (note_ok (c := c) (x := x))
  have hdi := hide (note_die (c := c) (x := x))
  generalize hnp : c.note x = np at *
  clear hnp
  generalize hz : ndC c.S c.K x = z at *
  generalize hy : ndY c.K x = y at *
  generalize hwp : c.wr x = wp at *
  clear hz hy hwp hP1
  obtain ⟨T1, T2⟩ := wp
  have HD := hide hd
  clear h h1 hl' hv hr hN hb hx eS eK hr2 hN2 hd
  obtain ⟨kd, xa, xb, xc⟩ := x
  dsimp only at *
  subst hw1
  by_cases hz : z = 0
  · subst hz
    have NP : Hid (T1 ≠ 0 → np = (T1, ⟨c.S, c.K, T2, c.J, c.tk, true⟩)) := hide (fun h => hdi.out rfl h)
    have NO : Hid (T1 = 0 → np = (0, ⟨ndS c.S ⟨kd, xa, xb, xc⟩, ndK c.K ⟨kd, xa, xb, xc⟩, T2, c.J, c.tk, c.dead⟩)) := hide (fun h => hok.out rfl h)
    clear hno hok hdi hsame
    go_enter Tryz.func82, Tryz.ntmps82
    obtain ⟨⟨a0, a1, a2, a3⟩, _⟩ := SX.out _ _ _ rfl HI.out
    go_upto_region 4 with (go_at_call 116; refine KD.out.mono ?_; rintro e w2 ⟨rfl, P2, ⟨p1, p2, p3⟩, q⟩; have HQ := hide q; have hp1 := hide p1; have hp2 := hide p2; have hp3 := hide p3; clear q p1 p2 p3)
    obtain ⟨⟨b0, b1, b2, b3⟩, b4, b5, b6⟩ := SX.out _ _ _ hp3.out HQ.out
    have sA : ∀ o, (w2.alloc o).cell? ⟨g, 3, none⟩ = some (.pointer (some ⟨P.gt, 0, none⟩)) ∧ (w2.alloc o).cell? ⟨w.heap.size, 0, none⟩ = some (.int .i64 kd) ∧ (w2.alloc o).cell? ⟨w.heap.size, 1, none⟩ = some (.int .i64 xa) ∧ (w2.alloc o).cell? ⟨w.heap.size, 2, none⟩ = some (.int .i64 xb) ∧ (w2.alloc o).cell? ⟨w.heap.size, 3, none⟩ = some (.int .i64 xc) := fun o => by
      obtain ⟨⟨b0, b1, b2, b3⟩, b4, b5, b6⟩ := SX.out _ _ _ hp3.out (HQ.out.alloc o)
      exact ⟨b4, b0, b1, b2, b3⟩
    have HQA := hide (HQ.out.alloc (.cells #[.int .i64 kd, .int .i64 xa, .int .i64 xb, .int .i64 xc] 69))
    have HN1 := hide (nt_new w2 ⟨kd, xa, xb, xc⟩ _ rfl)
    go_region_held3 (fun W => W.cell? ⟨g, 3, none⟩ = some (.pointer (some ⟨P.gt, 0, none⟩)) ∧ W.cell? ⟨w.heap.size, 0, none⟩ = some (.int .i64 kd) ∧ W.cell? ⟨w.heap.size, 1, none⟩ = some (.int .i64 xa) ∧ W.cell? ⟨w.heap.size, 2, none⟩ = some (.int .i64 xb) ∧ W.cell? ⟨w.heap.size, 3, none⟩ = some (.int .i64 xc)) (first | exact s3 | exact ⟨b4, b0, b1, b2, b3⟩ | exact sA _)
      (first
        | (go_at_call 20; refine (KA.out _ P2 hp3.out ?_ _ _ ?_).mono ?_; first | exact HQA.out | exact HQA.out.drew 1; exact HN1.out; rintro e w3 ⟨rfl, P3, ⟨p1, p2, p3⟩, q⟩; have HQ3 := hide q; have hq1 := hide p1; have hq2 := hide p2; have hq3 := hide p3; clear q p1 p2 p3; have s3 := (fun (z : _ ∧ _ ∧ _ ∧ _) => (⟨z.2.1, z.1.1, z.1.2.1, z.1.2.2.1, z.1.2.2.2⟩ : _ ∧ _ ∧ _ ∧ _ ∧ _)) (SX.out _ _ _ hq3.out HQ3.out))
        | fail)
    obtain ⟨_, _, d5, d6⟩ := SX.out _ _ _ hq3.out HQ3.out
    by_cases ht : T1 = 0
    · subst ht
      have NF := hide (NO.out rfl)
      clear NO NP
      go_wp2_with fail
      go_ret
      rw [NF.out]
      exact ⟨rfl, P3, fun _ => ⟨by rw [hq1.out, hp1.out], by rw [hq2.out, hp2.out]⟩, (drop.out _ _ _ HQ3.out).kany⟩
    · have ht' : (T1 == 0) = false := beq_eq_false_iff_ne.2 ht
      have NF := hide (NP.out ht)
      clear NO NP
      have HQ4 := hide HQ3.out.kdie
      go_wp2_with (go_at_call 46; refine (KR.out _ _ HQ4.out).mono ?_; rintro e w4 ⟨⟨v, rfl⟩, P4, q⟩; have HQ5 := hide q; clear q)
      go_ret
      rw [NF.out]
      exact ⟨rfl, P4, (fun h => by cases h), drop.out _ _ _ HQ5.out⟩
  · have hz' : (z == 0) = false := beq_eq_false_iff_ne.2 hz
    have NN : Hid (np = (z, c)) := hide (hno.out hz)
    obtain ⟨sS, sK⟩ := hsame.out hz
    have sS := hide sS
    have sK := hide sK
    clear hno hok hdi hsame KA KR
    go_enter Tryz.func82, Tryz.ntmps82
    obtain ⟨⟨a0, a1, a2, a3⟩, _⟩ := SX.out _ _ _ rfl HI.out
    go_wp2_with (go_at_call 116; refine KD.out.mono ?_; rintro e w2 ⟨rfl, P2, ⟨p1, p2, p3⟩, q⟩; have HQ := hide q; have hp1 := hide p1; have hp2 := hide p2; have hp3 := hide p3; clear q p1 p2 p3)
    go_ret
    rw [NN.out]
    exact ⟨rfl, P2, fun _ => ⟨by rw [hp1.out, sS.out], by rw [hp2.out, sK.out]⟩, drop.out _ _ _ HQ.out⟩
end
end Go.Proofs.YtocmngpoemfpkaaGreatDoor

namespace Go.Proofs.YtocmngpoemfpkaaGreatDoor
open Go.RowKit
set_option linter.unusedVariables false
def epd (es : List Ed) (x d : Int) : Bool := decide (edN es d = x)
def jl (P : Kp) : List Value := (List.range 31).map P.vJ
theorem jl_at (P : Kp) (k : Nat) (hk : k < 31) : (jl P)[k]? = some (P.vJ k) := by unfold jl; rw [List.getElem?_map, List.getElem?_range hk]; rfl
theorem jl_len (P : Kp) : (jl P).length = 31 := by simp [jl]
theorem kt_rng {w : World} {B g n m : Nat} {E : Ev} {P : Kp} {c : Ct} (h : (It.ctl B g E n m P c).P w) : w.rangeAt g 6 (jl P) := fun j u hu => by
  have hj : j < 31 := by have := idx_lt hu; rw [jl_len] at this; exact this
  rw [jl_at P j hj] at hu
  cases hu
  exact kt_vj h j hj
theorem index31 (P : Kp) (k : Nat) (hk : k < 31) (w : World) : (Instr.index 119 (.agg (jl P).toArray) (.int .i64 (k : Int))).run Tryz.prog w = .ok (P.vJ k) w := by
  have h1 : (0 : Int) ≤ (k : Int) ∧ (k : Int) < 31 := by omega
  have h2 : (jl P)[k]? = some (P.vJ k) := jl_at P k hk
  simp [Instr.index, run_underlying Tryz.underlying119, asIntOf, h1, part, go_sem]
  rw [if_pos hk, h2]
  rfl
section
set_option maxRecDepth 100000
set_option maxHeartbeats 2000000
theorem clo151_any {w : World} {B g n m : Nat} {E : Ev} {P : Kp} {c : Ct} (h : (It.ctl B g E n m P c).P w) (k3 k4 : Nat) (x d : Int) (h3 : w.cell? ⟨k3, 0, none⟩ = some (.pointer (some ⟨g, 0, none⟩))) (h4 : w.cell? ⟨k4, 0, none⟩ = some (.int .i64 x)) (hd : 1 ≤ d ∧ d ≤ (m : Int)) :
    Calls Tryz.prog 151 #[.int .i64 d, .pointer (some ⟨k3, 0, none⟩), .pointer (some ⟨k4, 0, none⟩)] w fun e w' => e = .returned (.bool (epd E.es x d)) ∧ ∃ q, w' = w.drewN q := by
  obtain ⟨c0, c1, _⟩ := kt_c h
  have hm := (kt_f h).hm
  have hm4 := (kt_ly h).m4
  obtain ⟨k, rfl⟩ : ∃ k : Nat, d = (k : Int) + 1 := ⟨(d - 1).toNat, by omega⟩
  obtain ⟨p, hp⟩ : ∃ p, E.es[k]? = some p := ⟨_, List.getElem?_eq_getElem (by omega)⟩
  have he : epd E.es x ((k : Int) + 1) = decide (p.2 = x) := by
    unfold epd edN
    rw [show ((k : Int) + 1 - 1).toNat = k by omega, hp]; rfl
  rw [he]
  obtain ⟨b, off, hlb, e0, e1⟩ := ed_at (kt_es h).rd k p hp
  rw [hlb] at c1
  obtain ⟨p1, p2⟩ := p
  dsimp only at *
  have j0 : (0 : Int) ≤ (k : Int) := by omega
  have j1 : (k : Int) < (m : Int) := by omega
  have j2 : wrap64 ((k : Int) + 1 - 1) = (k : Int) := by unfold wrap64; omega
  have j3 : IntKind.i64.wrap (k : Int) = (k : Int) := by unfold IntKind.wrap; simp [IntKind.signed, IntKind.bits]; omega
  clear he hlb hp hd h hm hm4
  by_cases hq : p2 = x
  · subst hq
    go_enter Tryz.func151, Tryz.ntmps151
    go_wp2_with fail
    go_quiet (fail)
    go_wp2_with fail
    go_ret
    exact ⟨by simp, _, rfl⟩
  · have hq' : (p2 == x) = false := beq_eq_false_iff_ne.2 hq
    go_enter Tryz.func151, Tryz.ntmps151
    go_wp2_with fail
    go_quiet (fail)
    go_wp2_with fail
    go_ret
    exact ⟨by simp [hq], _, rfl⟩
theorem idx196_any {w : World} {B g n m : Nat} {E : Ev} {P : Kp} {c : Ct} (h : (It.ctl B g E n m P c).P w) (k3 k4 : Nat) (x : Int) (h3 : w.cell? ⟨k3, 0, none⟩ = some (.pointer (some ⟨g, 0, none⟩))) (h4 : w.cell? ⟨k4, 0, none⟩ = some (.int .i64 x)) (a : Option Addr) (N cc : Nat) (xs : List Int) (hn : xs.length = N) (hv : intE.Rd w (.slice a N cc) xs) (hl : N ≤ 1000) (hd : ∀ d ∈ xs, 1 ≤ d ∧ d ≤ (m : Int)) :
    Calls Tryz.prog 196 #[.slice a N cc, .func (.func 151) #[] #[.pointer (some ⟨k3, 0, none⟩), .pointer (some ⟨k4, 0, none⟩)]] w fun e w' => e = .returned (.int .i64 (fx (epd E.es x) xs)) ∧ ∃ q, w' = w.drewN q := by
  have Hn := hide hn
  have i0 : (N : Int) ≤ 1000 := by omega
  have KC : Hid (∀ q d, d ∈ xs → Calls Tryz.prog 151 #[.int .i64 d, .pointer (some ⟨k3, 0, none⟩), .pointer (some ⟨k4, 0, none⟩)] (w.drewN q) fun e w' => e = .returned (.bool (epd E.es x d)) ∧ ∃ q, w' = w.drewN q) := hide (fun q d hq => by
    refine (clo151_any (w := w.drewN q) ((It.ctl B g E n m P c).st h fun _ _ => rfl) k3 k4 x d h3 h4 (hd d hq)).mono ?_
    rintro e w' ⟨rfl, q', rfl⟩
    exact ⟨rfl, q + q', by simp [World.drewN, Nat.add_assoc]⟩)
  have HV : Hid (∀ q k y, xs[k]? = some y → ∃ b off, a = some ⟨b, off, none⟩ ∧ (w.drewN q).cell? ⟨b, off + k, none⟩ = some (.int .i64 y)) := hide (fun q k y hy => int_at (w := w) hv k y hy)
  have yes : Hid (∀ (k : Nat) (p : Int), xs[k]? = some p → epd E.es x p = true → (∀ j d, j < k → xs[j]? = some d → epd E.es x d = false) → fx (epd E.es x) xs = (k : Int)) := hide (fun k p h1 h2 h3 => fx_at h1 h2 h3)
  have no : Hid ((∀ (j : Nat) (d : Int), j < N → xs[j]? = some d → epd E.es x d = false) → fx (epd E.es x) xs = -1) := hide (fun h => fx_none (by rw [hn]; exact h))
  generalize fx (epd E.es x) xs = res at *
  clear h h3 h4 hv hn hd
  go_enter Tryz.func196, Tryz.ntmps196
  go_wp2_with fail
  go_loopw [8] (fun v8 wr => ∃ k q : Nat, k ≤ N ∧ v8 = .int .i64 k ∧ wr = w.drewN q ∧ Hid (∀ j d, j < k → xs[j]? = some d → epd E.es x d = false)) (fun v8 _ => N - (intOf v8).toNat)
  case atStart => exact ⟨0, 0, by omega, rfl, rfl, hide (fun j q h => by omega)⟩
  case round =>
    obtain ⟨k, q, hk, rfl, rfl, Hno⟩ := hrel
    by_cases hlt : k < N
    · obtain ⟨p, hp⟩ : ∃ p, xs[k]? = some p := ⟨_, List.getElem?_eq_getElem (by rw [Hn.out]; exact hlt)⟩
      obtain ⟨b, off, rfl, e0⟩ := HV.out q k p hp
      have K := hide (KC.out q p (List.mem_of_getElem? hp))
      have j0 : (0 : Int) ≤ (k : Int) := by omega
      have j1 : (k : Int) < (N : Int) := by omega
      have j2 : wrap64 ((k : Int) + 1) = (k : Int) + 1 := by unfold wrap64; omega
      have Hp := hide hp
      clear hp
      cases he : epd E.es x p with
      | true =>
        rw [he] at K
        have e1 := yes.out k p Hp.out he Hno.out
        subst e1
        clear he
        go_wp2_with (go_at_call 151; refine K.out.mono ?_; rintro e w2 ⟨rfl, q', rfl⟩)
        go_ret
        exact ⟨rfl, _, rfl⟩
      | false =>
        rw [he] at K
        have HX1 : Hid (∀ j d, j < k + 1 → xs[j]? = some d → epd E.es x d = false) := hide (fun j d hj hd => by
          rcases Nat.lt_or_ge j k with g | g
          · exact Hno.out j d g hd
          · obtain rfl : j = k := by omega
            rw [Hp.out] at hd
            cases hd
            exact he)
        clear he
        go_wp2_with (go_at_call 151; refine K.out.mono ?_; rintro e w2 ⟨rfl, q', rfl⟩)
        go_roundw
        case rel => exact ⟨k + 1, q', by omega, by go_num, rfl, HX1⟩
        case measure => simp [intOf]; omega
    · obtain rfl : k = N := by omega
      have j1 : ¬ (k : Int) < (k : Int) := by omega
      have e1 := no.out Hno.out
      subst e1
      go_wp2_with fail
      go_ret
      exact ⟨rfl, _, rfl⟩
theorem fx_any {α : Type} (p : α → Bool) (q : List α) : decide (0 ≤ fx p q) = q.any p := by
  rcases fx_cases p q with ⟨i, c, hi, hp, _, e⟩ | ⟨h, e⟩
  · rw [e, decide_eq_true (by omega), List.any_eq_true.2 ⟨c, List.mem_of_getElem? hi, hp⟩]
  · rw [e, decide_eq_false (by omega)]
    symm
    rw [List.any_eq_false]
    intro c hc
    rw [h c hc]; simp
theorem has152_any {w : World} {B g n m : Nat} {E : Ev} {P : Kp} {c : Ct} (h : (It.ctl B g E n m P c).P w) (k3 k4 : Nat) (x : Int) (h3 : w.cell? ⟨k3, 0, none⟩ = some (.pointer (some ⟨g, 0, none⟩))) (h4 : w.cell? ⟨k4, 0, none⟩ = some (.int .i64 x)) (a : Option Addr) (N cc : Nat) (xs : List Int) (hn : xs.length = N) (hv : intE.Rd w (.slice a N cc) xs) (hl : N ≤ 1000) (hd : ∀ d ∈ xs, 1 ≤ d ∧ d ≤ (m : Int)) :
    Calls Tryz.prog 152 #[.slice a N cc, .func (.func 151) #[] #[.pointer (some ⟨k3, 0, none⟩), .pointer (some ⟨k4, 0, none⟩)]] w fun e w' => e = .returned (.bool (xs.any (epd E.es x))) ∧ ∃ q, w' = w.drewN q := by
  have K := hide (idx196_any h k3 k4 x h3 h4 a N cc xs hn hv hl hd)
  have hd := fx_any (epd E.es x) xs
  generalize fx (epd E.es x) xs = res at *
  generalize xs.any (epd E.es x) = yes at *
  clear hv hn h h3 h4
  go_enter Tryz.func152, Tryz.ntmps152
  go_wp2_with (go_at_call 196; refine K.out.mono ?_; rintro e w2 ⟨rfl, q, rfl⟩)
  go_ret
  exact ⟨rfl, _, rfl⟩
def onN (E : Ev) (c : Ct) (x but : Int) (k : Nat) : Bool := (List.range k).any (fun t : Nat => decide ((t : Int) ≠ but) && (c.J (t : Int)).any (epd E.es x))
theorem onN_succ (E : Ev) (c : Ct) (x but : Int) (k : Nat) : onN E c x but (k + 1) = (onN E c x but k || (decide ((k : Int) ≠ but) && (c.J (k : Int)).any (epd E.es x))) := by unfold onN; rw [List.range_succ, List.any_append]; simp
theorem onN_up (E : Ev) (c : Ct) (x but : Int) {k j : Nat} (h : onN E c x but k = true) (hk : k ≤ j) : onN E c x but j = true := by
  unfold onN at *
  rw [List.any_eq_true] at *
  obtain ⟨t, ht, q⟩ := h
  exact ⟨t, List.mem_range.2 (by have := List.mem_range.1 ht; omega), q⟩
theorem isOnPath_any {w : World} {B g n m : Nat} {E : Ev} {P : Kp} {c : Ct} (h : (It.ctl B g E n m P c).P w) (hl : ∀ t, (c.J t).length ≤ 1000) (x but : Int) :
    Calls Tryz.prog 95 #[.pointer (some ⟨g, 0, none⟩), .int .i64 x, .int .i64 but] w fun e w' => e = .returned (.bool (c.onP E x but)) ∧ Below w.heap.size w w' := by
  obtain ⟨W1, hW1⟩ : ∃ W1, (w.alloc (.cells #[.pointer (some ⟨g, 0, none⟩)] 31)).alloc (.cells #[.int .i64 x] 3) = W1 := ⟨_, rfl⟩
  have hb : Below w.heap.size w W1 := by rw [← hW1]; exact (below_new _ _).alloc (by show w.heap.size ≤ (w.heap.push _).size; simp) _
  have h1 : (It.ctl B g E n m P c).P W1 := (It.ctl B g E n m P c).st h fun k hk => hb.block k ((It.ctl B g E n m P c).lt h k hk)
  have s3 : W1.cell? ⟨w.heap.size, 0, none⟩ = some (.pointer (some ⟨g, 0, none⟩)) := by
    have hh : W1.heap[w.heap.size]? = some (.cells #[.pointer (some ⟨g, 0, none⟩)] 31) := by
      rw [← hW1]
      rw [(below_new (w.alloc (.cells #[.pointer (some ⟨g, 0, none⟩)] 31)) _).block w.heap.size (by show _ < (w.heap.push _).size; simp)]
      exact heap_new _ _
    exact (cells_at hh 0).1
  have s4 : W1.cell? ⟨w.heap.size + 1, 0, none⟩ = some (.int .i64 x) := by
    have hh : W1.heap[w.heap.size + 1]? = some (.cells #[.int .i64 x] 3) := by
      rw [← hW1]
      have := heap_new (w.alloc (.cells #[.pointer (some ⟨g, 0, none⟩)] 31)) (.cells #[.int .i64 x] 3)
      rwa [show (w.alloc (.cells #[.pointer (some ⟨g, 0, none⟩)] 31)).heap.size = w.heap.size + 1 by show (w.heap.push _).size = _; simp] at this
    exact (cells_at hh 0).1
  have f := kt_f h
  have HJ : Hid (∀ q t : Nat, t < 31 → ∃ a cc, P.vJ t = .slice a (c.J (t : Int)).length cc ∧ Calls Tryz.prog 152 #[.slice a (c.J (t : Int)).length cc, .func (.func 151) #[] #[.pointer (some ⟨w.heap.size, 0, none⟩), .pointer (some ⟨w.heap.size + 1, 0, none⟩)]] (W1.drewN q) fun e w' => e = .returned (.bool ((c.J (t : Int)).any (epd E.es x))) ∧ ∃ q, w' = (W1.drewN q)) := hide (fun q t ht => by
    obtain ⟨a, cc, e, _⟩ := (kt_j h1 t ht).form
    refine ⟨a, cc, e, ?_⟩
    have hr := (kt_j h1 t ht).rd
    rw [e] at hr
    refine (has152_any (w := W1.drewN q) ((It.ctl B g E n m P c).st h1 fun _ _ => rfl) _ _ x s3 s4 a _ cc _ rfl hr (hl _) (f.jd _)).mono ?_
    rintro e w' ⟨rfl, q', rfl⟩
    exact ⟨rfl, q + q', by simp [World.drewN, Nat.add_assoc]⟩)
  have Hrg := kt_rng h1
  have HI : Hid (∀ k : Nat, k < 31 → ∀ W, (Instr.index 119 (.agg (jl P).toArray) (.int .i64 (k : Int))).run Tryz.prog W = .ok (P.vJ k) W) := hide (fun k hk W => index31 P k hk W)
  have hjl := jl_len P
  have HB := hide hb
  have hf : ∀ W k j, (Instr.makeFunc (.func 151) #[] #[.pointer (some ⟨k, 0, none⟩), .pointer (some ⟨j, 0, none⟩)]).run Tryz.prog W = .ok (.func (.func 151) #[] #[.pointer (some ⟨k, 0, none⟩), .pointer (some ⟨j, 0, none⟩)]) W := fun _ _ _ => rfl
  have ON : Hid (∀ k, onN E c x but (k + 1) = (onN E c x but k || (decide ((k : Int) ≠ but) && (c.J (k : Int)).any (epd E.es x)))) := hide (onN_succ E c x but)
  have OU : Hid (∀ k, k ≤ 31 → onN E c x but k = true → c.onP E x but = true) := hide (fun k hk h => onN_up E c x but h hk)
  have OE : Hid (c.onP E x but = onN E c x but 31) := hide rfl
  have O0 : Hid (onN E c x but 0 = false) := hide rfl
  generalize hres : c.onP E x but = res at *
  generalize hon : onN E c x but = on at *
  generalize jl P = js at *
  clear hres hon h f h1 hb
  go_enter Tryz.func95, Tryz.ntmps95
  go_upto_region 1 with fail
  clear hW1
  go_wp2_with (refine wpList_load_mid rfl 119 (.tmp 12) rfl g 6 rfl _ _ Hrg Tryz.underlying119 rfl (by rw [hjl]; kernel_rfl) ?_)
  go_loopw [14] (fun v14 wr => ∃ k q : Nat, k ≤ 31 ∧ v14 = .int .i64 k ∧ wr = W1.drewN q ∧ Hid (on k = false)) (fun v14 _ => 31 - (intOf v14).toNat)
  case atStart => exact ⟨0, 0, by omega, rfl, rfl, O0⟩
  case round =>
    obtain ⟨k, q, hk, rfl, rfl, Hno⟩ := hrel
    by_cases hlt : k < 31
    · obtain ⟨a, cc, e, KC⟩ := HJ.out q k hlt
      have hix : ∀ W, (Instr.index 119 (.agg js.toArray) (.int .i64 (k : Int))).run Tryz.prog W = .ok (.slice a (c.J (k : Int)).length cc) W := fun W => by rw [HI.out k hlt W, e]
      have KC := hide KC
      have OS := hide (ON.out k)
      have s3 : (W1.drewN q).cell? ⟨w.heap.size, 0, none⟩ = some (.pointer (some ⟨g, 0, none⟩)) := s3
      have j0 : (0 : Int) ≤ (k : Int) := by omega
      have j1 : (k : Int) < 31 := by omega
      have j2 : wrap64 ((k : Int) + 1) = (k : Int) + 1 := by unfold wrap64; omega
      generalize hN : (c.J (k : Int)).length = N at *
      generalize hA : (c.J (k : Int)).any (epd E.es x) = A at *
      clear e hN hA ON
      by_cases hb : (k : Int) = but
      · have HX : Hid (on (k + 1) = false) := hide (by rw [OS.out, Hno.out, hb]; simp)
        clear OS KC
        subst hb
        go_wp2_with fail
        go_roundw
        case rel => exact ⟨k + 1, _, by omega, by go_num, rfl, HX⟩
        case measure => simp [intOf]; omega
      · have hb' : ((k : Int) == but) = false := beq_eq_false_iff_ne.2 hb
        cases A with
        | true =>
          have HR := hide (OU.out (k + 1) (by omega) (by rw [OS.out]; simp [hb]))
          clear OS
          go_wp2_with (go_at_call 152; refine KC.out.mono ?_; rintro e w2 ⟨rfl, q', rfl⟩)
          go_ret
          exact ⟨by rw [HR.out]; rfl, HB.out.trans ⟨rfl, rfl, rfl, Nat.le_refl _, fun _ _ => rfl⟩⟩
        | false =>
          have HX : Hid (on (k + 1) = false) := hide (by rw [OS.out, Hno.out]; simp)
          clear OS
          go_wp2_with (go_at_call 152; refine KC.out.mono ?_; rintro e w2 ⟨rfl, q', rfl⟩)
          go_roundw
          case rel => exact ⟨k + 1, _, by omega, by go_num, rfl, HX⟩
          case measure => simp [intOf]; omega
    · obtain rfl : k = 31 := by omega
      have j1 : ¬ ((31 : Nat) : Int) < 31 := by omega
      have HR := hide (OE.out.trans Hno.out)
      go_wp2_with fail
      go_ret
      exact ⟨by rw [HR.out]; rfl, HB.out.trans ⟨rfl, rfl, rfl, Nat.le_refl _, fun _ _ => rfl⟩⟩
structure Gd (c : Ct) (k : Nat) : Prop where
  jl : ∀ t, (c.J t).length ≤ 1000
  nt : c.dead = false → ∃ got, NRds c.T.now got [] ∧ got.length ≤ k ∧ c.K.all.length ≤ k ∧ c.K.done.length ≤ k
theorem Gd.up {c : Ct} {k j : Nat} (h : Gd c k) (hk : k ≤ j) : Gd c j := ⟨h.jl, fun hd => by
  obtain ⟨got, h1, h2, h3, h4⟩ := h.nt hd
  exact ⟨got, h1, by omega, by omega, by omega⟩⟩
theorem wr_now {T : Tp} {got : List Nt} {x : Nt} (h : NRds T.now got []) (h0 : (T.app [] [x]).1 = 0) : NRds (T.app [] [x]).2.now (got ++ [x]) [] := by
  unfold Tp.app at h0 ⊢
  split at h0
  · cases h0
  · rename_i q1; rw [if_neg q1]
    split at h0
    · cases h0
    · rename_i q2; rw [if_neg q2]
      rw [if_neg (by simp)] at h0 ⊢
      split at h0
      · cases h0
      · rename_i q3; rw [if_neg q3, put_now]
        rcases (put_fact T T.cn ([x].flatMap Nt.bts)).2.2 with ⟨_, hA, _⟩ | ⟨h1, _⟩
        · rw [hA]; exact rds_app h (by simpa using q2)
        · rw [h1] at h0; cases h0
theorem Gd.note {c : Ct} {k : Nat} (h : Gd c k) (x : Nt) : Gd (c.note x).2 (k + 1) := by
  unfold Ct.note
  split
  · exact h.up (by omega)
  · split
    · rename_i h0
      refine ⟨h.jl, fun hd => ?_⟩
      obtain ⟨got, h1, h2, h3, h4⟩ := h.nt hd
      have := ndK_size c.K x
      exact ⟨got ++ [x], wr_now h1 h0, by simp; omega, by show (ndK c.K x).all.length ≤ _; omega, by show (ndK c.K x).done.length ≤ _; omega⟩
    · exact ⟨h.jl, fun hd => by cases hd⟩
theorem knote_any {w0 w : World} {l : List It} {g n m : Nat} {E : Ev} {P : Kp} {c : Ct} (h : Its w0 (.ctl w0.heap.size g E n m P c :: l) w) (hv : Liv P c) (hd : c.dead = false) {k : Nat} (hg : Gd c k) (hk : k ≤ 7000) (x : Nt) (hx : I64 x.a) :
    Calls Tryz.prog 82 #[.pointer (some ⟨g, 0, none⟩), .agg #[.int .i64 x.kind, .int .i64 x.a, .int .i64 x.b, .int .i64 x.c]] w (CodeP w0 l g E n m (c.note x)) := by
  obtain ⟨got, h1, h2, h3, h4⟩ := hg.nt hd
  exact knoteS h hv hd h1 (by omega) x hx (by omega)
def Ct.put (E : Ev) (c : Ct) (t x : Int) : Int × Ct := if c.dead = true then (190, c) else if c.onP E x 0 = true then (100, c) else c.note ⟨1, t, x, 0⟩
theorem kputS {w0 w : World} {l : List It} {g n m : Nat} {E : Ev} {P : Kp} {c : Ct} (h : Its w0 (.ctl w0.heap.size g E n m P c :: l) w) (hv : Liv P c) {k : Nat} (hg : Gd c k) (hk : k ≤ 7000) (t x : Int) (ht : I64 t) :
    Calls Tryz.prog 37 #[.pointer (some ⟨g, 0, none⟩), .int .i64 t, .int .i64 x] w (CodeP w0 l g E n m (c.put E t x)) := by
  obtain ⟨c0, c1, c2, c3, c4, c5, c37, c38⟩ := kt_c h.one
  have KO := hide (isOnPath_any h.one hg.jl x 0)
  have KN : Hid (∀ W, c.dead = false → Its w0 (.ctl w0.heap.size g E n m P c :: l) W → Calls Tryz.prog 82 #[.pointer (some ⟨g, 0, none⟩), .agg #[.int .i64 1, .int .i64 t, .int .i64 x, .int .i64 0]] W (CodeP w0 l g E n m (c.note ⟨1, t, x, 0⟩))) := hide (fun W hd hW => knote_any hW hv hd hg hk ⟨1, t, x, 0⟩ ht)
  have HI := hide h
  have hp : c.put E t x = if c.dead = true then (190, c) else if c.onP E x 0 = true then (100, c) else c.note ⟨1, t, x, 0⟩ := rfl
  have HV := hide hv
  rw [hp]
  clear hp h hv hg
  cases hd : c.dead with
  | true =>
    rw [hd] at c38
    rw [if_pos rfl]
    have HD := hide hd
    clear hd KO KN
    go_enter Tryz.func37, Tryz.ntmps37
    go_wp2_with fail
    go_ret
    exact ⟨rfl, P, HV.out, HI.out⟩
  | false =>
    rw [hd] at c38
    rw [if_neg (by simp)]
    have HD := hide hd
    clear hd
    cases ho : c.onP E x 0 with
    | true =>
      rw [ho] at KO
      rw [if_pos rfl]
      clear ho KN
      go_enter Tryz.func37, Tryz.ntmps37
      go_wp2_with (go_at_call 95; refine KO.out.mono ?_; rintro e w1 ⟨rfl, q⟩; have HB := hide q; clear q)
      go_ret
      exact ⟨rfl, P, HV.out, HI.out.keep HB.out⟩
    | false =>
      rw [ho] at KO
      rw [if_neg (by simp)]
      clear ho
      generalize c.note ⟨1, t, x, 0⟩ = np at *
      go_enter Tryz.func37, Tryz.ntmps37
      go_wp2_with (first
        | (go_at_call 95; refine KO.out.mono ?_; rintro e w1 ⟨rfl, q⟩; have HB := hide q; clear q; have HI1 := hide (HI.out.keep HB.out))
        | (go_at_call 82; refine (KN.out _ HD.out HI1.out).mono ?_; rintro e w2 ⟨rfl, P', hv', q⟩; have HV' := hide hv'; have HQ := hide q; clear hv' q))
      go_ret
      exact ⟨rfl, P', HV'.out, HQ.out⟩
end
end Go.Proofs.YtocmngpoemfpkaaGreatDoor
