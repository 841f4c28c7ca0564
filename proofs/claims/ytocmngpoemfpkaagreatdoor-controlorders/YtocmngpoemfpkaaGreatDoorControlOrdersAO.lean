/- ControlOrders: texts Rgd. -/
import Derived.Test.YtocmngpoemfpkaaGreatDoorControlOrdersAN
namespace Go.Proofs.YtocmngpoemfpkaaGreatDoor
open Go.RowKit
set_option linter.unusedVariables false
theorem first_self {ns : List Nd} {k : Nat} {p : Nd} (hp : ns[k]? = some p) (h : p.name ∉ (ns.take k).map (·.name)) : firstAt ns p.name = some (k : Int) := by
  have hk : k < ns.length := by
    rcases Nat.lt_or_ge k ns.length with h' | h'
    · exact h'
    · rw [List.getElem?_eq_none h'] at hp; cases hp
  unfold firstAt
  rw [firstFrom_drop p.name ns k (by omega) (fun i q hi hq e => h (List.mem_map.2 ⟨q, List.mem_of_getElem? (i := i) (by rw [List.getElem?_take_of_lt hi]; exact hq), e⟩)), ← List.getElem_cons_drop hk]
  rw [List.getElem?_eq_getElem hk] at hp
  cases hp
  rw [firstFrom, if_pos rfl]
theorem first_dup {ns : List Nd} {k : Nat} {s : ByteArray} (h : s ∈ (ns.take k).map (·.name)) : (firstAt ns s).getD (-1) < (k : Int) := by
  have : ∀ (l : List Nd) (i k : Nat), s ∈ (l.take k).map (·.name) → (firstFrom i l s).getD (-1) < ((i + k : Nat) : Int) := by
    intro l
    induction l with
    | nil => intro i k h; simp at h
    | cons n l ih =>
      intro i k h
      cases k with
      | zero => simp at h
      | succ k =>
        unfold firstFrom
        split
        · simp; omega
        · rename_i hne
          rw [List.take_succ_cons, List.map_cons, List.mem_cons] at h
          rcases h with h | h
          · exact absurd h.symm hne
          · have := ih (i + 1) k h
            have e : i + 1 + k = i + (k + 1) := by omega
            rw [e] at this
            exact this
  have := this ns 0 k h
  rw [Nat.zero_add] at this
  exact this
set_option maxRecDepth 100000 in
set_option maxHeartbeats 8000000 in
theorem rgood_any (a a' : Option Addr) (c c' : Nat) (ns : List Nd) (es : List Ed) (w : World) (hv : ndE.Rd w (.slice a ns.length c) ns) (hu : edE.Rd w (.slice a' es.length c') es) :
    Calls Tryz.prog 55 #[.agg #[.slice a ns.length c, .slice a' es.length c']] w fun e w' => e = .returned (.bool (good ns es)) ∧ Below w.heap.size w w' := by
  obtain ⟨n, hn⟩ : ∃ n, ns.length = n := ⟨_, rfl⟩
  obtain ⟨m, hm⟩ : ∃ m, es.length = m := ⟨_, rfl⟩
  have noL : n < 1 ∨ 40 < n ∨ 120 < m → good ns es = false := fun h => by
    unfold good goodN goodE
    rcases h with h | h | h
    · rw [decide_eq_false (by omega)]; rfl
    · rw [decide_eq_false (by omega)]; rfl
    · rw [Bool.and_eq_false_iff]; exact .inr (decide_eq_false (by omega))
  have no1 : Hid (∀ k p, ns[k]? = some p → ndB p = false → good ns es = false) := hide (fun k p h1 h2 => by unfold good; rw [bad_no h1 h2]; rfl)
  have no2 : Hid (∀ k p, ns[k]? = some p → p.name ∈ (ns.take k).map (·.name) → good ns es = false) := hide (fun k p h1 h2 => by unfold good; rw [dup_no h1 h2]; rfl)
  have no3 : Hid (∀ k p, es[k]? = some p → edB ns p = false → good ns es = false) := hide (fun k p h1 h2 => by unfold good; rw [edge_bad h1 h2, Bool.and_false])
  have no4 : Hid (∀ k p, es[k]? = some p → p ∈ es.take k → good ns es = false) := hide (fun k p h1 h2 => by unfold good; rw [edge_dup h1 h2, Bool.and_false])
  have yes : Hid (1 ≤ n → n ≤ 40 → m ≤ 120 → (∀ q ∈ ns, ndB q = true) → (ns.map (·.name)).Nodup → (∀ e ∈ es, edB ns e = true) → es.Nodup → good ns es = true) := hide (fun h1 h2 h3 h4 h5 h6 h7 => by
    unfold good goodN goodE
    rw [decide_eq_true (by rw [hn]; exact ⟨h1, h2, h4, h5⟩), decide_eq_true (by rw [hm]; exact ⟨h3, h6, h7⟩)]; rfl)
  generalize good ns es = res at *
  rw [hn] at hv ⊢
  rw [hm] at hu ⊢
  obtain ⟨W0, hW0⟩ : ∃ W0, w.alloc (.cells #[.slice a n c, .slice a' m c'] 25) = W0 := ⟨_, rfl⟩
  have bA : Below w.heap.size w W0 := by rw [← hW0]; exact (Below.refl _ _).alloc (Nat.le_refl _) _
  have hbox : W0.heap[w.heap.size]? = some (.cells #[.slice a n c, .slice a' m c'] 25) := by rw [← hW0]; exact heap_new _ _
  have HA := hide bA
  by_cases hL : n < 1 ∨ 40 < n ∨ 120 < m
  · have e1 := noL hL
    subst e1
    have fin : Hid (∀ W, W = W0 → Below w.heap.size w W) := hide (fun W e => by subst e; exact HA.out)
    clear noL no1 no2 no3 no4 yes hv hu hn hm hbox bA
    subst hW0
    by_cases h1 : n < 1
    · have h1' : (n : Int) < 1 := by omega
      clear hL h1
      go_enter Tryz.func55, Tryz.ntmps55
      go_wp2_with fail
      go_ret
      exact ⟨rfl, HA.out⟩
    · by_cases h2 : 40 < n
      · have h1' : ¬ (n : Int) < 1 := by omega
        have h2' : (40 : Int) < n := by omega
        clear hL h1 h2
        go_enter Tryz.func55, Tryz.ntmps55
        go_wp2_with fail
        go_ret
        exact ⟨rfl, HA.out⟩
      · have h1' : ¬ (n : Int) < 1 := by omega
        have h2' : ¬ (40 : Int) < n := by omega
        have h3' : (120 : Int) < m := by omega
        clear hL h1 h2
        go_enter Tryz.func55, Tryz.ntmps55
        go_wp2_with fail
        go_ret
        exact ⟨rfl, HA.out⟩
  have h1' : ¬ (n : Int) < 1 := by omega
  have h2' : ¬ (40 : Int) < n := by omega
  have h3' : ¬ (120 : Int) < m := by omega
  have i0 : (0 : Int) ≤ n := by omega
  have i1 : (0 : Int) ≤ m := by omega
  have HL := hide hL
  have Hn := hide hn
  have Hm := hide hm
  have Hv := hide (hv.keep bA)
  have Hu := hide (hu.keep bA)
  have Hbox := hide hbox
  have HW0 := hide hW0
  have Hgl := hide (heap_lt hbox)
  have d0 := (cells_at hbox 0).1
  have d1 := (cells_at hbox 1).1
  simp at d0 d1
  have K22 := hide (fun (s : ByteArray) W => rname_any s W)
  have K20 : Hid (∀ (s : ByteArray) W, Below W0.heap.size W0 W → Calls Tryz.prog 127 #[.agg #[.slice a n c, .slice a' m c'], .string s] W fun e w' => e = .returned (.int .i64 ((firstAt ns s).getD (-1))) ∧ Below W.heap.size W w') := hide (fun s W h => by
    have := rfind_any a c (.slice a' m c') ns s W (by rw [Hn.out]; exact Hv.out.keep h) (by rw [Hn.out]; have := HL.out; omega) ⟨_, _, _, rfl⟩
    rw [Hn.out] at this
    exact this)
  obtain ⟨g, hg⟩ : ∃ g, w.heap.size = g := ⟨_, rfl⟩
  have Hg := hide hg
  have XB : Hid (∀ W, Below W0.heap.size W0 W → W.cell? ⟨g, 0, none⟩ = some (.slice a n c) ∧ W.cell? ⟨g, 1, none⟩ = some (.slice a' m c') ∧ Below w.heap.size w W) := hide (fun W h => by
    have hx : W.heap[g]? = some (.cells #[.slice a n c, .slice a' m c'] 25) := by rw [← Hg.out, h.block _ Hgl.out]; exact Hbox.out
    exact ⟨(cells_at hx 0).1, (cells_at hx 1).1, HA.out.trans (h.mono HA.out.size)⟩)
  clear hL noL hn hm hv hu hbox bA hW0 d0 d1
  go_enter Tryz.func55, Tryz.ntmps55
  go_wp2_with fail
  rw [HW0.out]
  try rw [hg]
  clear hg HW0
  go_loopw [28] (fun v28 wr => ∃ k : Nat, k ≤ n ∧ v28 = .int .i64 k ∧ Hid (Below W0.heap.size W0 wr) ∧ Hid (∀ q ∈ ns.take k, ndB q = true) ∧ Hid (((ns.take k).map (·.name)).Nodup)) (fun v28 _ => n - (intOf v28).toNat)
  case atStart => exact ⟨0, by omega, rfl, hide (Below.refl _ _), hide (by simp), hide (by simp)⟩
  case round =>
    obtain ⟨k, hk, rfl, HB, HG, HD⟩ := hrel
    by_cases hlt : k < n
    · obtain ⟨p, hp⟩ : ∃ p, ns[k]? = some p := ⟨_, List.getElem?_eq_getElem (by rw [Hn.out]; exact hlt)⟩
      obtain ⟨b, off, rfl, c0, c1, c2⟩ := nd_at (Hv.out.keep HB.out) k p hp
      obtain ⟨s, kd, z⟩ := p
      simp only at c0 c1 c2
      obtain ⟨x0, x1, _⟩ := XB.out _ HB.out
      have j0 : (0 : Int) ≤ (k : Int) := by omega
      have j1 : (k : Int) < (n : Int) := by omega
      obtain ⟨W1, hW1⟩ : ∃ W1, wr.alloc (.cells #[.string s, .int .i64 kd, .int .i64 z] 53) = W1 := ⟨_, rfl⟩
      have bB : Below wr.heap.size wr W1 := by rw [← hW1]; exact (Below.refl _ _).alloc (Nat.le_refl _) _
      have HB1 : Hid (Below W0.heap.size W0 W1) := hide (HB.out.trans (bB.mono HB.out.size))
      have hx1 : W1.heap[wr.heap.size]? = some (.cells #[.string s, .int .i64 kd, .int .i64 z] 53) := by rw [← hW1]; exact heap_new _ _
      obtain ⟨y0, y1, y2⟩ := XB.out _ HB1.out
      have f0 := (cells_at hx1 0).1
      have f1 := (cells_at hx1 1).1
      have f2 := (cells_at hx1 2).1
      simp at f0 f1 f2
      have Hy2 := hide y2
      have HW1 := hide hW1
      have n1 : Hid (ndB ⟨s, kd, z⟩ = false → res = false) := hide (no1.out k _ hp)
      have n2 : Hid (s ∈ (ns.take k).map (·.name) → res = false) := hide (no2.out k _ hp)
      have nB : Hid (ndB ⟨s, kd, z⟩ = (nameB s && decide (1 ≤ kd ∧ kd ≤ 4) && zoneB z)) := hide rfl
      have Hp := hide hp
      have K22' := hide (fun W => K22.out s W)
      have K20' := hide (fun W => K20.out s W)
      clear hp y2 bB hx1 hW1
      go_upto_region 7 with fail
      rw [HW1.out]
      clear HW1 c0 c1 c2 x0 x1
      cases hnm : nameB s with
      | false =>
        have e1 := n1.out (by rw [nB.out, hnm]; rfl)
        subst e1
        rw [hnm] at K22'
        go_wp2_with (go_at_call 126; refine (K22'.out _).mono ?_; rintro e W2 ⟨rfl, rfl⟩)
        go_ret
        exact ⟨rfl, Hy2.out⟩
      | true =>
        rw [hnm] at K22'
        by_cases k1 : kd < 1
        · have e1 := n1.out (by rw [nB.out, decide_eq_false (show ¬ (1 ≤ kd ∧ kd ≤ 4) by omega), Bool.and_false]; rfl)
          subst e1
          go_wp2_with (go_at_call 126; refine (K22'.out _).mono ?_; rintro e W2 ⟨rfl, rfl⟩)
          go_ret
          exact ⟨rfl, Hy2.out⟩
        by_cases k2 : 4 < kd
        · have e1 := n1.out (by rw [nB.out, decide_eq_false (show ¬ (1 ≤ kd ∧ kd ≤ 4) by omega), Bool.and_false]; rfl)
          subst e1
          go_wp2_with (go_at_call 126; refine (K22'.out _).mono ?_; rintro e W2 ⟨rfl, rfl⟩)
          go_ret
          exact ⟨rfl, Hy2.out⟩
        by_cases z1 : z < 0
        · have e1 := n1.out (by rw [nB.out, show zoneB z = false from decide_eq_false (by omega), Bool.and_false])
          subst e1
          go_wp2_with (go_at_call 126; refine (K22'.out _).mono ?_; rintro e W2 ⟨rfl, rfl⟩)
          go_ret
          exact ⟨rfl, Hy2.out⟩
        by_cases z2 : 7 < z
        · have e1 := n1.out (by rw [nB.out, show zoneB z = false from decide_eq_false (by omega), Bool.and_false])
          subst e1
          go_wp2_with (go_at_call 126; refine (K22'.out _).mono ?_; rintro e W2 ⟨rfl, rfl⟩)
          go_ret
          exact ⟨rfl, Hy2.out⟩
        have ok1 : Hid (ndB ⟨s, kd, z⟩ = true) := hide (by rw [nB.out, hnm, decide_eq_true (show 1 ≤ kd ∧ kd ≤ 4 by omega), show zoneB z = true from decide_eq_true (by omega)]; rfl)
        by_cases hdup : s ∈ (ns.take k).map (·.name)
        · have e1 := n2.out hdup
          subst e1
          have hf := first_dup hdup
          have hf' : ((firstAt ns s).getD (-1) != (k : Int)) = true := bne_iff_ne.2 (by omega)
          clear hdup hf
          generalize (firstAt ns s).getD (-1) = ff at *
          go_wp2_with (first
            | (go_at_call 126; refine (K22'.out _).mono ?_; rintro e W2 ⟨rfl, rfl⟩)
            | (go_at_call 127; refine (K20'.out _ HB1.out).mono ?_; rintro e W3 ⟨rfl, hb3⟩; have Hb3 := hide (Hy2.out.trans (hb3.mono Hy2.out.size)); clear hb3))
          go_ret
          exact ⟨rfl, Hb3.out⟩
        · have hf := first_self Hp.out hdup
          rw [show (⟨s, kd, z⟩ : Nd).name = s from rfl] at hf
          rw [hf] at K20'
          simp only [Option.getD_some] at K20'
          have HD1 := hide (take_nodup Hp.out HD.out hdup)
          have HG1 : Hid (∀ q ∈ ns.take (k + 1), ndB q = true) := hide (fun q hq => by
            rw [List.take_add_one, Hp.out] at hq
            simp at hq
            rcases hq with hq | rfl
            · exact HG.out q hq
            · exact ok1.out)
          clear hdup hf
          go_wp2_with (first
            | (go_at_call 126; refine (K22'.out _).mono ?_; rintro e W2 ⟨rfl, rfl⟩)
            | (go_at_call 127; refine (K20'.out _ HB1.out).mono ?_; rintro e W3 ⟨rfl, hb3⟩; have Hb3 := hide (HB1.out.trans (hb3.mono HB1.out.size)); clear hb3))
          go_roundw
          case rel => exact ⟨k + 1, by omega, by go_num, Hb3, HG1, HD1⟩
          case measure => simp [intOf]; omega
    · obtain rfl : k = n := by omega
      have j1 : ¬ (k : Int) < (k : Int) := by omega
      have et : ns.take k = ns := List.take_of_length_le (by rw [Hn.out]; omega)
      have HG0 : Hid (∀ q ∈ ns, ndB q = true) := hide (by rw [← et]; exact HG.out)
      have HD0 : Hid ((ns.map (·.name)).Nodup) := hide (by rw [← et]; exact HD.out)
      obtain ⟨x0, x1, _⟩ := XB.out _ HB.out
      clear et HG HD
      go_wp2_with fail
      obtain ⟨wA, rfl⟩ : ∃ W, W = wr := ⟨_, rfl⟩
      have HBA := hide HB.out
      clear x0 x1 HB
      go_loopw [72] (fun v72 wr => ∃ i : Nat, i ≤ m ∧ v72 = .int .i64 i ∧ Hid (Below W0.heap.size W0 wr) ∧ Hid (∀ q ∈ es.take i, edB ns q = true) ∧ Hid ((es.take i).Nodup)) (fun v72 _ => m - (intOf v72).toNat)
      case atStart => exact ⟨0, by omega, rfl, HBA, hide (by simp), hide (by simp)⟩
      case round =>
        obtain ⟨i, hi, rfl, HB, HG, HD⟩ := hrel
        by_cases hlt : i < m
        · obtain ⟨p, hp⟩ : ∃ p, es[i]? = some p := ⟨_, List.getElem?_eq_getElem (by rw [Hm.out]; exact hlt)⟩
          obtain ⟨b, off, rfl, c0, c1⟩ := ed_at (Hu.out.keep HB.out) i p hp
          obtain ⟨x, y⟩ := p
          simp only at c0 c1
          obtain ⟨x0, x1, _⟩ := XB.out _ HB.out
          have j2 : (0 : Int) ≤ (i : Int) := by omega
          have j3 : (i : Int) < (m : Int) := by omega
          have n3 : Hid (edB ns (x, y) = false → res = false) := hide (no3.out i _ hp)
          have n4 : Hid ((x, y) ∈ es.take i → res = false) := hide (no4.out i _ hp)
          have eB : Hid (edB ns (x, y) = (decide (0 ≤ x ∧ x < ns.length) && decide (0 ≤ y ∧ y < ns.length) && decide (x ≠ y) && (decide (kindAt ns x = 1) || decide (kindAt ns y = 1)))) := hide rfl
          have Hp := hide hp
          clear hp
          go_upto_region 13 with fail
          go_quiet (fail)
          have bq : Below W0.heap.size W0 (wr.drewN nq) := ⟨HB.out.os, HB.out.tape, HB.out.output, HB.out.size, HB.out.block⟩
          have HB2 := hide bq
          clear bq c0 c1 x0 x1 HB
          generalize wr.drewN nq = W2 at *
          obtain ⟨x0, x1, x2⟩ := XB.out _ HB2.out
          have Hx2 := hide x2
          clear x2
          have kn : (ns.length : Int) = (k : Int) := by rw [Hn.out]
          have HkN := hide kn
          clear kn
          by_cases a1 : x < 0
          · have e1 := n3.out (by rw [eB.out, decide_eq_false (show ¬ (0 ≤ x ∧ x < (ns.length : Int)) by omega)]; rfl)
            subst e1
            go_wp2_with fail
            go_ret
            exact ⟨rfl, Hx2.out⟩
          by_cases a2 : y < 0
          · have e1 := n3.out (by rw [eB.out, decide_eq_false (show ¬ (0 ≤ y ∧ y < (ns.length : Int)) by omega), Bool.and_false]; rfl)
            subst e1
            go_wp2_with fail
            go_ret
            exact ⟨rfl, Hx2.out⟩
          by_cases a3 : (k : Int) ≤ x
          · have e1 := n3.out (by rw [eB.out, decide_eq_false (show ¬ (0 ≤ x ∧ x < (ns.length : Int)) by have := HkN.out; omega)]; rfl)
            subst e1
            go_wp2_with fail
            go_ret
            exact ⟨rfl, Hx2.out⟩
          by_cases a4 : (k : Int) ≤ y
          · have e1 := n3.out (by rw [eB.out, decide_eq_false (show ¬ (0 ≤ y ∧ y < (ns.length : Int)) by have := HkN.out; omega), Bool.and_false]; rfl)
            subst e1
            go_wp2_with fail
            go_ret
            exact ⟨rfl, Hx2.out⟩
          by_cases a5 : x = y
          · have e1 := n3.out (by rw [eB.out, decide_eq_false (show ¬ x ≠ y by simpa using a5), Bool.and_false]; rfl)
            subst e1
            have ae : (x == y) = true := beq_iff_eq.2 a5
            clear a5
            go_wp2_with fail
            go_ret
            exact ⟨rfl, Hx2.out⟩
          have ae : (x == y) = false := beq_eq_false_iff_ne.2 a5
          obtain ⟨px, hpx⟩ : ∃ p, ns[x.toNat]? = some p := ⟨_, List.getElem?_eq_getElem (by rw [Hn.out]; omega)⟩
          obtain ⟨py, hpy⟩ : ∃ p, ns[y.toNat]? = some p := ⟨_, List.getElem?_eq_getElem (by rw [Hn.out]; omega)⟩
          obtain ⟨bn, on, en, _, u1, _⟩ := nd_at (Hv.out.keep HB2.out) x.toNat px hpx
          obtain ⟨bn', on', en', _, u2, _⟩ := nd_at (Hv.out.keep HB2.out) y.toNat py hpy
          rw [en] at en'
          cases en'
          subst en
          have kx : kindAt ns x = px.kind := by unfold kindAt; rw [hpx]; rfl
          have ky : kindAt ns y = py.kind := by unfold kindAt; rw [hpy]; rfl
          have eB2 : Hid (edB ns (x, y) = (decide (px.kind = 1) || decide (py.kind = 1))) := hide (by
            rw [eB.out, decide_eq_true (show 0 ≤ x ∧ x < (ns.length : Int) by have := HkN.out; omega), decide_eq_true (show 0 ≤ y ∧ y < (ns.length : Int) by have := HkN.out; omega), decide_eq_true (show x ≠ y from a5), kx, ky]; rfl)
          clear eB kx ky hpx hpy a5
          generalize px.kind = qx at *
          generalize py.kind = qy at *
          have b1 : (0 : Int) ≤ x := by omega
          have b2 : (0 : Int) ≤ y := by omega
          have b3 : x < (k : Int) := by omega
          have b4 : y < (k : Int) := by omega
          by_cases k1 : qx = 1 ∨ qy = 1
          · have ok1 : Hid (edB ns (x, y) = true) := hide (by rw [eB2.out]; rcases k1 with h | h <;> simp [h])
            have HG1 : Hid (∀ q ∈ es.take (i + 1), edB ns q = true) := hide (fun q hq => by
              rw [List.take_add_one, Hp.out] at hq
              simp at hq
              rcases hq with hq | rfl
              · exact HG.out q hq
              · exact ok1.out)
            have HD1 : Hid ((x, y) ∉ es.take i → (es.take (i + 1)).Nodup) := hide (take_nodupE Hp.out HD.out)
            by_cases k2 : qx = 1
            · have q1 : (qx != 1) = false := by rw [k2]; rfl
              clear k1 k2
              go_upto_region 18 with fail
              clear u1 u2
              go_wp2_with fail
              obtain ⟨wB, rfl⟩ : ∃ W, W = W2 := ⟨_, rfl⟩
              go_loopw [8] (fun v8 wr => ∃ j q : Nat, j ≤ i ∧ v8 = .int .i64 j ∧ wr = wB.drewN q ∧ Hid ((x, y) ∉ es.take j)) (fun v8 _ => i - (intOf v8).toNat)
              case atStart => exact ⟨0, 0, by omega, rfl, rfl, hide (by simp)⟩
              case round =>
                obtain ⟨j, q, hj, rfl, rfl, HX⟩ := hrel
                by_cases hjl : j < i
                · obtain ⟨p', hp'⟩ : ∃ p, es[j]? = some p := ⟨_, List.getElem?_eq_getElem (by rw [Hm.out]; omega)⟩
                  obtain ⟨b', off', e', c0, c1⟩ := ed_at (Hu.out.keep HB2.out) j p' hp'
                  cases e'
                  obtain ⟨_, _, e'', c2, c3⟩ := ed_at (Hu.out.keep HB2.out) i (x, y) Hp.out
                  cases e''
                  obtain ⟨px', py'⟩ := p'
                  simp only at c0 c1 c2 c3
                  have j4 : (0 : Int) ≤ (j : Int) := by omega
                  have j5 : (j : Int) < (m : Int) := by omega
                  have j6 : (j : Int) < (i : Int) := by omega
                  have heq := fun W => ed_equal W px' py' x y
                  have Hp' := hide hp'
                  clear hp'
                  by_cases he : (px', py') = (x, y)
                  · rw [decide_eq_true he] at heq
                    have e1 := n4.out (by rw [← he]; exact List.mem_of_getElem? (i := j) (by rw [List.getElem?_take_of_lt hjl]; exact Hp'.out))
                    subst e1
                    clear he
                    have fin : Hid (∀ r, Below w.heap.size w (wB.drewN r)) := hide (fun r => ⟨Hx2.out.os, Hx2.out.tape, Hx2.out.output, Hx2.out.size, Hx2.out.block⟩)
                    go_upto_region 21 with fail
                    go_quiet (fail)
                    go_wp2_with fail
                    go_ret
                    exact ⟨rfl, by first | exact fin.out _ | exact ⟨Hx2.out.os, Hx2.out.tape, Hx2.out.output, Hx2.out.size, Hx2.out.block⟩⟩
                  · rw [decide_eq_false he] at heq
                    have HX1 : Hid ((x, y) ∉ es.take (j + 1)) := hide (by
                      rw [List.take_add_one, Hp'.out]
                      simp only [Option.toList_some, List.mem_append, List.mem_singleton]
                      rintro (h | h)
                      · exact HX.out h
                      · exact he h.symm)
                    clear he
                    go_upto_region 21 with fail
                    go_quiet (fail)
                    go_wp2_with fail
                    go_roundw
                    case rel => exact ⟨j + 1, _, by omega, by go_num, rfl, HX1⟩
                    case measure => simp [intOf]; omega
                · obtain rfl : j = i := by omega
                  have j6 : ¬ (j : Int) < (j : Int) := by omega
                  have HD2 := hide (HD1.out HX.out)
                  have HB3 : Hid (Below W0.heap.size W0 (wB.drewN q)) := hide ⟨HB2.out.os, HB2.out.tape, HB2.out.output, HB2.out.size, HB2.out.block⟩
                  go_wp2_with fail
                  go_roundw
                  case rel => exact ⟨j + 1, by omega, by go_num, HB3, HG1, HD2⟩
                  case measure => simp [intOf]; omega
            · have q1 : (qx != 1) = true := bne_iff_ne.2 k2
              have q2 : (qy != 1) = false := by rw [show qy = 1 by omega]; rfl
              clear k1 k2
              go_upto_region 18 with fail
              clear u1 u2
              go_wp2_with fail
              obtain ⟨wB, rfl⟩ : ∃ W, W = W2 := ⟨_, rfl⟩
              go_loopw [8] (fun v8 wr => ∃ j q : Nat, j ≤ i ∧ v8 = .int .i64 j ∧ wr = wB.drewN q ∧ Hid ((x, y) ∉ es.take j)) (fun v8 _ => i - (intOf v8).toNat)
              case atStart => exact ⟨0, 0, by omega, rfl, rfl, hide (by simp)⟩
              case round =>
                obtain ⟨j, q, hj, rfl, rfl, HX⟩ := hrel
                by_cases hjl : j < i
                · obtain ⟨p', hp'⟩ : ∃ p, es[j]? = some p := ⟨_, List.getElem?_eq_getElem (by rw [Hm.out]; omega)⟩
                  obtain ⟨b', off', e', c0, c1⟩ := ed_at (Hu.out.keep HB2.out) j p' hp'
                  cases e'
                  obtain ⟨_, _, e'', c2, c3⟩ := ed_at (Hu.out.keep HB2.out) i (x, y) Hp.out
                  cases e''
                  obtain ⟨px', py'⟩ := p'
                  simp only at c0 c1 c2 c3
                  have j4 : (0 : Int) ≤ (j : Int) := by omega
                  have j5 : (j : Int) < (m : Int) := by omega
                  have j6 : (j : Int) < (i : Int) := by omega
                  have heq := fun W => ed_equal W px' py' x y
                  have Hp' := hide hp'
                  clear hp'
                  by_cases he : (px', py') = (x, y)
                  · rw [decide_eq_true he] at heq
                    have e1 := n4.out (by rw [← he]; exact List.mem_of_getElem? (i := j) (by rw [List.getElem?_take_of_lt hjl]; exact Hp'.out))
                    subst e1
                    clear he
                    have fin : Hid (∀ r, Below w.heap.size w (wB.drewN r)) := hide (fun r => ⟨Hx2.out.os, Hx2.out.tape, Hx2.out.output, Hx2.out.size, Hx2.out.block⟩)
                    go_upto_region 21 with fail
                    go_quiet (fail)
                    go_wp2_with fail
                    go_ret
                    exact ⟨rfl, by first | exact fin.out _ | exact ⟨Hx2.out.os, Hx2.out.tape, Hx2.out.output, Hx2.out.size, Hx2.out.block⟩⟩
                  · rw [decide_eq_false he] at heq
                    have HX1 : Hid ((x, y) ∉ es.take (j + 1)) := hide (by
                      rw [List.take_add_one, Hp'.out]
                      simp only [Option.toList_some, List.mem_append, List.mem_singleton]
                      rintro (h | h)
                      · exact HX.out h
                      · exact he h.symm)
                    clear he
                    go_upto_region 21 with fail
                    go_quiet (fail)
                    go_wp2_with fail
                    go_roundw
                    case rel => exact ⟨j + 1, _, by omega, by go_num, rfl, HX1⟩
                    case measure => simp [intOf]; omega
                · obtain rfl : j = i := by omega
                  have j6 : ¬ (j : Int) < (j : Int) := by omega
                  have HD2 := hide (HD1.out HX.out)
                  have HB3 : Hid (Below W0.heap.size W0 (wB.drewN q)) := hide ⟨HB2.out.os, HB2.out.tape, HB2.out.output, HB2.out.size, HB2.out.block⟩
                  go_wp2_with fail
                  go_roundw
                  case rel => exact ⟨j + 1, by omega, by go_num, HB3, HG1, HD2⟩
                  case measure => simp [intOf]; omega
          · have e1 := n3.out (by rw [eB2.out]; simp; omega)
            subst e1
            have q1 : (qx != 1) = true := bne_iff_ne.2 (by omega)
            have q2 : (qy != 1) = true := bne_iff_ne.2 (by omega)
            clear k1
            go_wp2_with fail
            go_ret
            exact ⟨rfl, Hx2.out⟩
        · obtain rfl : i = m := by omega
          have j2 : ¬ (i : Int) < (i : Int) := by omega
          have et : es.take i = es := List.take_of_length_le (by rw [Hm.out]; omega)
          have e1 := yes.out (by have := HL.out; omega) (by have := HL.out; omega) (by have := HL.out; omega) HG0.out HD0.out (by rw [← et]; exact HG.out) (by rw [← et]; exact HD.out)
          subst e1
          have Hfin := hide (XB.out _ HB.out).2.2
          go_wp2_with fail
          go_ret
          exact ⟨rfl, Hfin.out⟩
end Go.Proofs.YtocmngpoemfpkaaGreatDoor
