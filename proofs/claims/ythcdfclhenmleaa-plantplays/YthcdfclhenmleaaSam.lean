/- The document's Same. -/
import Derived.Test.YthcdfclhenmleaaLyb
namespace Go.Proofs.Ythcdfclhenmleaa
open Go.RowKit
set_option linter.unusedVariables false

theorem nd_equal (w : World) (a b : Nd) : (Op.equalIn 10000 67 (.agg #[.string a.name, .int .i64 a.kind, .int .i64 a.zone]) (.agg #[.string b.name, .int .i64 b.kind, .int .i64 b.zone])).run Try.prog w = .ok (decide (a = b)) w := by
  obtain ⟨s, k, z⟩ := a
  obtain ⟨s', k', z'⟩ := b
  have hu : Try.prog.underlying 67 = some (.struct (Try.prog.fieldsOf 67)) := by kernel_rfl
  have hp : Try.prog.stoodInHeld 67 = false := by kernel_rfl
  rw [show (10000 : Nat) = 9998 + 1 + 1 from rfl, run_equalIn_struct w (9998 + 1) 67 _ _ hu hp]
  have hf : (Try.prog.fieldsOf 67).toList.map (fun f => (f.name == "_", f.type, f.offset)) = [(false, 9, 0), (false, 3, 1), (false, 3, 2)] := by kernel_rfl
  have p3 : ∀ (xs : Array Value) (j : Nat) (v : Value), xs[j]? = some v → (part 3 xs j).run Try.prog w = .ok v w := fun xs j v h => by
    have ag : (isAgg 3).run Try.prog w = .ok false w := by kernel_rfl
    simp [part, ag, h]
  have p9 : ∀ (xs : Array Value) (j : Nat) (v : Value), xs[j]? = some v → (part 9 xs j).run Try.prog w = .ok v w := fun xs j v h => by
    have ag : (isAgg 9).run Try.prog w = .ok false w := by kernel_rfl
    simp [part, ag, h]
  obtain ⟨fs, hfs⟩ : ∃ fs, (Try.prog.fieldsOf 67).toList = fs := ⟨_, rfl⟩
  rw [hfs] at hf ⊢
  have hl3 : fs.length = 3 := by have := congrArg List.length hf; simpa using this
  match fs, hl3 with
  | [f0, f1, f2], _ =>
    simp only [List.map_cons, List.map_nil, List.cons.injEq, Prod.mk.injEq, and_true] at hf
    obtain ⟨⟨n0, t0, o0⟩, ⟨n1, t1, o1⟩, ⟨n2, t2, o2⟩⟩ := hf
    have m0 : f0.name ≠ "_" := by simpa using n0
    have m1 : f1.name ≠ "_" := by simpa using n1
    have m2 : f2.name ≠ "_" := by simpa using n2
    rw [Op.eqFields, if_pos m0, t0, o0]
    simp only [Sem.run_bind]
    rw [p9 _ 0 (.string s) rfl]
    simp only [Result.andThen_ok]
    rw [p9 _ 0 (.string s') rfl]
    simp only [Result.andThen_ok, run_equalIn_string w 9998 9 s s' Try.underlying9]
    rw [eq_bytes]
    by_cases h1 : s = s'
    · subst h1
      simp only [decide_true, Bool.not_true, Bool.false_eq_true, if_false]
      rw [Op.eqFields, if_pos m1, t1, o1]
      simp only [Sem.run_bind]
      rw [p3 _ 1 (.int .i64 k) rfl]
      simp only [Result.andThen_ok]
      rw [p3 _ 1 (.int .i64 k') rfl]
      simp only [Result.andThen_ok, run_equalIn_int w 9998 3 .i64 .i64 k k' Try.underlying3]
      by_cases h2 : k = k'
      · subst h2
        simp only [beq_self_eq_true, Bool.not_true, Bool.false_eq_true, if_false]
        rw [Op.eqFields, if_pos m2, t2, o2]
        simp only [Sem.run_bind]
        rw [p3 _ 2 (.int .i64 z) rfl]
        simp only [Result.andThen_ok]
        rw [p3 _ 2 (.int .i64 z') rfl]
        simp only [Result.andThen_ok, run_equalIn_int w 9998 3 .i64 .i64 z z' Try.underlying3]
        by_cases h3 : z = z'
        · subst h3; simp [Op.eqFields]
        · simp [h3]
      · simp [h2]
    · simp [h1]

set_option maxRecDepth 100000 in
set_option maxHeartbeats 4000000 in
theorem rsame_any (a a' b b' : Option Addr) (c c' d d' : Nat) (ns ns' : List Nd) (es es' : List Ed) (w : World) (hv : ndE.Rd w (.slice a ns.length c) ns) (hu : edE.Rd w (.slice a' es.length c') es) (hv' : ndE.Rd w (.slice b ns'.length d) ns') (hu' : edE.Rd w (.slice b' es'.length d') es') (hl : ns.length ≤ 100000) (hl' : es.length ≤ 100000) :
    Calls Try.prog 14 #[.agg #[.slice a ns.length c, .slice a' es.length c'], .agg #[.slice b ns'.length d, .slice b' es'.length d']] w fun e w' => e = .returned (.bool (decide (ns = ns' ∧ es = es'))) ∧ Below w.heap.size w w' := by
  obtain ⟨n, hn⟩ : ∃ n, ns.length = n := ⟨_, rfl⟩
  obtain ⟨m, hm⟩ : ∃ m, es.length = m := ⟨_, rfl⟩
  obtain ⟨n', hn'⟩ : ∃ n', ns'.length = n' := ⟨_, rfl⟩
  obtain ⟨m', hm'⟩ : ∃ m', es'.length = m' := ⟨_, rfl⟩
  rw [hn] at hv hl ⊢
  rw [hm] at hu hl' ⊢
  rw [hn'] at hv' ⊢
  rw [hm'] at hu' ⊢
  obtain ⟨W0, hW0⟩ : ∃ W0, (w.alloc (.cells #[.slice a n c, .slice a' m c'] 25)).alloc (.cells #[.slice b n' d, .slice b' m' d'] 25) = W0 := ⟨_, rfl⟩
  have bA : Below w.heap.size w W0 := by rw [← hW0]; exact ((Below.refl _ _).alloc (Nat.le_refl _) _).alloc (by simp) _
  have x1 : W0.heap[w.heap.size]? = some (.cells #[.slice a n c, .slice a' m c'] 25) := by rw [← hW0, Below.heap_alloc _ _ _ (by simp)]; exact heap_new _ _
  have x2 : W0.heap[w.heap.size + 1]? = some (.cells #[.slice b n' d, .slice b' m' d'] 25) := by
    rw [← hW0]
    have := heap_new (w.alloc (.cells #[.slice a n c, .slice a' m c'] 25)) (.cells #[.slice b n' d, .slice b' m' d'] 25)
    rwa [show (w.alloc (.cells #[.slice a n c, .slice a' m c'] 25)).heap.size = w.heap.size + 1 by simp] at this
  have HA := hide bA
  have no1 : Hid ((n ≠ n' ∨ m ≠ m') → decide (ns = ns' ∧ es = es') = false) := hide (fun h => decide_eq_false (fun e => by
    rcases h with h | h
    · exact h (by rw [← hn, ← hn', e.1])
    · exact h (by rw [← hm, ← hm', e.2])))
  have no2 : Hid (∀ (k : Nat) (p q : Nd), ns[k]? = some p → ns'[k]? = some q → p ≠ q → decide (ns = ns' ∧ es = es') = false) := hide (fun k p q h1 h2 h3 => decide_eq_false (fun e => h3 (by rw [e.1, h2] at h1; exact (Option.some.inj h1).symm)))
  have no3 : Hid (∀ (k : Nat) (p q : Ed), es[k]? = some p → es'[k]? = some q → p ≠ q → decide (ns = ns' ∧ es = es') = false) := hide (fun k p q h1 h2 h3 => decide_eq_false (fun e => h3 (by rw [e.2, h2] at h1; exact (Option.some.inj h1).symm)))
  have yes : Hid (n = n' → m = m' → ns.take n = ns'.take n → es.take m = es'.take m → decide (ns = ns' ∧ es = es') = true) := hide (fun h1 h2 h3 h4 => decide_eq_true ⟨by rwa [List.take_of_length_le (by omega), List.take_of_length_le (by omega)] at h3, by rwa [List.take_of_length_le (by omega), List.take_of_length_le (by omega)] at h4⟩)
  generalize decide (ns = ns' ∧ es = es') = res at *
  have d0 := (cells_at x1 0).1
  have d1 := (cells_at x1 1).1
  have d2 := (cells_at x2 0).1
  have d3 := (cells_at x2 1).1
  simp at d0 d1 d2 d3
  by_cases hnn' : n ≠ n'
  · have hnn : ¬ n = n' := hnn'
    have e1 := no1.out (.inl hnn)
    subst e1
    have q1 : ((n : Int) != (n' : Int)) = true := bne_iff_ne.2 (by omega)
    clear no1 no2 no3 yes hv hu hv' hu' hn hm hn' hm' hnn hnn' x1 x2
    subst hW0
    go_enter Try.func14, Try.ntmps14
    go_wp2_with fail
    go_ret
    exact ⟨rfl, HA.out⟩
  have hnn : n = n' := Decidable.not_not.1 hnn'
  by_cases hmm' : m ≠ m'
  · have hmm : ¬ m = m' := hmm'
    have e1 := no1.out (.inr hmm)
    subst e1
    have q1 : ((n : Int) != (n' : Int)) = false := by rw [hnn]; exact bne_self_eq_false _
    have q2 : ((m : Int) != (m' : Int)) = true := bne_iff_ne.2 (by omega)
    clear no1 no2 no3 yes hv hu hv' hu' hn hm hn' hm' hnn hnn' hmm hmm' x1 x2
    subst hW0
    go_enter Try.func14, Try.ntmps14
    go_wp2_with fail
    go_ret
    exact ⟨rfl, HA.out⟩
  have hmm : m = m' := Decidable.not_not.1 hmm'
  clear hnn' hmm'
  subst hnn
  subst hmm
  have Hn := hide hn
  have Hm := hide hm
  have Hn' := hide hn'
  have Hm' := hide hm'
  have Hv := hide (hv.keep bA)
  have Hu := hide (hu.keep bA)
  have Hv' := hide (hv'.keep bA)
  have Hu' := hide (hu'.keep bA)
  have HW0 := hide hW0
  have i0 : (n : Int) ≤ 100000 := by omega
  have i1 : (m : Int) ≤ 100000 := by omega
  clear hn hm hn' hm' hv hu hv' hu' hl hl' bA hW0 x1 x2 no1
  go_enter Try.func14, Try.ntmps14
  go_wp2_with fail
  rw [HW0.out]
  clear HW0
  go_loopw [26] (fun v26 wr => ∃ k q : Nat, k ≤ n ∧ v26 = .int .i64 k ∧ wr = W0.drewN q ∧ Hid (ns.take k = ns'.take k)) (fun v26 _ => n - (intOf v26).toNat)
  case atStart => exact ⟨0, 0, by omega, rfl, rfl, hide (by simp)⟩
  case round =>
    obtain ⟨k, q, hk, rfl, rfl, HX⟩ := hrel
    have fin : Hid (∀ r, Below w.heap.size w (W0.drewN r)) := hide (fun r => ⟨HA.out.os, HA.out.tape, HA.out.output, HA.out.size, HA.out.block⟩)
    by_cases hlt : k < n
    · obtain ⟨p, hp⟩ : ∃ p, ns[k]? = some p := ⟨_, List.getElem?_eq_getElem (by rw [Hn.out]; exact hlt)⟩
      obtain ⟨p', hp'⟩ : ∃ p, ns'[k]? = some p := ⟨_, List.getElem?_eq_getElem (by rw [Hn'.out]; exact hlt)⟩
      obtain ⟨b1, off1, rfl, c0, c1, c2⟩ := nd_at Hv.out k p hp
      obtain ⟨b2, off2, rfl, c3, c4, c5⟩ := nd_at Hv'.out k p' hp'
      have j0 : (0 : Int) ≤ (k : Int) := by omega
      have j1 : (k : Int) < (n : Int) := by omega
      have heq := fun W => nd_equal W p p'
      have Hp := hide hp
      have Hp' := hide hp'
      clear hp hp'
      by_cases he : p = p'
      · rw [decide_eq_true he] at heq
        have HX1 : Hid (ns.take (k + 1) = ns'.take (k + 1)) := hide (by rw [List.take_add_one, List.take_add_one, HX.out, Hp.out, Hp'.out, he])
        clear he
        go_upto_region 6 with fail
        go_quiet (fail)
        go_wp2_with fail
        go_roundw
        case rel => exact ⟨k + 1, _, by omega, by go_num, rfl, HX1⟩
        case measure => simp [intOf]; omega
      · rw [decide_eq_false he] at heq
        have e1 := no2.out k p p' Hp.out Hp'.out he
        subst e1
        clear he
        go_upto_region 6 with fail
        go_quiet (fail)
        go_wp2_with fail
        go_ret
        exact ⟨rfl, by first | exact fin.out _ | exact ⟨HA.out.os, HA.out.tape, HA.out.output, HA.out.size, HA.out.block⟩⟩
    · obtain rfl : k = n := by omega
      have j1 : ¬ (k : Int) < (k : Int) := by omega
      have HXN := hide HX.out
      clear HX
      go_wp2_with fail
      go_loopw [44] (fun v44 wr => ∃ i r : Nat, i ≤ m ∧ v44 = .int .i64 i ∧ wr = W0.drewN r ∧ Hid (es.take i = es'.take i)) (fun v44 _ => m - (intOf v44).toNat)
      case atStart => exact ⟨0, q, by omega, rfl, rfl, hide (by simp)⟩
      case round =>
        obtain ⟨i, r, hi, rfl, rfl, HX⟩ := hrel
        by_cases hlt : i < m
        · obtain ⟨p, hp⟩ : ∃ p, es[i]? = some p := ⟨_, List.getElem?_eq_getElem (by rw [Hm.out]; exact hlt)⟩
          obtain ⟨p', hp'⟩ : ∃ p, es'[i]? = some p := ⟨_, List.getElem?_eq_getElem (by rw [Hm'.out]; exact hlt)⟩
          obtain ⟨b1, off1, rfl, c0, c1⟩ := ed_at Hu.out i p hp
          obtain ⟨b2, off2, rfl, c3, c4⟩ := ed_at Hu'.out i p' hp'
          have j0 : (0 : Int) ≤ (i : Int) := by omega
          have j2 : (i : Int) < (m : Int) := by omega
          have heq := fun W => ed_equal W p.1 p.2 p'.1 p'.2
          have Hp := hide hp
          have Hp' := hide hp'
          clear hp hp'
          by_cases he : p = p'
          · rw [decide_eq_true (show (p.1, p.2) = (p'.1, p'.2) by rw [he])] at heq
            have HX1 : Hid (es.take (i + 1) = es'.take (i + 1)) := hide (by rw [List.take_add_one, List.take_add_one, HX.out, Hp.out, Hp'.out, he])
            clear he
            go_upto_region 12 with fail
            go_quiet (fail)
            go_wp2_with fail
            go_roundw
            case rel => exact ⟨i + 1, _, by omega, by go_num, rfl, HX1⟩
            case measure => simp [intOf]; omega
          · rw [decide_eq_false (show ¬ (p.1, p.2) = (p'.1, p'.2) from he)] at heq
            have e1 := no3.out i p p' Hp.out Hp'.out he
            subst e1
            clear he
            go_upto_region 12 with fail
            go_quiet (fail)
            go_wp2_with fail
            go_ret
            exact ⟨rfl, by first | exact fin.out _ | exact ⟨HA.out.os, HA.out.tape, HA.out.output, HA.out.size, HA.out.block⟩⟩
        · obtain rfl : i = m := by omega
          have j2 : ¬ (i : Int) < (i : Int) := by omega
          have e1 := yes.out (by first | rfl | trivial) (by first | rfl | trivial) HXN.out HX.out
          subst e1
          go_wp2_with fail
          go_ret
          exact ⟨rfl, by first | exact fin.out _ | exact ⟨HA.out.os, HA.out.tape, HA.out.output, HA.out.size, HA.out.block⟩⟩
end Go.Proofs.Ythcdfclhenmleaa
