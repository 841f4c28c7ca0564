/- ControlOrders: texts Edg. -/
import Derived.ChangeKeysEq
import Derived.Test.YtocmngpoemfpkaaGreatDoorControlOrdersAA
import Derived.Test.YtocmngpoemfpkaaGreatDoorControlOrdersAC
namespace Go.Proofs.YtocmngpoemfpkaaGreatDoor
open Go.RowKit
set_option linter.unusedVariables false
set_option maxRecDepth 100000 in
set_option maxHeartbeats 1000000 in
theorem isEdge_any (a : Option Addr) (c : Nat) (ns : List Nd) (x y : Int) (w : World) (hv : ndE.Rd w (.slice a ns.length c) ns) :
    Calls Tryz.prog 167 #[.slice a ns.length c, .agg #[.int .i64 x, .int .i64 y]] w fun e w' => e = .returned (.bool (edB ns (x, y))) ∧ Below w.heap.size w w' := by
  have fin : Hid (∀ q, Below w.heap.size w ((w.alloc (.cells #[.int .i64 x, .int .i64 y] 78)).drewN q)) := hide (fun q => by
    have b := (Below.refl w.heap.size w).alloc (Nat.le_refl _) (.cells #[.int .i64 x, .int .i64 y] 78)
    exact ⟨b.os, b.tape, b.output, b.size, b.block⟩)
  have cells : Hid (∀ (z : Int), 0 ≤ z → z < ns.length → ∃ b off, a = some ⟨b, off, none⟩ ∧ ∀ q, ((w.alloc (.cells #[.int .i64 x, .int .i64 y] 78)).drewN q).cell? ⟨b, off + z.toNat * 3 + 1, none⟩ = some (.int .i64 (kindAt ns z))) := hide (fun z h0 h1 => by
    obtain ⟨p, hp⟩ : ∃ p, ns[z.toNat]? = some p := ⟨_, List.getElem?_eq_getElem (by omega)⟩
    obtain ⟨b, off, e1, _, e2, _⟩ := nd_at hv z.toNat p hp
    refine ⟨b, off, e1, fun q => ?_⟩
    have : kindAt ns z = p.kind := by unfold kindAt; rw [hp]; rfl
    rw [this, (fin.out q).cell (cell_lt e2)]; exact e2)
  have K33 := hide (fun i W => isPlace_any a ns.length c i W)
  have eB : edB ns (x, y) = (decide (0 ≤ x ∧ x < ns.length) && decide (0 ≤ y ∧ y < ns.length) && decide (x ≠ y) && (decide (kindAt ns x = 1) || decide (kindAt ns y = 1))) := rfl
  rw [eB]
  clear eB hv
  by_cases hx : 0 ≤ x ∧ x < ns.length
  · by_cases hy : 0 ≤ y ∧ y < ns.length
    · by_cases hxy : x = y
      · subst hxy
        rw [decide_eq_false (show ¬ x ≠ x by simp), Bool.and_false, Bool.false_and]
        have tt : decide (0 ≤ x ∧ x < (ns.length : Int)) = true := decide_eq_true hx
        clear hx hy
        generalize ns.length = n at *
        go_enter Tryz.func167, Tryz.ntmps167
        go_upto_region 1 with fail
        go_quiet (fail)
        go_wp2_with (go_at_call 210; refine (K33.out _ _).mono ?_; rintro e W1 ⟨rfl, rfl⟩; rw [tt])
        go_ret
        exact ⟨rfl, fin.out _⟩
      · rw [decide_eq_true hx, decide_eq_true hy, decide_eq_true (show x ≠ y from hxy), Bool.and_self, Bool.true_and]
        obtain ⟨b, off, rfl, cx⟩ := cells.out x hx.1 hx.2
        obtain ⟨b', off', e', cy⟩ := cells.out y hy.1 hy.2
        simp only [Option.some.injEq, Addr.mk.injEq] at e'
        obtain ⟨rfl, rfl, _⟩ := e'
        have tx : decide (0 ≤ x ∧ x < (ns.length : Int)) = true := decide_eq_true hx
        have ty : decide (0 ≤ y ∧ y < (ns.length : Int)) = true := decide_eq_true hy
        obtain ⟨x0, x1⟩ := hx
        obtain ⟨y0, y1⟩ := hy
        generalize kindAt ns x = kx at *
        generalize kindAt ns y = ky at *
        generalize ns.length = n at *
        have Cx := hide cx
        have Cy := hide cy
        clear cells cx cy
        by_cases k1 : kx = 1
        · subst k1
          go_enter Tryz.func167, Tryz.ntmps167
          go_upto_region 1 with fail
          go_quiet (fail)
          have cx := Cx.out nq
          have cy := Cy.out nq
          go_wp2_with (go_at_call 210; refine (K33.out _ _).mono ?_; rintro e W1 ⟨rfl, rfl⟩; first | rw [tx] | rw [ty])
          go_ret
          exact ⟨rfl, fin.out _⟩
        · rw [decide_eq_false k1, Bool.false_or]
          go_enter Tryz.func167, Tryz.ntmps167
          go_upto_region 1 with fail
          go_quiet (fail)
          have cx := Cx.out nq
          have cy := Cy.out nq
          go_wp2_with (go_at_call 210; refine (K33.out _ _).mono ?_; rintro e W1 ⟨rfl, rfl⟩; first | rw [tx] | rw [ty])
          go_ret
          refine ⟨?_, fin.out _⟩
          simp
          by_cases k2 : ky = 1 <;> simp [k1, k2]
    · have tx : decide (0 ≤ x ∧ x < (ns.length : Int)) = true := decide_eq_true hx
      have ty : decide (0 ≤ y ∧ y < (ns.length : Int)) = false := decide_eq_false hy
      rw [tx, ty]
      clear hx hy cells
      generalize ns.length = n at *
      go_enter Tryz.func167, Tryz.ntmps167
      go_upto_region 1 with fail
      go_quiet (fail)
      go_wp2_with (go_at_call 210; refine (K33.out _ _).mono ?_; rintro e W1 ⟨rfl, rfl⟩; first | rw [tx] | rw [ty])
      go_ret
      exact ⟨rfl, fin.out _⟩
  · have tx : decide (0 ≤ x ∧ x < (ns.length : Int)) = false := decide_eq_false hx
    rw [tx]
    clear hx cells
    generalize ns.length = n at *
    go_enter Tryz.func167, Tryz.ntmps167
    go_upto_region 1 with fail
    go_quiet (fail)
    go_wp2_with (go_at_call 210; refine (K33.out _ _).mono ?_; rintro e W1 ⟨rfl, rfl⟩; rw [tx])
    go_ret
    exact ⟨rfl, fin.out _⟩
set_option maxRecDepth 100000 in
set_option maxHeartbeats 1000000 in
theorem index_any (a : Option Addr) (c : Nat) (es : List Ed) (x y : Int) (w : World) (hv : edE.Rd w (.slice a es.length c) es) (hl : es.length ≤ 100000) :
    Calls Tryz.prog 211 #[.slice a es.length c, .agg #[.int .i64 x, .int .i64 y]] w fun e w' => (∃ r : Int, e = .returned (.int .i64 r) ∧ (0 ≤ r ↔ (x, y) ∈ es)) ∧ Below w.heap.size w w' := by
  obtain ⟨n, hn⟩ : ∃ n, es.length = n := ⟨_, rfl⟩
  rw [hn] at hv hl ⊢
  obtain ⟨W0, hW0⟩ : ∃ W0, w.alloc (.cells #[.int .i64 x, .int .i64 y] 78) = W0 := ⟨_, rfl⟩
  have bA : Below w.heap.size w W0 := by rw [← hW0]; exact (Below.refl _ _).alloc (Nat.le_refl _) _
  have hbox : W0.heap[w.heap.size]? = some (.cells #[.int .i64 x, .int .i64 y] 78) := by rw [← hW0]; exact heap_new _ _
  have Hbox := hide hbox
  have HA := hide bA
  have Hv := hide (hv.keep bA)
  have Hn := hide hn
  have HW0 := hide hW0
  clear hW0
  have i0 : (n : Int) ≤ 100000 := by omega
  have i1 : (0 : Int) ≤ (n : Int) := by omega
  clear hn hv hl hbox bA
  go_enter Tryz.func211, Tryz.ntmps211
  go_wp2_with fail
  rw [HW0.out]
  clear HW0
  go_loopw [8] (fun v8 wr => ∃ k q : Nat, k ≤ n ∧ v8 = .int .i64 k ∧ wr = W0.drewN q ∧ Hid ((x, y) ∉ es.take k)) (fun v8 _ => n - (intOf v8).toNat)
  case atStart => exact ⟨0, 0, by omega, rfl, rfl, hide (by simp)⟩
  case round =>
    obtain ⟨k, q, hk, rfl, rfl, HX⟩ := hrel
    have bq : Below w.heap.size w (W0.drewN q) := ⟨HA.out.os, HA.out.tape, HA.out.output, HA.out.size, HA.out.block⟩
    have Hbq := hide bq
    clear bq
    by_cases hlt : k < n
    · obtain ⟨p, hp⟩ : ∃ p, es[k]? = some p := ⟨_, List.getElem?_eq_getElem (by rw [Hn.out]; exact hlt)⟩
      obtain ⟨b, off, rfl, c0, c1⟩ := ed_at Hv.out k p hp
      have d0 := (cells_at Hbox.out 0).1
      have d1 := (cells_at Hbox.out 1).1
      simp at d0 d1
      have j0 : (0 : Int) ≤ (k : Int) := by omega
      have j1 : (k : Int) < (n : Int) := by omega
      obtain ⟨px, py⟩ := p
      have heq := fun W => ed_equal W x y px py
      have Hp := hide hp
      clear hp
      simp only at c0 c1
      by_cases he : (x, y) = (px, py)
      · rw [decide_eq_true he] at heq
        have hin : Hid ((x, y) ∈ es) := hide (by rw [he]; exact List.mem_of_getElem? Hp.out)
        clear he
        go_upto_region 4 with fail
        go_quiet (fail)
        go_wp2_with fail
        go_ret
        exact ⟨⟨_, rfl, fun _ => hin.out, fun _ => by omega⟩, ⟨HA.out.os, HA.out.tape, HA.out.output, HA.out.size, HA.out.block⟩⟩
      · rw [decide_eq_false he] at heq
        have HX1 : Hid ((x, y) ∉ es.take (k + 1)) := hide (by
          rw [List.take_add_one, Hp.out]
          simp only [Option.toList_some, List.mem_append, List.mem_singleton]
          rintro (h | h)
          · exact HX.out h
          · exact he h)
        clear he
        go_upto_region 4 with fail
        go_quiet (fail)
        go_wp2_with fail
        go_roundw
        case rel => exact ⟨k + 1, _, by omega, by go_num, rfl, HX1⟩
        case measure => simp [intOf]; omega
    · have j1 : ¬ (k : Int) < (n : Int) := by omega
      have hX : Hid ((x, y) ∉ es) := hide (by have := HX.out; rwa [List.take_of_length_le (by rw [Hn.out]; omega)] at this)
      go_wp2_with fail
      go_ret
      exact ⟨⟨_, rfl, fun h => by omega, fun h => absurd h hX.out⟩, Hbq.out⟩
set_option maxHeartbeats 1000000 in
theorem contains_any (a : Option Addr) (c n : Nat) (es : List Ed) (hn : n = es.length) (x y : Int) (w : World) (hv : edE.Rd w (.slice a n c) es) (hl : es.length ≤ 100000) :
    Calls Tryz.prog 168 #[.slice a n c, .agg #[.int .i64 x, .int .i64 y]] w fun e w' => e = .returned (.bool (decide ((x, y) ∈ es))) ∧ Below w.heap.size w w' := by
  subst hn
  have bA : Below w.heap.size w (w.alloc (.cells #[.int .i64 x, .int .i64 y] 78)) := (Below.refl _ _).alloc (Nat.le_refl _) _
  have K52 := hide (index_any a c es x y _ (hv.keep bA) hl)
  have HA := hide bA
  generalize es.length = n at *
  clear bA hv hl
  go_enter Tryz.func168, Tryz.ntmps168
  go_wp2_with (go_at_call 211; refine (K52.out).mono ?_; rintro e W1 ⟨⟨r, rfl, hr⟩, hb1⟩; have Hr := hide hr; have Hb1 := hide hb1; clear hr hb1)
  go_ret
  refine ⟨?_, HA.out.trans (Hb1.out.mono HA.out.size)⟩
  congr 2
  simp
  exact Hr.out
set_option maxRecDepth 100000 in
set_option maxHeartbeats 1000000 in
theorem edgesFit_any (a a' : Option Addr) (c c' : Nat) (ns : List Nd) (es : List Ed) (w : World) (hv : ndE.Rd w (.slice a ns.length c) ns) (hu : edE.Rd w (.slice a' es.length c') es) (hcap : es.length ≤ c') :
    Calls Tryz.prog 109 #[.agg #[.slice a ns.length c, .slice a' es.length c']] w fun e w' => e = .returned (.bool (goodE ns es)) ∧ Below w.heap.size w w' := by
  obtain ⟨n, hn⟩ : ∃ n, ns.length = n := ⟨_, rfl⟩
  obtain ⟨m, hm⟩ : ∃ m, es.length = m := ⟨_, rfl⟩
  rw [hn] at hv ⊢
  rw [hm] at hu hcap ⊢
  obtain ⟨W0, hW0⟩ : ∃ W0, w.alloc (.cells #[.slice a n c, .slice a' m c'] 25) = W0 := ⟨_, rfl⟩
  have bA : Below w.heap.size w W0 := by rw [← hW0]; exact (Below.refl _ _).alloc (Nat.le_refl _) _
  have hbox : W0.heap[w.heap.size]? = some (.cells #[.slice a n c, .slice a' m c'] 25) := by rw [← hW0]; exact heap_new _ _
  by_cases h1 : 120 < m
  · have e1 : goodE ns es = false := by unfold goodE; exact decide_eq_false (by omega)
    rw [e1]
    have h1' : (120 : Int) < m := by omega
    clear hn hm hv hu hbox hcap
    go_enter Tryz.func109, Tryz.ntmps109
    subst hW0
    go_wp2_with fail
    go_ret
    exact ⟨rfl, bA⟩
  have h1' : ¬ (120 : Int) < m := by omega
  have i1 : (0 : Int) ≤ (m : Int) := by omega
  have yes : Hid ((∀ e ∈ es, edB ns e = true) → es.Nodup → goodE ns es = true) := hide (fun u v => by
    unfold goodE; exact decide_eq_true ⟨by omega, u, v⟩)
  have no1 : Hid (∀ k p, es[k]? = some p → p ∈ es.take k → goodE ns es = false) := hide (fun k p => edge_dup)
  have no2 : Hid (∀ k p, es[k]? = some p → edB ns p = false → goodE ns es = false) := hide (fun k p => edge_bad)
  generalize goodE ns es = res at *
  have Hn := hide hn
  have Hm := hide hm
  have Hv := hide (hv.keep bA)
  have Hu := hide (hu.keep bA)
  have Hbox := hide hbox
  have HA := hide bA
  have Hlen := hide h1
  have HW0 := hide hW0
  clear hW0
  have Hgl : Hid (w.heap.size < W0.heap.size) := hide (heap_lt hbox)
  have q0 : ∀ k : Nat, k < m → (k : Int) ≤ (c' : Int) := fun k hk => by omega
  have Hq := hide q0
  clear hn hm hv hu hbox bA h1 hcap q0
  go_enter Tryz.func109, Tryz.ntmps109
  go_wp2_with fail
  rw [HW0.out]
  clear HW0
  obtain ⟨g, hg⟩ : ∃ g, w.heap.size = g := ⟨_, rfl⟩
  rw [hg] at Hbox Hgl ⊢
  have Hg := hide hg
  clear hg
  go_loopw [12] (fun v12 wr => ∃ k : Nat, k ≤ m ∧ v12 = .int .i64 k ∧ Hid (Below W0.heap.size W0 wr) ∧ Hid (∀ p ∈ es.take k, edB ns p = true) ∧ Hid ((es.take k).Nodup)) (fun v12 _ => m - (intOf v12).toNat)
  case atStart => exact ⟨0, by omega, rfl, hide (Below.refl _ _), hide (by simp), hide (by simp)⟩
  case round =>
    obtain ⟨k, hk, rfl, HB, HG, HD⟩ := hrel
    have HBW : Hid (Below w.heap.size w wr) := hide (HA.out.trans (HB.out.mono HA.out.size))
    by_cases hlt : k < m
    · obtain ⟨p, hp⟩ : ∃ p, es[k]? = some p := ⟨_, List.getElem?_eq_getElem (by rw [Hm.out]; exact hlt)⟩
      obtain ⟨b, off, rfl, c0, c1⟩ := ed_at (Hu.out.keep HB.out) k p hp
      have hboxr : wr.heap[g]? = some (.cells #[.slice a n c, .slice (some ⟨b, off, none⟩) m c'] 25) := by rw [HB.out.block _ Hgl.out]; exact Hbox.out
      have d0 := (cells_at hboxr 0).1
      have d1 := (cells_at hboxr 1).1
      simp at d0 d1
      have j0 : (0 : Int) ≤ (k : Int) := by omega
      have j1 : (k : Int) < (m : Int) := by omega
      have j2 : (k : Int) ≤ (c' : Int) ∨ True := .inr trivial
      have Hp := hide hp
      have Hboxr := hide hboxr
      clear hp hboxr j2
      obtain ⟨x, y⟩ := p
      simp only at c0 c1
      obtain ⟨W1, hW1⟩ : ∃ W1, wr.alloc (.cells #[.int .i64 x, .int .i64 y] 78) = W1 := ⟨_, rfl⟩
      have bB : Below wr.heap.size wr W1 := by rw [← hW1]; exact (Below.refl _ _).alloc (Nat.le_refl _) _
      have hx1 : W1.heap[wr.heap.size]? = some (.cells #[.int .i64 x, .int .i64 y] 78) := by rw [← hW1]; exact heap_new _ _
      have hx2 : W1.heap[g]? = some (.cells #[.slice a n c, .slice (some ⟨b, off, none⟩) m c'] 25) := by rw [bB.block _ (heap_lt Hboxr.out)]; exact Hboxr.out
      have HB1 : Hid (Below W0.heap.size W0 W1) := hide (HB.out.trans (bB.mono HB.out.size))
      have HN1 := hide ((Hv.out.keep HB1.out))
      have HU1 := hide ((Hu.out.keep HB1.out))
      have f0 := (cells_at hx2 0).1
      have f1 := (cells_at hx2 1).1
      have f2 := (cells_at hx1 0).1
      have f3 := (cells_at hx1 1).1
      simp at f0 f1 f2 f3
      have hcap := Hq.out k hlt
      obtain ⟨SS, hSS⟩ : ∃ SS : World → Prop, SS = fun W' => Below W1.heap.size W1 W' := ⟨_, rfl⟩
      have s9 : ∀ W', SS W' → Below W1.heap.size W1 W' := fun W' h => by rw [hSS] at h; exact h
      have s8 : ∀ W', Below W1.heap.size W1 W' → SS W' := fun W' h => by rw [hSS]; exact h
      have Hx1 := hide hx1
      have Hx2 := hide hx2
      have s1 : ∀ W', SS W' → W'.cell? ⟨g, 0, none⟩ = some (.slice a n c) := fun W' h => by rw [(s9 W' h).cell (heap_lt Hx2.out)]; exact (cells_at Hx2.out 0).1
      have s2 : ∀ W', SS W' → W'.cell? ⟨g, 1, none⟩ = some (.slice (some ⟨b, off, none⟩) m c') := fun W' h => by rw [(s9 W' h).cell (heap_lt Hx2.out)]; exact (cells_at Hx2.out 1).1
      have s3 : ∀ W', SS W' → W'.cell? ⟨wr.heap.size, 0, none⟩ = some (.int .i64 x) := fun W' h => by rw [(s9 W' h).cell (heap_lt Hx1.out)]; exact (cells_at Hx1.out 0).1
      have s4 : ∀ W', SS W' → W'.cell? ⟨wr.heap.size, 1, none⟩ = some (.int .i64 y) := fun W' h => by rw [(s9 W' h).cell (heap_lt Hx1.out)]; exact (cells_at Hx1.out 1).1
      have bD : SS W1.drew := s8 _ (Below.refl _ _).drew
      have S8 := hide s8
      have S9 := hide s9
      have BD := hide bD
      have fin : Hid (∀ W', SS W' → Below w.heap.size w W') := hide (fun W' h => HA.out.trans ((HB1.out.trans ((s9 W' h).mono HB1.out.size)).mono HA.out.size))
      have HW1 := hide hW1
      clear hW1 hSS bB hx1 hx2 f0 f1 f2 f3 bD
      have no2' : Hid (edB ns (x, y) = false → res = false) := hide (no2.out k _ Hp.out)
      cases hed : edB ns (x, y) with
      | false =>
        have c2' := no2'.out hed
        subst c2'
        have K39 : Hid (∀ W', SS W' → Calls Tryz.prog 167 #[.slice a n c, .agg #[.int .i64 x, .int .i64 y]] W' fun e w' => e = .returned (.bool false) ∧ SS w') := hide (fun W' hW' => by
          have hh := isEdge_any a c ns x y W' (by rw [Hn.out]; exact HN1.out.keep (S9.out W' hW'))
          rw [Hn.out, hed] at hh
          exact hh.mono fun e w' ⟨h1, h2⟩ => ⟨h1, S8.out _ ((S9.out W' hW').trans (h2.mono (S9.out W' hW').size))⟩)
        clear s8 s9
        go_upto_region 6 with fail
        rw [HW1.out]
        clear HW1
        refine wp_region_held_drew (S := SS) (by kernel_rfl) (BD.out) (fun hS0 => ?_)
        refine wpAnyH_take (i := 0) (v := .pointer (some ⟨g, 0, none⟩)) rfl (by kernel_rfl) (by kernel_rfl) (by kernel_rfl) (fun _ _ _ h => h) (Or.inl ⟨by rfl, fun W' hW => by go_simp⟩) hS0 ?_
        refine wpAnyH_take (i := 1) (v := .slice a n c) rfl (by kernel_rfl) (by kernel_rfl) (by kernel_rfl) (fun _ _ _ h => h) (Or.inl ⟨by rfl, fun W' hW => by have x0 := s1 W' hW; go_simp⟩) hS0 ?_
        refine wpAnyH_take (i := 2) (v := .agg #[.int .i64 x, .int .i64 y]) rfl (by kernel_rfl) (by kernel_rfl) (by kernel_rfl) (fun _ _ _ h => h) (Or.inl ⟨by rfl, fun W' hW => by have x2 := s3 W' hW; have x3 := s4 W' hW; go_simp⟩) hS0 ?_
        refine wpAnyH_ready (rs := [3]) (by kernel_rfl) (by simp) ?_
        refine AllReadyH.cons rfl (fun K hK => ?_) AllReadyH.nil
        go_simp
        refine (K39.out _ hS0).mono ?_
        rintro e W2 ⟨rfl, hS2⟩
        refine hK.out _ _ (hS2) (fun hS2 => ?_)
        clear hK K
        refine wpAnyH_take (i := 4) (v := .bool true) rfl (by kernel_rfl) (by kernel_rfl) (by kernel_rfl) (fun _ _ _ h => h) (Or.inl ⟨by rfl, fun W' hW => by go_simp⟩) hS2 ?_
        refine wpAnyH_take (i := 5) (v := .bool true) rfl (by kernel_rfl) (by kernel_rfl) (by kernel_rfl) (fun _ _ _ h => h) (Or.inl ⟨by rfl, fun W' hW => by go_simp⟩) hS2 ?_
        refine wpAnyH_take (i := 6) (v := undef) rfl (by kernel_rfl) (by kernel_rfl) (by kernel_rfl) (fun _ _ _ h => h) (Or.inr ⟨by kernel_rfl, rfl⟩) hS2 ?_
        refine wpAnyH_take (i := 7) (v := undef) rfl (by kernel_rfl) (by kernel_rfl) (by kernel_rfl) (fun _ _ _ h => h) (Or.inr ⟨by kernel_rfl, rfl⟩) hS2 ?_
        refine wpAnyH_take (i := 8) (v := undef) rfl (by kernel_rfl) (by kernel_rfl) (by kernel_rfl) (fun _ _ _ h => h) (Or.inr ⟨by kernel_rfl, rfl⟩) hS2 ?_
        refine wpAnyH_take (i := 9) (v := undef) rfl (by kernel_rfl) (by kernel_rfl) (by kernel_rfl) (fun _ _ _ h => h) (Or.inr ⟨by kernel_rfl, rfl⟩) hS2 ?_
        refine wpAnyH_take (i := 10) (v := undef) rfl (by kernel_rfl) (by kernel_rfl) (by kernel_rfl) (fun _ _ _ h => h) (Or.inr ⟨by kernel_rfl, rfl⟩) hS2 ?_
        refine wpAnyH_take (i := 11) (v := undef) rfl (by kernel_rfl) (by kernel_rfl) (by kernel_rfl) (fun _ _ _ h => h) (Or.inr ⟨by kernel_rfl, rfl⟩) hS2 ?_
        refine wpAnyH_ready (rs := [12]) (by kernel_rfl) (by simp) ?_
        refine AllReadyH.cons rfl (fun K hK => ?_) AllReadyH.nil
        go_simp
        refine hK.out _ _ hS2 (fun _ => ?_)
        clear hK K
        refine wpAnyH_done (by kernel_rfl) ?_ _
        go_wp2_with fail
        go_ret
        exact ⟨rfl, fin.out _ hS2⟩
      | true =>
        have K39 : Hid (∀ W', SS W' → Calls Tryz.prog 167 #[.slice a n c, .agg #[.int .i64 x, .int .i64 y]] W' fun e w' => e = .returned (.bool true) ∧ SS w') := hide (fun W' hW' => by
          have hh := isEdge_any a c ns x y W' (by rw [Hn.out]; exact HN1.out.keep (S9.out W' hW'))
          rw [Hn.out, hed] at hh
          exact hh.mono fun e w' ⟨h1, h2⟩ => ⟨h1, S8.out _ ((S9.out W' hW').trans (h2.mono (S9.out W' hW').size))⟩)
        have HG1 : Hid (∀ p ∈ es.take (k + 1), edB ns p = true) := hide (fun q hq => by
          rw [List.take_add_one, Hp.out] at hq
          simp at hq
          rcases hq with hq | rfl
          · exact HG.out q hq
          · exact hed)
        have no1' : Hid ((x, y) ∈ es.take k → res = false) := hide (no1.out k _ Hp.out)
        have HD1 : Hid ((x, y) ∉ es.take k → (es.take (k + 1)).Nodup) := hide (take_nodupE Hp.out HD.out)
        have hlk : (es.take k).length = k := by rw [List.length_take, Hm.out]; omega
        have K40 : Hid (∀ W', SS W' → Calls Tryz.prog 168 #[.slice (some ⟨b, off, none⟩) k c', .agg #[.int .i64 x, .int .i64 y]] W' fun e w' => e = .returned (.bool (decide ((x, y) ∈ es.take k))) ∧ SS w') := hide (fun W' hW' => by
          have hr := ((HU1.out.keep (S9.out W' hW')).take k (by rw [Hm.out]; omega))
          exact (contains_any _ c' k (es.take k) hlk.symm x y W' hr (by rw [hlk]; have := Hlen.out; omega)).mono fun e w' ⟨h1, h2⟩ => ⟨h1, S8.out _ ((S9.out W' hW').trans (h2.mono (S9.out W' hW').size))⟩)
        clear s8 s9 hlk hed
        by_cases hmem : (x, y) ∈ es.take k
        · have c2' := no1'.out hmem
          subst c2'
          rw [decide_eq_true hmem] at K40
          clear hmem
          go_upto_region 6 with fail
          rw [HW1.out]
          clear HW1
          refine wp_region_held_drew (S := SS) (by kernel_rfl) (BD.out) (fun hS0 => ?_)
          refine wpAnyH_take (i := 0) (v := .pointer (some ⟨g, 0, none⟩)) rfl (by kernel_rfl) (by kernel_rfl) (by kernel_rfl) (fun _ _ _ h => h) (Or.inl ⟨by rfl, fun W' hW => by go_simp⟩) hS0 ?_
          refine wpAnyH_take (i := 1) (v := .slice a n c) rfl (by kernel_rfl) (by kernel_rfl) (by kernel_rfl) (fun _ _ _ h => h) (Or.inl ⟨by rfl, fun W' hW => by have x0 := s1 W' hW; go_simp⟩) hS0 ?_
          refine wpAnyH_take (i := 2) (v := .agg #[.int .i64 x, .int .i64 y]) rfl (by kernel_rfl) (by kernel_rfl) (by kernel_rfl) (fun _ _ _ h => h) (Or.inl ⟨by rfl, fun W' hW => by have x2 := s3 W' hW; have x3 := s4 W' hW; go_simp⟩) hS0 ?_
          refine wpAnyH_ready (rs := [3]) (by kernel_rfl) (by simp) ?_
          refine AllReadyH.cons rfl (fun K hK => ?_) AllReadyH.nil
          go_simp
          refine (K39.out _ hS0).mono ?_
          rintro e W2 ⟨rfl, hS2⟩
          refine hK.out _ _ (hS2) (fun hS2 => ?_)
          clear hK K
          refine wpAnyH_take (i := 4) (v := .bool false) rfl (by kernel_rfl) (by kernel_rfl) (by kernel_rfl) (fun _ _ _ h => h) (Or.inl ⟨by rfl, fun W' hW => by go_simp⟩) hS2 ?_
          refine wpAnyH_take (i := 5) (v := .bool false) rfl (by kernel_rfl) (by kernel_rfl) (by kernel_rfl) (fun _ _ _ h => h) (Or.inl ⟨by rfl, fun W' hW => by go_simp⟩) hS2 ?_
          refine wpAnyH_take (i := 6) (v := .pointer (some ⟨g, 1, none⟩)) rfl (by kernel_rfl) (by kernel_rfl) (by kernel_rfl) (fun _ _ _ h => h) (Or.inl ⟨by rfl, fun W' hW => by go_simp⟩) hS2 ?_
          refine wpAnyH_take (i := 7) (v := .slice (some ⟨b, off, none⟩) m c') rfl (by kernel_rfl) (by kernel_rfl) (by kernel_rfl) (fun _ _ _ h => h) (Or.inl ⟨by rfl, fun W' hW => by have x0 := s2 W' hW; go_simp⟩) hS2 ?_
          refine wpAnyH_take (i := 8) (v := .int .i64 k) rfl (by kernel_rfl) (by kernel_rfl) (by kernel_rfl) (fun _ _ _ h => h) (Or.inl ⟨by rfl, fun W' hW => by go_simp⟩) hS2 ?_
          refine wpAnyH_take (i := 9) (v := .slice (some ⟨b, off, none⟩) k c') rfl (by kernel_rfl) (by kernel_rfl) (by kernel_rfl) (fun _ _ _ h => h) (Or.inl ⟨by rfl, fun W' hW => by go_simp⟩) hS2 ?_
          refine wpAnyH_take (i := 10) (v := .agg #[.int .i64 x, .int .i64 y]) rfl (by kernel_rfl) (by kernel_rfl) (by kernel_rfl) (fun _ _ _ h => h) (Or.inl ⟨by rfl, fun W' hW => by have x2 := s3 W' hW; have x3 := s4 W' hW; go_simp⟩) hS2 ?_
          refine wpAnyH_ready (rs := [11]) (by kernel_rfl) (by simp) ?_
          refine AllReadyH.cons rfl (fun K hK => ?_) AllReadyH.nil
          go_simp
          refine (K40.out _ hS2).mono ?_
          rintro e W3 ⟨rfl, hS3⟩
          refine hK.out _ _ (hS3) (fun hS3 => ?_)
          clear hK K
          refine wpAnyH_ready (rs := [12]) (by kernel_rfl) (by simp) ?_
          refine AllReadyH.cons rfl (fun K hK => ?_) AllReadyH.nil
          go_simp
          refine hK.out _ _ hS3 (fun _ => ?_)
          clear hK K
          refine wpAnyH_done (by kernel_rfl) ?_ _
          go_wp2_with fail
          go_ret
          exact ⟨rfl, fin.out _ hS3⟩
        · have HD2 := hide (HD1.out hmem)
          rw [decide_eq_false hmem] at K40
          clear hmem
          go_upto_region 6 with fail
          rw [HW1.out]
          clear HW1
          refine wp_region_held_drew (S := SS) (by kernel_rfl) (BD.out) (fun hS0 => ?_)
          refine wpAnyH_take (i := 0) (v := .pointer (some ⟨g, 0, none⟩)) rfl (by kernel_rfl) (by kernel_rfl) (by kernel_rfl) (fun _ _ _ h => h) (Or.inl ⟨by rfl, fun W' hW => by go_simp⟩) hS0 ?_
          refine wpAnyH_take (i := 1) (v := .slice a n c) rfl (by kernel_rfl) (by kernel_rfl) (by kernel_rfl) (fun _ _ _ h => h) (Or.inl ⟨by rfl, fun W' hW => by have x0 := s1 W' hW; go_simp⟩) hS0 ?_
          refine wpAnyH_take (i := 2) (v := .agg #[.int .i64 x, .int .i64 y]) rfl (by kernel_rfl) (by kernel_rfl) (by kernel_rfl) (fun _ _ _ h => h) (Or.inl ⟨by rfl, fun W' hW => by have x2 := s3 W' hW; have x3 := s4 W' hW; go_simp⟩) hS0 ?_
          refine wpAnyH_ready (rs := [3]) (by kernel_rfl) (by simp) ?_
          refine AllReadyH.cons rfl (fun K hK => ?_) AllReadyH.nil
          go_simp
          refine (K39.out _ hS0).mono ?_
          rintro e W2 ⟨rfl, hS2⟩
          refine hK.out _ _ (hS2) (fun hS2 => ?_)
          clear hK K
          refine wpAnyH_take (i := 4) (v := .bool false) rfl (by kernel_rfl) (by kernel_rfl) (by kernel_rfl) (fun _ _ _ h => h) (Or.inl ⟨by rfl, fun W' hW => by go_simp⟩) hS2 ?_
          refine wpAnyH_take (i := 5) (v := .bool false) rfl (by kernel_rfl) (by kernel_rfl) (by kernel_rfl) (fun _ _ _ h => h) (Or.inl ⟨by rfl, fun W' hW => by go_simp⟩) hS2 ?_
          refine wpAnyH_take (i := 6) (v := .pointer (some ⟨g, 1, none⟩)) rfl (by kernel_rfl) (by kernel_rfl) (by kernel_rfl) (fun _ _ _ h => h) (Or.inl ⟨by rfl, fun W' hW => by go_simp⟩) hS2 ?_
          refine wpAnyH_take (i := 7) (v := .slice (some ⟨b, off, none⟩) m c') rfl (by kernel_rfl) (by kernel_rfl) (by kernel_rfl) (fun _ _ _ h => h) (Or.inl ⟨by rfl, fun W' hW => by have x0 := s2 W' hW; go_simp⟩) hS2 ?_
          refine wpAnyH_take (i := 8) (v := .int .i64 k) rfl (by kernel_rfl) (by kernel_rfl) (by kernel_rfl) (fun _ _ _ h => h) (Or.inl ⟨by rfl, fun W' hW => by go_simp⟩) hS2 ?_
          refine wpAnyH_take (i := 9) (v := .slice (some ⟨b, off, none⟩) k c') rfl (by kernel_rfl) (by kernel_rfl) (by kernel_rfl) (fun _ _ _ h => h) (Or.inl ⟨by rfl, fun W' hW => by go_simp⟩) hS2 ?_
          refine wpAnyH_take (i := 10) (v := .agg #[.int .i64 x, .int .i64 y]) rfl (by kernel_rfl) (by kernel_rfl) (by kernel_rfl) (fun _ _ _ h => h) (Or.inl ⟨by rfl, fun W' hW => by have x2 := s3 W' hW; have x3 := s4 W' hW; go_simp⟩) hS2 ?_
          refine wpAnyH_ready (rs := [11]) (by kernel_rfl) (by simp) ?_
          refine AllReadyH.cons rfl (fun K hK => ?_) AllReadyH.nil
          go_simp
          refine (K40.out _ hS2).mono ?_
          rintro e W3 ⟨rfl, hS3⟩
          refine hK.out _ _ (hS3) (fun hS3 => ?_)
          clear hK K
          refine wpAnyH_ready (rs := [12]) (by kernel_rfl) (by simp) ?_
          refine AllReadyH.cons rfl (fun K hK => ?_) AllReadyH.nil
          go_simp
          refine hK.out _ _ hS3 (fun _ => ?_)
          clear hK K
          refine wpAnyH_done (by kernel_rfl) ?_ _
          have HB3 : Hid (Below W0.heap.size W0 W3) := hide (HB1.out.trans ((S9.out W3 hS3).mono HB1.out.size))
          go_wp2_with fail
          go_roundw
          case rel => exact ⟨k + 1, by omega, by go_num, HB3, HG1, HD2⟩
          case measure => simp [intOf]; omega
    · have j1 : ¬ (k : Int) < (m : Int) := by omega
      have et : es.take k = es := List.take_of_length_le (by rw [Hm.out]; omega)
      have c2 := yes.out (by rw [← et]; exact HG.out) (by rw [← et]; exact HD.out)
      subst c2
      go_wp2_with fail
      go_ret
      exact ⟨rfl, HBW.out⟩
end Go.Proofs.YtocmngpoemfpkaaGreatDoor
