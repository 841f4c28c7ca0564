import Derived.Deep.RegionLaw
import Derived.Deep.RegionWith
import Derived.LaidEqlPtr
import Derived.Lib.SliceRun
import Derived.Test.YtocmngpoemfpkabGreatDoorControlSendsAD
import Derived.Test.YtocmngpoemfpkabGreatDoorControlSendsAE
set_option linter.unusedVariables false
namespace Go.Proofs.YtocmngpoemfpkabGreatDoor
open Go.RowKit Go.Maps Go.ChangeMaps
theorem It.kept (x : It) {w w' : World} (h : x.P w) (hb : Below w.heap.size w w') : x.P w' := x.st h fun k hk => hb.block k (x.lt h k hk)
theorem new_its (w0 w : World) (l : List It) (h : Its w0 l w) : Its w0 (.book w0.heap.size (w.heap.size + 2) ⟨w.heap.size, w.heap.size + 1, .slice none 0 0, fun _ => none, []⟩ Bk.new :: l) (((w.alloc (.map #[] 0)).alloc (.map #[] 0)).alloc (.cells #[.map (some w.heap.size), .slice none 0 0, .map (some (w.heap.size + 1))] 191)) := by
  have h2 : Its w0 (.mp w.heap.size 0 (kn []) :: l) (w.alloc (.map #[] 0)) := h.new (x := .mp w.heap.size 0 (kn [])) (Mpi.made w) (fun k hk => by cases hk; exact Nat.le_refl _) (below_new _ _)
  have e1 : (w.alloc (.map #[] 0)).heap.size = w.heap.size + 1 := by simp
  have h3 : Its w0 (.srv w0.heap.size (w.heap.size + 1) 0 (fun _ => none) Bk.new.sv :: .mp w.heap.size 0 (kn []) :: l) ((w.alloc (.map #[] 0)).alloc (.map #[] 0)) := by
    refine h2.new (x := .srv w0.heap.size (w.heap.size + 1) 0 (fun _ => none) Bk.new.sv) ⟨?_, fun s v q => absurd q (by simp), fun s _ => rfl, fun s t v u k _ q => absurd q (by simp)⟩ (fun k hk => ?_) (below_new _ _)
    · rw [← e1]; exact Mpi.made _
    · rcases hk with rfl | ⟨s, v, q, _⟩
      · omega
      · cases q
  have e2 : ((w.alloc (.map #[] 0)).alloc (.map #[] 0)).heap.size = w.heap.size + 2 := by simp
  have h4 : Its w0 (.box (w.heap.size + 2) #[.map (some w.heap.size), .slice none 0 0, .map (some (w.heap.size + 1))] 191 :: .srv w0.heap.size (w.heap.size + 1) 0 (fun _ => none) Bk.new.sv :: .mp w.heap.size 0 (kn []) :: l) (((w.alloc (.map #[] 0)).alloc (.map #[] 0)).alloc (.cells #[.map (some w.heap.size), .slice none 0 0, .map (some (w.heap.size + 1))] 191)) := by
    refine h3.new (x := .box (w.heap.size + 2) _ 191) ?_ (fun k hk => ?_) (below_new _ _)
    · show _ = _
      rw [← e2]; exact heap_new _ _
    · cases hk; omega
  have h5 := h4.new (x := .ents []) (by intro p hp; cases hp) (fun k hk => by obtain ⟨p, hp, _⟩ := hk; cases hp) (Below.refl _ _)
  have h6 := h5.empty ptrE
  exact h6.bshut (S := Bk.new) (H := ⟨w.heap.size, w.heap.size + 1, .slice none 0 0, fun _ => none, []⟩) (B := w0.heap.size) (g := w.heap.size + 2) ⟨Bk.new_ok, rfl, .nil⟩
set_option maxHeartbeats 1000000 in
theorem new_any (w0 w : World) (l : List It) (h : Its w0 l w) : Calls Tryz.prog 72 #[] w fun e w' => ∃ g H, e = .returned (.pointer (some ⟨g, 0, none⟩)) ∧ Its w0 (.book w0.heap.size g H Bk.new :: l) w' := by
 have HN := hide (new_its w0 w l h)
 have hk : ∀ t W, (Instr.makeMap t none).run Tryz.prog W = .ok (.map (some W.heap.size)) (W.alloc (.map #[] 0)) := fun t W => run_makeMap t W
 clear h
 go_enter Tryz.func72, Tryz.ntmps72
 go_wp2_with fail
 exact bodyPost_ret (v := .pointer (some ⟨w.heap.size + 2, 0, none⟩)) (by simp [results, Tryz.results72, go_sem]) rfl ⟨_, _, rfl, HN.out⟩
theorem kn_none {T : List (Nat × En)} {x : Int} (h : fnT T x = none) : kn T x = none := by unfold kn; rw [h]; rfl
theorem kn_some {T : List (Nat × En)} {x : Int} {p : Nat × En} (h : fnT T x = some p) : kn T x = some (.pointer (some ⟨p.1, 0, none⟩)) := by unfold kn; rw [h]; rfl
theorem fnT_mem {T : List (Nat × En)} {x : Int} {p : Nat × En} (h : fnT T x = some p) : p ∈ T := List.mem_of_find?_eq_some h
theorem Lie.fnd {T : List (Nat × En)} {S : Bk} (h : Lie T S) (x : Int) : fnd S.all x = (fnT T x).map (·.2) := by rw [h.2.1]; exact fnT_fnd x
theorem Lie.ops {T : List (Nat × En)} {S : Bk} (h : Lie T S) : ops S.all = (opT T).map (·.2.r) := by rw [h.2.1]; exact opT_ops T
set_option maxHeartbeats 1000000 in
theorem state_any {w : World} {B g : Nat} {H : Hb} {S : Bk} (h : (It.book B g H S).P w) {x : Int} (hx : I64 x) : Calls Tryz.prog 44 #[.pointer (some ⟨g, 0, none⟩), .int .i64 x] w fun e w' => e = .returned (.int .i64 (S.sta x)) ∧ w' = w := by
 obtain ⟨c0, c1, c2, _⟩ := bk_cells h
 have hl := (bk_mp h).look hx
 have hf := (bk_lie h).fnd x
 have e0 : S.sta x = ((fnT H.T x).map (·.2.en)).getD 0 := by
  unfold Bk.sta
  rw [hf]
  cases fnT H.T x <;> rfl
 rw [e0]
 cases hT : fnT H.T x with
 | none =>
  rw [kn_none hT] at hl
  simp only [Option.getD_none, Option.isSome_none] at hl
  clear h hf e0 hT
  go_enter Tryz.func44, Tryz.ntmps44
  go_wp2_with fail
  go_ret
  exact ⟨rfl, rfl⟩
 | some p =>
  rw [kn_some hT] at hl
  simp only [Option.getD_some, Option.isSome_some] at hl
  obtain ⟨d0, d1, d2, d3, _⟩ := bk_ent h (fnT_mem hT)
  obtain ⟨b, e⟩ := p
  clear h hf e0 hT
  go_enter Tryz.func44, Tryz.ntmps44
  go_wp2_with fail
  go_ret
  exact ⟨rfl, rfl⟩
def rqV : Option Rq → Value
 | some r => .agg #[.int .i64 r.id, .int .i64 r.st, .int .i64 r.tt]
 | none => .agg #[.int .i64 0, .int .i64 0, .int .i64 0]
def ptV : Option (Nat × En) → Value
 | some p => .pointer (some ⟨p.1, 0, none⟩)
 | none => .pointer none
set_option maxHeartbeats 1000000 in
theorem request_no (w : World) : Calls Tryz.prog 172 #[.pointer none, .bool false] w fun e w' => e = .returned (.tuple #[rqV none, .bool false]) ∧ Below w.heap.size w w' := by
 have hB : Hid (∀ o, Below w.heap.size w (w.alloc o)) := hide (fun o => below_new w o)
 go_enter Tryz.func172, Tryz.ntmps172
 go_wp2_with fail
 exact bodyPost_ret (v := .tuple #[rqV none, .bool false]) (by simp [results, Tryz.results172, go_sem, rqV]) rfl ⟨rfl, hB.out _⟩
set_option maxHeartbeats 1000000 in
theorem request_yes (w : World) (b : Nat) (e : En) (h : w.heap[b]? = some (.cells (enC e) 194)) : Calls Tryz.prog 172 #[.pointer (some ⟨b, 0, none⟩), .bool true] w fun r w' => r = .returned (.tuple #[rqV (some e.r), .bool true]) ∧ Below w.heap.size w w' := by
 have hB : Hid (∀ o, Below w.heap.size w (w.alloc o)) := hide (fun o => below_new w o)
 have h' : ∀ o, (w.alloc o).heap[b]? = some (.cells (enC e) 194) := fun o => by rw [(below_new w o).block b (heap_lt h)]; exact h
 have d0 : ∀ o, (w.alloc o).cell? ⟨b, 0, none⟩ = some (.int .i64 e.r.id) := fun o => (cells_at (h' o) 0).1
 have d1 : ∀ o, (w.alloc o).cell? ⟨b, 1, none⟩ = some (.int .i64 e.r.st) := fun o => (cells_at (h' o) 1).1
 have d2 : ∀ o, (w.alloc o).cell? ⟨b, 2, none⟩ = some (.int .i64 e.r.tt) := fun o => (cells_at (h' o) 2).1
 clear h h'
 go_enter Tryz.func172, Tryz.ntmps172
 go_wp2_with fail
 exact bodyPost_ret (v := .tuple #[rqV (some e.r), .bool true]) (by simp [results, Tryz.results172, go_sem, rqV]) rfl ⟨rfl, hB.out _⟩
set_option maxHeartbeats 1000000 in
theorem clo35_any (w : World) (b k0 : Nat) (e : En) (s : Int) (h : w.heap[b]? = some (.cells (enC e) 194)) (hk : w.cell? ⟨k0, 0, none⟩ = some (.int .i64 s)) : Calls Tryz.prog 213 #[.pointer (some ⟨b, 0, none⟩), .pointer (some ⟨k0, 0, none⟩)] w fun r w' => r = .returned (.bool (e.r.st == s)) ∧ ∃ q, w' = w.drewN q := by
 have d1 : w.cell? ⟨b, 1, none⟩ = some (.int .i64 e.r.st) := (cells_at h 1).1
 clear h
 go_enter Tryz.func213, Tryz.ntmps213
 go_upto_region 1 with fail
 go_quiet (fail)
 go_wp2_with fail
 go_ret
 exact ⟨rfl, _, rfl⟩
set_option maxRecDepth 100000 in
set_option maxHeartbeats 2000000 in
theorem first35_any (a : Option Addr) (n c k0 : Nat) (gs : List (Nat × En)) (s : Int) (w : World) (hn : gs.length = n) (hv : ptrE.Rd w (.slice a n c) (gs.map (·.1))) (hl : n ≤ 1000) (he : ∀ p ∈ gs, w.heap[p.1]? = some (.cells (enC p.2) 194)) (hk : w.cell? ⟨k0, 0, none⟩ = some (.int .i64 s)) :
    Calls Tryz.prog 173 #[.slice a n c, .func (.func 213) #[] #[.pointer (some ⟨k0, 0, none⟩)]] w fun r w' => r = .returned (.tuple #[ptV (gs.find? (fun p => p.2.r.st == s)), .bool (gs.find? (fun p => p.2.r.st == s)).isSome]) ∧ ∃ q, w' = w.drewN q := by
  have yes : Hid (∀ (k : Nat) (p : Nat × En), gs[k]? = some p → (p.2.r.st == s) = true → (∀ j d, j < k → gs[j]? = some d → (d.2.r.st == s) = false) → gs.find? (fun p => p.2.r.st == s) = some p) := hide (fun k p h1 h2 h3 => by
    rw [List.find?_eq_some_iff_getElem]
    obtain ⟨hlt, h4⟩ := List.getElem?_eq_some_iff.1 h1
    exact ⟨h2, k, hlt, h4, fun j hj => by rw [h3 j _ hj (List.getElem?_eq_getElem (by omega))]; rfl⟩)
  have no : Hid ((∀ j d, j < n → gs[j]? = some d → (d.2.r.st == s) = false) → gs.find? (fun p => p.2.r.st == s) = none) := hide (fun h => by
    rw [List.find?_eq_none]
    intro p hp
    obtain ⟨j, hj⟩ := List.getElem?_of_mem hp
    rw [h j p (by rw [← hn]; exact idx_lt hj) hj]; simp)
  have KC : Hid (∀ (j : Nat) (p : Nat × En) (q : Nat), gs[j]? = some p → Calls Tryz.prog 213 #[.pointer (some ⟨p.1, 0, none⟩), .pointer (some ⟨k0, 0, none⟩)] (w.drewN q) fun r w' => r = .returned (.bool (p.2.r.st == s)) ∧ ∃ q, w' = w.drewN q) := hide (fun j p q hp => by
    refine (clo35_any (w.drewN q) p.1 k0 p.2 s (he p (List.mem_of_getElem? hp)) hk).mono ?_
    rintro r w' ⟨rfl, q', rfl⟩
    exact ⟨rfl, q + q', by simp⟩)
  generalize gs.find? (fun p => p.2.r.st == s) = res at *
  have Hn := hide hn
  have HV := hide hv
  have i0 : (n : Int) ≤ 1000 := by omega
  clear hn hv hl he hk
  go_enter Tryz.func173, Tryz.ntmps173
  go_wp2_with fail
  go_loopw [11] (fun v11 wr => ∃ k q : Nat, k ≤ n ∧ v11 = .int .i64 k ∧ wr = w.drewN q ∧ Hid (∀ j d, j < k → gs[j]? = some d → (d.2.r.st == s) = false)) (fun v11 _ => n - (intOf v11).toNat)
  case atStart => exact ⟨0, 0, by omega, rfl, rfl, hide (fun j q h => by omega)⟩
  case round =>
    obtain ⟨k, q, hk, rfl, rfl, HX⟩ := hrel
    by_cases hlt : k < n
    · obtain ⟨p, hp⟩ : ∃ p, gs[k]? = some p := ⟨_, List.getElem?_eq_getElem (by rw [Hn.out]; exact hlt)⟩
      obtain ⟨b, off, rfl, c0⟩ := ptr_at HV.out k p.1 (by rw [List.getElem?_map, hp]; rfl)
      have K := hide (KC.out k p q hp)
      have j0 : (0 : Int) ≤ (k : Int) := by omega
      have j1 : (k : Int) < (n : Int) := by omega
      have Hp := hide hp
      clear hp
      cases hb : (p.2.r.st == s) with
      | true =>
        have e1 := yes.out k p Hp.out hb HX.out
        subst e1
        rw [hb] at K
        clear hb
        obtain ⟨g, e⟩ := p
        go_wp2_with (go_at_call 213; refine K.out.mono ?_; rintro r w1 ⟨rfl, q1, rfl⟩)
        go_ret2
        exact ⟨rfl, _, rfl⟩
      | false =>
        have HX1 : Hid (∀ j d, j < k + 1 → gs[j]? = some d → (d.2.r.st == s) = false) := hide (fun j d hj hd => by
          rcases Nat.lt_or_ge j k with g | g
          · exact HX.out j d g hd
          · obtain rfl : j = k := by omega
            rw [Hp.out] at hd; cases hd; exact hb)
        rw [hb] at K
        clear hb
        go_wp2_with (go_at_call 213; refine K.out.mono ?_; rintro r w1 ⟨rfl, q1, rfl⟩)
        go_roundw
        case rel => exact ⟨k + 1, _, by omega, by go_num, rfl, HX1⟩
        case measure => simp [intOf]; omega
    · obtain rfl : k = n := by omega
      have j1 : ¬ (k : Int) < (k : Int) := by omega
      have e1 := no.out HX.out
      subst e1
      go_wp2_with fail
      go_ret2
      exact ⟨rfl, _, rfl⟩
set_option maxHeartbeats 1000000 in
theorem clo36_any (w : World) (b k0 : Nat) (e : En) (s : Int) (h : w.heap[b]? = some (.cells (enC e) 194)) (hk : w.cell? ⟨k0, 0, none⟩ = some (.int .i64 s)) : Calls Tryz.prog 174 #[.pointer (some ⟨b, 0, none⟩), .pointer (some ⟨k0, 0, none⟩)] w fun r w' => r = .returned (.bool (e.r.tt == s)) ∧ ∃ q, w' = w.drewN q := by
 have d1 : w.cell? ⟨b, 2, none⟩ = some (.int .i64 e.r.tt) := (cells_at h 2).1
 clear h
 go_enter Tryz.func174, Tryz.ntmps174
 go_upto_region 1 with fail
 go_quiet (fail)
 go_wp2_with fail
 go_ret
 exact ⟨rfl, _, rfl⟩
set_option maxRecDepth 100000 in
set_option maxHeartbeats 2000000 in
theorem first36_any (a : Option Addr) (n c k0 : Nat) (gs : List (Nat × En)) (s : Int) (w : World) (hn : gs.length = n) (hv : ptrE.Rd w (.slice a n c) (gs.map (·.1))) (hl : n ≤ 1000) (he : ∀ p ∈ gs, w.heap[p.1]? = some (.cells (enC p.2) 194)) (hk : w.cell? ⟨k0, 0, none⟩ = some (.int .i64 s)) :
    Calls Tryz.prog 173 #[.slice a n c, .func (.func 174) #[] #[.pointer (some ⟨k0, 0, none⟩)]] w fun r w' => r = .returned (.tuple #[ptV (gs.find? (fun p => p.2.r.tt == s)), .bool (gs.find? (fun p => p.2.r.tt == s)).isSome]) ∧ ∃ q, w' = w.drewN q := by
  have yes : Hid (∀ (k : Nat) (p : Nat × En), gs[k]? = some p → (p.2.r.tt == s) = true → (∀ j d, j < k → gs[j]? = some d → (d.2.r.tt == s) = false) → gs.find? (fun p => p.2.r.tt == s) = some p) := hide (fun k p h1 h2 h3 => by
    rw [List.find?_eq_some_iff_getElem]
    obtain ⟨hlt, h4⟩ := List.getElem?_eq_some_iff.1 h1
    exact ⟨h2, k, hlt, h4, fun j hj => by rw [h3 j _ hj (List.getElem?_eq_getElem (by omega))]; rfl⟩)
  have no : Hid ((∀ j d, j < n → gs[j]? = some d → (d.2.r.tt == s) = false) → gs.find? (fun p => p.2.r.tt == s) = none) := hide (fun h => by
    rw [List.find?_eq_none]
    intro p hp
    obtain ⟨j, hj⟩ := List.getElem?_of_mem hp
    rw [h j p (by rw [← hn]; exact idx_lt hj) hj]; simp)
  have KC : Hid (∀ (j : Nat) (p : Nat × En) (q : Nat), gs[j]? = some p → Calls Tryz.prog 174 #[.pointer (some ⟨p.1, 0, none⟩), .pointer (some ⟨k0, 0, none⟩)] (w.drewN q) fun r w' => r = .returned (.bool (p.2.r.tt == s)) ∧ ∃ q, w' = w.drewN q) := hide (fun j p q hp => by
    refine (clo36_any (w.drewN q) p.1 k0 p.2 s (he p (List.mem_of_getElem? hp)) hk).mono ?_
    rintro r w' ⟨rfl, q', rfl⟩
    exact ⟨rfl, q + q', by simp⟩)
  generalize gs.find? (fun p => p.2.r.tt == s) = res at *
  have Hn := hide hn
  have HV := hide hv
  have i0 : (n : Int) ≤ 1000 := by omega
  clear hn hv hl he hk
  go_enter Tryz.func173, Tryz.ntmps173
  go_wp2_with fail
  go_loopw [11] (fun v11 wr => ∃ k q : Nat, k ≤ n ∧ v11 = .int .i64 k ∧ wr = w.drewN q ∧ Hid (∀ j d, j < k → gs[j]? = some d → (d.2.r.tt == s) = false)) (fun v11 _ => n - (intOf v11).toNat)
  case atStart => exact ⟨0, 0, by omega, rfl, rfl, hide (fun j q h => by omega)⟩
  case round =>
    obtain ⟨k, q, hk, rfl, rfl, HX⟩ := hrel
    by_cases hlt : k < n
    · obtain ⟨p, hp⟩ : ∃ p, gs[k]? = some p := ⟨_, List.getElem?_eq_getElem (by rw [Hn.out]; exact hlt)⟩
      obtain ⟨b, off, rfl, c0⟩ := ptr_at HV.out k p.1 (by rw [List.getElem?_map, hp]; rfl)
      have K := hide (KC.out k p q hp)
      have j0 : (0 : Int) ≤ (k : Int) := by omega
      have j1 : (k : Int) < (n : Int) := by omega
      have Hp := hide hp
      clear hp
      cases hb : (p.2.r.tt == s) with
      | true =>
        have e1 := yes.out k p Hp.out hb HX.out
        subst e1
        rw [hb] at K
        clear hb
        obtain ⟨g, e⟩ := p
        go_wp2_with (go_at_call 174; refine K.out.mono ?_; rintro r w1 ⟨rfl, q1, rfl⟩)
        go_ret2
        exact ⟨rfl, _, rfl⟩
      | false =>
        have HX1 : Hid (∀ j d, j < k + 1 → gs[j]? = some d → (d.2.r.tt == s) = false) := hide (fun j d hj hd => by
          rcases Nat.lt_or_ge j k with g | g
          · exact HX.out j d g hd
          · obtain rfl : j = k := by omega
            rw [Hp.out] at hd; cases hd; exact hb)
        rw [hb] at K
        clear hb
        go_wp2_with (go_at_call 174; refine K.out.mono ?_; rintro r w1 ⟨rfl, q1, rfl⟩)
        go_roundw
        case rel => exact ⟨k + 1, _, by omega, by go_num, rfl, HX1⟩
        case measure => simp [intOf]; omega
    · obtain rfl : k = n := by omega
      have j1 : ¬ (k : Int) < (k : Int) := by omega
      have e1 := no.out HX.out
      subst e1
      go_wp2_with fail
      go_ret2
      exact ⟨rfl, _, rfl⟩
theorem request_any (w : World) (o : Option (Nat × En)) (h : ∀ p, o = some p → w.heap[p.1]? = some (.cells (enC p.2) 194)) : Calls Tryz.prog 172 #[ptV o, .bool o.isSome] w fun e w' => e = .returned (.tuple #[rqV (o.map (·.2.r)), .bool o.isSome]) ∧ Below w.heap.size w w' := by
 cases o with
 | none => exact request_no w
 | some p => exact request_yes w p.1 p.2 (h p rfl)
theorem rqV_form (o : Option Rq) : ∃ x y z : Int, rqV o = .agg #[.int .i64 x, .int .i64 y, .int .i64 z] := by
 cases o with
 | none => exact ⟨0, 0, 0, rfl⟩
 | some r => exact ⟨_, _, _, rfl⟩
theorem put3 {w : World} {b : Nat} {x y z : Value} {t : TypeId} (h : w.heap[b]? = some (.cells #[x, y, z] t)) (u v s : Value) : (((w.setCell ⟨b, 0, none⟩ u).setCell ⟨b, 1, none⟩ v).setCell ⟨b, 2, none⟩ s).heap[b]? = some (.cells #[u, v, s] t) := by
 rw [heap_put (heap_put (heap_put h u) v) s]
 rfl
set_option maxRecDepth 100000 in
set_option maxHeartbeats 2000000 in
theorem firstB_any {w : World} {B g : Nat} {H : Hb} {S : Bk} (h : (It.book B g H S).P w) (s : Int) : Calls Tryz.prog 180 #[.pointer (some ⟨g, 0, none⟩), .int .i64 s] w fun e w' => e = .returned (.tuple #[rqV (fst S.all s), .bool (fst S.all s).isSome]) ∧ Below w.heap.size w w' := by
 have hT := bk_lie h
 have ef : fst S.all s = ((opT H.T).find? (fun p => p.2.r.st == s)).map (·.2.r) := by
  unfold fst
  rw [hT.ops, List.find?_map]
  rfl
 have hfew : (opT H.T).length ≤ 1000 := by
  have := hT.1.few
  rw [hT.ops, List.length_map] at this
  omega
 have hB0 : Below w.heap.size w ((w.alloc (.cells #[.int .i64 s] 3)).alloc (.cells #[.int .i64 0, .int .i64 0, .int .i64 0] 53)) := (below_new w _).alloc (by simp) _
 have h2 := (It.book B g H S).kept h hB0
 have hk : ((w.alloc (.cells #[.int .i64 s] 3)).alloc (.cells #[.int .i64 0, .int .i64 0, .int .i64 0] 53)).cell? ⟨w.heap.size, 0, none⟩ = some (.int .i64 s) := by
  have : ((w.alloc (.cells #[.int .i64 s] 3)).alloc (.cells #[.int .i64 0, .int .i64 0, .int .i64 0] 53)).heap[w.heap.size]? = some (.cells #[.int .i64 s] 3) := by
   rw [Below.heap_alloc _ _ _ (by simp)]; exact heap_new w _
  exact (cells_at this 0).1
 obtain ⟨a, c, ev⟩ := (bk_row h).rd.form
 obtain ⟨c0, c1, c2, cf⟩ := bk_cells h2
 rw [ev] at c1
 have hrow := (bk_row h2).rd
 rw [ev] at hrow
 have hsz : ((w.alloc (.cells #[.int .i64 s] 3)).alloc (.cells #[.int .i64 0, .int .i64 0, .int .i64 0] 53)).heap.size = w.heap.size + 2 := by simp
 rw [List.length_map] at hrow c1
 have KF := hide (first35_any a _ c w.heap.size (opT H.T) s _ rfl hrow hfew (fun p hp => bk_ents h2 p (List.mem_filter.1 hp).1) hk)
 have HE : ∀ p, (opT H.T).find? (fun p => p.2.r.st == s) = some p → ((w.alloc (.cells #[.int .i64 s] 3)).alloc (.cells #[.int .i64 0, .int .i64 0, .int .i64 0] 53)).heap[p.1]? = some (.cells (enC p.2) 194) := fun p hp => bk_ents h2 p (List.mem_filter.1 (List.mem_of_find?_eq_some hp)).1
 have KR : Hid (∀ q, Calls Tryz.prog 172 #[ptV ((opT H.T).find? (fun p => p.2.r.st == s)), .bool ((opT H.T).find? (fun p => p.2.r.st == s)).isSome] (((w.alloc (.cells #[.int .i64 s] 3)).alloc (.cells #[.int .i64 0, .int .i64 0, .int .i64 0] 53)).drewN q) fun e w' => e = .returned (.tuple #[rqV (fst S.all s), .bool (fst S.all s).isSome]) ∧ Below (w.heap.size + 2) ((w.alloc (.cells #[.int .i64 s] 3)).alloc (.cells #[.int .i64 0, .int .i64 0, .int .i64 0] 53)) w') := hide (fun q => by
  refine (request_any (((w.alloc (.cells #[.int .i64 s] 3)).alloc (.cells #[.int .i64 0, .int .i64 0, .int .i64 0] 53)).drewN q) _ (fun p hp => HE p hp)).mono ?_
  rintro e w' ⟨rfl, hb⟩
  rw [show (((w.alloc (.cells #[.int .i64 s] 3)).alloc (.cells #[.int .i64 0, .int .i64 0, .int .i64 0] 53)).drewN q).heap.size = w.heap.size + 2 from hsz] at hb
  rw [ef]
  exact ⟨by rw [Option.isSome_map], ⟨hb.os, hb.tape, hb.output, hb.size, hb.block⟩⟩)
 have HS : Hid (∀ w', Below (w.heap.size + 2) ((w.alloc (.cells #[.int .i64 s] 3)).alloc (.cells #[.int .i64 0, .int .i64 0, .int .i64 0] 53)) w' → w'.heap[w.heap.size + 1]? = some (.cells #[.int .i64 0, .int .i64 0, .int .i64 0] 53) ∧ ∀ u v t, Below w.heap.size w (((w'.setCell ⟨w.heap.size + 1, 0, none⟩ u).setCell ⟨w.heap.size + 1, 1, none⟩ v).setCell ⟨w.heap.size + 1, 2, none⟩ t)) := hide (fun w' hb => ⟨by
  rw [hb.block _ (by omega)]
  rw [show w.heap.size + 1 = (w.alloc (.cells #[.int .i64 s] 3)).heap.size by simp]
  exact heap_new _ _, fun u v t => by
   have hb2 : Below w.heap.size w w' := ⟨hb.os.trans hB0.os, hb.tape.trans hB0.tape, hb.output.trans hB0.output, Nat.le_trans hB0.size hb.size, fun k hk => (hb.block k (by omega)).trans (hB0.block k hk)⟩
   exact ((hb2.setCell (by simp) _).setCell (by simp) _).setCell (by simp) _⟩)
 obtain ⟨x, y, z, exyz⟩ := rqV_form (fst S.all s)
 rw [exyz] at KR ⊢
 generalize (fst S.all s).isSome = bb at *
 clear exyz ef HE
 generalize ((opT H.T).find? (fun p => p.2.r.st == s)).isSome = b2 at *
 generalize ptV ((opT H.T).find? (fun p => p.2.r.st == s)) = pv at *
 generalize (opT H.T).length = n at *
 clear h h2 hT hfew hB0 hk ev c0 c2 cf hrow hsz
 go_enter Tryz.func180, Tryz.ntmps180
 go_wp2_with (first
  | (go_at_call 173; refine KF.out.mono ?_; rintro e w1 ⟨rfl, q1, rfl⟩)
  | (go_at_call 172; refine (KR.out _).mono ?_; rintro e w2 ⟨rfl, hb⟩; obtain ⟨hx, hb'⟩ := HS.out _ hb; have HB := hide hb'; clear hb hb'; obtain ⟨x0, f0⟩ := cells_at hx 0; obtain ⟨x1, f1⟩ := cells_at hx 1; obtain ⟨x2, f2⟩ := cells_at hx 2; have HX := hide hx; clear hx))
 have h9 := put3 HX.out (.int .i64 x) (.int .i64 y) (.int .i64 z)
 obtain ⟨y0, _⟩ := cells_at h9 0
 obtain ⟨y1, _⟩ := cells_at h9 1
 obtain ⟨y2, _⟩ := cells_at h9 2
 exact bodyPost_ret (v := .tuple #[.agg #[.int .i64 x, .int .i64 y, .int .i64 z], .bool bb]) (by simp [results, Tryz.results180, go_sem, y0, y1, y2]) rfl ⟨rfl, HB.out _ _ _⟩
set_option maxRecDepth 100000 in
set_option maxHeartbeats 2000000 in
theorem wanted_any {w : World} {B g : Nat} {H : Hb} {S : Bk} (h : (It.book B g H S).P w) (s : Int) : Calls Tryz.prog 110 #[.pointer (some ⟨g, 0, none⟩), .int .i64 s] w fun e w' => e = .returned (.tuple #[rqV (wnt S.all s), .bool (wnt S.all s).isSome]) ∧ Below w.heap.size w w' := by
 have hT := bk_lie h
 have ef : wnt S.all s = ((opT H.T).find? (fun p => p.2.r.tt == s)).map (·.2.r) := by
  unfold wnt
  rw [hT.ops, List.find?_map]
  rfl
 have hfew : (opT H.T).length ≤ 1000 := by
  have := hT.1.few
  rw [hT.ops, List.length_map] at this
  omega
 have hB0 : Below w.heap.size w ((w.alloc (.cells #[.int .i64 s] 3)).alloc (.cells #[.int .i64 0, .int .i64 0, .int .i64 0] 53)) := (below_new w _).alloc (by simp) _
 have h2 := (It.book B g H S).kept h hB0
 have hk : ((w.alloc (.cells #[.int .i64 s] 3)).alloc (.cells #[.int .i64 0, .int .i64 0, .int .i64 0] 53)).cell? ⟨w.heap.size, 0, none⟩ = some (.int .i64 s) := by
  have : ((w.alloc (.cells #[.int .i64 s] 3)).alloc (.cells #[.int .i64 0, .int .i64 0, .int .i64 0] 53)).heap[w.heap.size]? = some (.cells #[.int .i64 s] 3) := by
   rw [Below.heap_alloc _ _ _ (by simp)]; exact heap_new w _
  exact (cells_at this 0).1
 obtain ⟨a, c, ev⟩ := (bk_row h).rd.form
 obtain ⟨c0, c1, c2, cf⟩ := bk_cells h2
 rw [ev] at c1
 have hrow := (bk_row h2).rd
 rw [ev] at hrow
 have hsz : ((w.alloc (.cells #[.int .i64 s] 3)).alloc (.cells #[.int .i64 0, .int .i64 0, .int .i64 0] 53)).heap.size = w.heap.size + 2 := by simp
 rw [List.length_map] at hrow c1
 have KF := hide (first36_any a _ c w.heap.size (opT H.T) s _ rfl hrow hfew (fun p hp => bk_ents h2 p (List.mem_filter.1 hp).1) hk)
 have HE : ∀ p, (opT H.T).find? (fun p => p.2.r.tt == s) = some p → ((w.alloc (.cells #[.int .i64 s] 3)).alloc (.cells #[.int .i64 0, .int .i64 0, .int .i64 0] 53)).heap[p.1]? = some (.cells (enC p.2) 194) := fun p hp => bk_ents h2 p (List.mem_filter.1 (List.mem_of_find?_eq_some hp)).1
 have KR : Hid (∀ q, Calls Tryz.prog 172 #[ptV ((opT H.T).find? (fun p => p.2.r.tt == s)), .bool ((opT H.T).find? (fun p => p.2.r.tt == s)).isSome] (((w.alloc (.cells #[.int .i64 s] 3)).alloc (.cells #[.int .i64 0, .int .i64 0, .int .i64 0] 53)).drewN q) fun e w' => e = .returned (.tuple #[rqV (wnt S.all s), .bool (wnt S.all s).isSome]) ∧ Below (w.heap.size + 2) ((w.alloc (.cells #[.int .i64 s] 3)).alloc (.cells #[.int .i64 0, .int .i64 0, .int .i64 0] 53)) w') := hide (fun q => by
  refine (request_any (((w.alloc (.cells #[.int .i64 s] 3)).alloc (.cells #[.int .i64 0, .int .i64 0, .int .i64 0] 53)).drewN q) _ (fun p hp => HE p hp)).mono ?_
  rintro e w' ⟨rfl, hb⟩
  rw [show (((w.alloc (.cells #[.int .i64 s] 3)).alloc (.cells #[.int .i64 0, .int .i64 0, .int .i64 0] 53)).drewN q).heap.size = w.heap.size + 2 from hsz] at hb
  rw [ef]
  exact ⟨by rw [Option.isSome_map], ⟨hb.os, hb.tape, hb.output, hb.size, hb.block⟩⟩)
 have HS : Hid (∀ w', Below (w.heap.size + 2) ((w.alloc (.cells #[.int .i64 s] 3)).alloc (.cells #[.int .i64 0, .int .i64 0, .int .i64 0] 53)) w' → w'.heap[w.heap.size + 1]? = some (.cells #[.int .i64 0, .int .i64 0, .int .i64 0] 53) ∧ ∀ u v t, Below w.heap.size w (((w'.setCell ⟨w.heap.size + 1, 0, none⟩ u).setCell ⟨w.heap.size + 1, 1, none⟩ v).setCell ⟨w.heap.size + 1, 2, none⟩ t)) := hide (fun w' hb => ⟨by
  rw [hb.block _ (by omega)]
  rw [show w.heap.size + 1 = (w.alloc (.cells #[.int .i64 s] 3)).heap.size by simp]
  exact heap_new _ _, fun u v t => by
   have hb2 : Below w.heap.size w w' := ⟨hb.os.trans hB0.os, hb.tape.trans hB0.tape, hb.output.trans hB0.output, Nat.le_trans hB0.size hb.size, fun k hk => (hb.block k (by omega)).trans (hB0.block k hk)⟩
   exact ((hb2.setCell (by simp) _).setCell (by simp) _).setCell (by simp) _⟩)
 obtain ⟨x, y, z, exyz⟩ := rqV_form (wnt S.all s)
 rw [exyz] at KR ⊢
 generalize (wnt S.all s).isSome = bb at *
 clear exyz ef HE
 generalize ((opT H.T).find? (fun p => p.2.r.tt == s)).isSome = b2 at *
 generalize ptV ((opT H.T).find? (fun p => p.2.r.tt == s)) = pv at *
 generalize (opT H.T).length = n at *
 clear h h2 hT hfew hB0 hk ev c0 c2 cf hrow hsz
 go_enter Tryz.func110, Tryz.ntmps110
 go_wp2_with (first
  | (go_at_call 173; refine KF.out.mono ?_; rintro e w1 ⟨rfl, q1, rfl⟩)
  | (go_at_call 172; refine (KR.out _).mono ?_; rintro e w2 ⟨rfl, hb⟩; obtain ⟨hx, hb'⟩ := HS.out _ hb; have HB := hide hb'; clear hb hb'; obtain ⟨x0, f0⟩ := cells_at hx 0; obtain ⟨x1, f1⟩ := cells_at hx 1; obtain ⟨x2, f2⟩ := cells_at hx 2; have HX := hide hx; clear hx))
 have h9 := put3 HX.out (.int .i64 x) (.int .i64 y) (.int .i64 z)
 obtain ⟨y0, _⟩ := cells_at h9 0
 obtain ⟨y1, _⟩ := cells_at h9 1
 obtain ⟨y2, _⟩ := cells_at h9 2
 exact bodyPost_ret (v := .tuple #[.agg #[.int .i64 x, .int .i64 y, .int .i64 z], .bool bb]) (by simp [results, Tryz.results110, go_sem, y0, y1, y2]) rfl ⟨rfl, HB.out _ _ _⟩
end Go.Proofs.YtocmngpoemfpkabGreatDoor

namespace Go.Proofs.YtocmngpoemfpkabGreatDoor
open Go.RowKit
def putL (cur : Array Value) (o : Nat) : List Value → Array Value
 | [] => cur
 | v :: r => putL (cur.setIfInBounds o v) (o + 1) r
theorem putL_size : ∀ (vs : List Value) (cur : Array Value) (o : Nat), (putL cur o vs).size = cur.size
 | [], _, _ => rfl
 | v :: r, cur, o => by
  show (putL (cur.setIfInBounds o v) (o + 1) r).size = _
  rw [putL_size r]; simp
theorem putL_list : ∀ (vs : List Value) (cur : Array Value) (o : Nat), o + vs.length ≤ cur.size → (putL cur o vs).toList = cur.toList.take o ++ vs ++ cur.toList.drop (o + vs.length)
 | [], cur, o, _ => by simp [putL]
 | v :: r, cur, o, h => by
  show (putL (cur.setIfInBounds o v) (o + 1) r).toList = _
  simp only [List.length_cons] at h
  rw [putL_list r _ _ (by simp; omega), Array.toList_setIfInBounds]
  have hl : o < cur.toList.length := by simp; omega
  rw [show o + 1 + r.length = o + (v :: r).length by simp; omega]
  have h1 : (cur.toList.set o v).take (o + 1) = cur.toList.take o ++ [v] := by
   rw [List.take_add_one, List.take_set, List.set_eq_of_length_le (by rw [List.length_take]; omega), List.getElem?_set_self hl]
   rfl
  have h2 : (cur.toList.set o v).drop (o + (v :: r).length) = cur.toList.drop (o + (v :: r).length) := by
   rw [List.drop_set_of_lt (by simp only [List.length_cons]; omega)]
  rw [h1, h2]
  simp
theorem cells_heap (b : Nat) (e : TypeId) : ∀ (vs : List Value) (o : Nat) (w : World) (cur : Array Value), w.heap[b]? = some (.cells cur e) → (w.setCells b o vs).heap[b]? = some (.cells (putL cur o vs) e)
 | [], _, _, _, h => h
 | v :: r, o, w, cur, h => cells_heap b e r (o + 1) _ _ (heap_put h v)
theorem cells_grown (b : Nat) : ∀ (vs : List Value) (o : Nat) (w : World), w.grownBy (w.setCells b o vs) (some b) ∧ (w.setCells b o vs).heap.size = w.heap.size
 | [], _, w => ⟨⟨rfl, rfl, rfl, Nat.le_refl _, fun _ _ _ => rfl⟩, rfl⟩
 | v :: r, o, w => by
  obtain ⟨h1, h2⟩ := cells_grown b r (o + 1) (w.setCell ⟨b, o, none⟩ v)
  have hz : (w.setCell ⟨b, o, none⟩ v).heap.size = w.heap.size := by simp [World.setCell]
  refine ⟨⟨h1.os, h1.tape, h1.output, by rw [← hz]; exact h1.size, fun k hk hne => ?_⟩, h2.trans hz⟩
  show ((w.setCell ⟨b, o, none⟩ v).setCells b (o + 1) r).heap[k]? = _
  rw [h1.block k (by rw [hz]; exact hk) hne]
  exact Below.heap_setCell _ _ _ _ (fun e => hne (by rw [show k = b from e]))
def zeros (n : Nat) : List Value := (Builtin.zeroCells #[.pointer none] n).toList
theorem zeros_len (n : Nat) : (zeros n).length = n * 1 := by simp [zeros, Builtin.zeroCells]
theorem zeros_one (n : Nat) (v : Value) (h : v ∈ zeros n) : v.oneCell' = true := by
 simp only [zeros, Builtin.zeroCells, Array.toList_map, List.mem_map] at h
 obtain ⟨i, _, rfl⟩ := h
 have hiB : i % 1 = 0 := Nat.mod_one _
 show Value.oneCell' (#[Value.pointer none][i % 1]!) = true
 rw [hiB]
 rfl
theorem run_clear_pc (w : World) (ty : TypeId) (b o n c : Nat) (hn : 0 < n) (hc : ∀ j, j < n * 1 → (w.cell? ⟨b, o + j, none⟩).isSome = true) (hf : ∀ j, j < n * 1 → w.frozen? ⟨b, o + j, none⟩ = false) :
  (Builtin.clear_ #[188] ty #[.slice (some ⟨b, o, none⟩) n c]).run Tryz.prog w = .ok (.tuple #[]) (w.setCells b o (zeros n)) := by
 have hst := run_storeCells_cells (P := Tryz.prog) b o (zeros n) 0 w (by simpa [zeros_len] using hc) (by simpa [zeros_len] using hf) (zeros_one n)
 simp only [Nat.add_zero] at hst
 obtain ⟨m, rfl⟩ : ∃ m, n = m + 1 := ⟨n - 1, by omega⟩
 have hz : (Builtin.zeroCells (Value.pointer none).cells (m + 1)).toList = zeros (m + 1) := rfl
 simp [Builtin.clear_, run_underlying Tryz.underlying188, hz, hst]
theorem infoI : (Tryz.prog.info? 185).map (fun i => i.size) = some 1 := by kernel_rfl
theorem fl_take (ps : List Nat) (i : Nat) (h : i ≤ ps.length) : (ptrE.fl ps).take (i * 1) = ptrE.fl (ps.take i) := by
 have e : ptrE.fl ps = ptrE.fl (ps.take i) ++ ptrE.fl (ps.drop i) := by rw [← ptrE.fl_app, List.take_append_drop]
 have hl : (ptrE.fl (ps.take i)).length = i * 1 := by rw [ptrE.fl_len, List.length_take, Nat.min_eq_left h]; rfl
 rw [e, List.take_append_of_le_length (by omega), List.take_of_length_le (by omega)]
theorem fl_drop (ps : List Nat) (i : Nat) (h : i ≤ ps.length) (t : Nat) : (ptrE.fl ps)[i * 1 + t]? = (ptrE.fl (ps.drop i))[t]? := by
 have e : ptrE.fl ps = ptrE.fl (ps.take i) ++ ptrE.fl (ps.drop i) := by rw [← ptrE.fl_app, List.take_append_drop]
 have hl : (ptrE.fl (ps.take i)).length = i * 1 := by rw [ptrE.fl_len, List.length_take, Nat.min_eq_left h]; rfl
 rw [e, List.getElem?_append_right (by omega), hl]
 congr 1; omega
theorem del_own {w w' : World} {B b c : Nat} {ps : List Nat} (h : ptrE.Own w B (.slice (some ⟨b, 0, none⟩) ps.length c) ps) (i j : Nat) (hij : i ≤ j) (hj : j ≤ ps.length) (hw : w'.heap[b]? = (((w.setCells b (0 + i * 1) (ptrE.fl (ps.drop j))).setCells b ((i + (ps.length - j)) * 1) (zeros (ps.length - (i + (ps.length - j)))))).heap[b]?) :
    ptrE.Own w' B (.slice (some ⟨b, 0, none⟩) (i + (ps.length - j)) c) (ps.take i ++ ps.drop j) := by
  have hl : (ps.take i ++ ps.drop j).length = i + (ps.length - j) := by rw [List.length_append, List.length_take, List.length_drop, Nat.min_eq_left (by omega)]
  obtain ⟨h0, h⟩ := h
  rcases h with ⟨h1, _⟩ | ⟨g', cap', cur, h1, hb, hg, hn, hm, hs, ht⟩
  · cases h1
  · simp only [Value.slice.injEq, Option.some.injEq, Addr.mk.injEq] at h1
    obtain ⟨⟨rfl, _⟩, _, rfl⟩ := h1
    have hlen : (ptrE.fl (ps.drop j)).length = (ps.length - j) * 1 := by rw [ptrE.fl_len, List.length_drop]; rfl
    have hs' : cur.size = c * 1 := hs
    have ht' : cur.toList.take (ps.length * 1) = ptrE.fl ps := ht
    have e1 := cells_heap b 185 (ptrE.fl (ps.drop j)) (0 + i * 1) w cur hg
    have e2 := cells_heap b 185 (zeros (ps.length - (i + (ps.length - j)))) ((i + (ps.length - j)) * 1) _ _ e1
    have l1 : (putL cur (0 + i * 1) (ptrE.fl (ps.drop j))).toList = cur.toList.take (i * 1) ++ ptrE.fl (ps.drop j) ++ cur.toList.drop (i * 1 + (ps.length - j) * 1) := by
      rw [putL_list _ _ _ (by rw [hlen]; omega), hlen, Nat.zero_add]
    refine ⟨by rw [ptrE.fl_len], .inr ⟨b, c, _, by rw [hl], hb, hw.trans e2, by omega, hm, ?_, ?_⟩⟩
    · rw [putL_size, putL_size]; exact hs
    · rw [hl]
      show List.take ((i + (ps.length - j)) * 1) _ = _
      rw [putL_list _ _ _ (by rw [zeros_len, putL_size]; omega), l1]
      have k1 : (cur.toList.take (i * 1)).length = i * 1 := by rw [List.length_take]; simp; omega
      have k2 : (cur.toList.take (i * 1) ++ ptrE.fl (ps.drop j)).length = (i + (ps.length - j)) * 1 := by rw [List.length_append, k1, hlen]; omega
      have k3 : cur.toList.take (i * 1) = ptrE.fl (ps.take i) := by
        rw [← fl_take ps i (by omega), ← ht', List.take_take, Nat.min_eq_left (by omega)]
      rw [List.append_assoc, List.take_append_of_le_length (by rw [List.length_take, List.length_append]; omega), List.take_take, Nat.min_self, List.take_append_of_le_length (by omega), List.take_of_length_le (by omega), k3, ptrE.fl_app]
set_option maxRecDepth 100000 in
set_option maxHeartbeats 4000000 in
theorem delete_any {w : World} {B : Nat} {v : Value} {ps : List Nat} (hL : ptrE.Own w B v ps) (i j : Nat) (hij : i ≤ j) (hj : j ≤ ps.length) (hm : ps.length ≤ 1000) :
    Calls Tryz.prog 178 #[v, .int .i64 i, .int .i64 j] w fun e w' => ∃ v', e = .returned v' ∧ ptrE.Own w' B v' (ps.take i ++ ps.drop j) ∧ w.grownBy w' v.ownBlock ∧ v'.ownBlock = v.ownBlock := by
  obtain ⟨a, c, rfl, hc, hcm⟩ : ∃ a c, v = .slice a ps.length c ∧ ps.length ≤ c ∧ c ≤ maxLen := by
    rcases hL.2 with ⟨h1, h2⟩ | ⟨g, cap, cur, h1, hb, _, hn, hm, _⟩
    · exact ⟨none, 0, by rw [h1, h2], by omega, by unfold maxLen; omega⟩
    · exact ⟨_, cap, h1, hn, hm⟩
  have hcm' : c ≤ 9223372036854775807 := by unfold maxLen at hcm; omega
  have hic : i ≤ c := by omega
  have hjc : j ≤ c := by omega
  by_cases heq : i = j
  · subst heq
    have HL := hide hL
    have i0 : (0 : Int) ≤ (i : Int) := by omega
    have i1 : (i : Int) ≤ (ps.length : Int) := by omega
    have i2 : (i : Int) ≤ (c : Int) := by omega
    have i3 : (ps.length : Int) ≤ (c : Int) := by omega
    have h0 : Calls Tryz.prog 178 #[.slice a ps.length c, .int .i64 i, .int .i64 i] w fun e w' => e = .returned (.slice a ps.length c) ∧ w' = w := by
      clear hL HL hm
      generalize ps.length = n at *
      go_enter Tryz.func178, Tryz.ntmps178
      go_wp2
      all_goals (go_ret; exact ⟨rfl, rfl⟩)
    refine h0.mono ?_
    rintro e w' ⟨rfl, rfl⟩
    exact ⟨_, rfl, by rw [List.take_append_drop]; exact hL, ⟨rfl, rfl, rfl, Nat.le_refl _, fun _ _ _ => rfl⟩, rfl⟩
  · have hlt : i < j := by omega
    obtain ⟨b, c', hv, _⟩ := hL.some (fun e => by rw [e] at hj; simp at hj; omega)
    simp only [Value.slice.injEq] at hv
    obtain ⟨rfl, _, rfl⟩ := hv
    have hrow := hL
    obtain ⟨n, hnn⟩ : ∃ n, ps.length = n := ⟨_, rfl⟩
    obtain ⟨news, hnews⟩ : ∃ news, news = ptrE.fl (ps.drop j) := ⟨_, rfl⟩
    have hlen : news.length = (n - j) * 1 := by rw [hnews, ptrE.fl_len, List.length_drop, hnn]; rfl
    have hcell : ∀ t, t < n * 1 → w.cell? ⟨b, t, none⟩ = (ptrE.fl ps)[t]? ∧ w.frozen? ⟨b, t, none⟩ = false := fun t ht => by
      obtain ⟨k1, k2, _⟩ := hrow.cell t (by rw [hnn]; exact ht)
      exact ⟨k1, k2⟩
    have hsome : ∀ t, t < n * 1 → (w.cell? ⟨b, t, none⟩).isSome = true := fun t ht => by
      rw [(hcell t ht).1, List.getElem?_eq_getElem (by rw [ptrE.fl_len, hnn]; exact ht)]; rfl
    obtain ⟨A, hA, hsrc⟩ : ∃ A : Addr, (if c = j then some (⟨b, 0, none⟩ : Addr) else some ⟨b, j * 1, none⟩) = some A ∧ Hid (∀ t u, news[t]? = some u → w.drew.cell? (A.add t) = some u) := by
      by_cases h : c = j
      · refine ⟨⟨b, 0, none⟩, by simp [h], fun t u hu => ?_⟩
        have h0 : news.length = 0 := by rw [hlen]; omega
        rw [List.length_eq_zero_iff.1 h0] at hu
        simp at hu
      · refine ⟨⟨b, j * 1, none⟩, by simp [h], fun t u hu => ?_⟩
        have ht : t < (n - j) * 1 := by
          have := (List.getElem?_eq_some_iff.1 hu).1
          rwa [hlen] at this
        rw [addr_plain]
        show w.cell? _ = _
        rw [(hcell (j * 1 + t) (by omega)).1, fl_drop ps j hj, ← hnews]
        exact hu
    have s1 : Hid (news.length = (n - j) * 1) := hlen
    have s2 : Hid (∀ u ∈ news, u.oneCell' = true) := by
      intro u hu
      rw [hnews] at hu
      obtain ⟨x, _, hx⟩ := List.mem_flatMap.1 hu
      exact ptrE.one x u hx
    have s3 : Hid (∀ t, t < news.length → (w.drew.cell? ⟨b, 0 + i * 1 + t, none⟩).isSome = true ∧ w.drew.frozen? ⟨b, 0 + i * 1 + t, none⟩ = false) := by
      intro t ht
      rw [hlen] at ht
      rw [Nat.zero_add]
      exact ⟨hsome _ (by omega), (hcell _ (by omega)).2⟩
    obtain ⟨i0, hi0, hz1⟩ := Option.map_eq_some_iff.1 infoI
    have hz1' : i0.size = 1 := hz1
    obtain ⟨W1, hW1⟩ : ∃ W1, W1 = w.drew.setCells b (0 + i * 1) news := ⟨_, rfl⟩
    have hg1 := cells_grown b news (0 + i * 1) w.drew
    have hcl : ∀ ty, (Builtin.clear_ #[188] ty #[.slice (some ⟨b, (i + (n - j)) * 1, none⟩) (n - (i + (n - j))) (c - (i + (n - j)))]).run Tryz.prog W1 = .ok (.tuple #[]) (W1.setCells b ((i + (n - j)) * 1) (zeros (n - (i + (n - j))))) := by
      intro ty
      have hfr : ∀ t, t < n * 1 → (W1.cell? ⟨b, t, none⟩).isSome = true ∧ W1.frozen? ⟨b, t, none⟩ = false := by
        intro t ht
        obtain ⟨cur, hcur, hcs⟩ : ∃ cur, w.heap[b]? = some (.cells cur 185) ∧ cur.size = c * 1 := by
          rcases hrow.2 with ⟨h1, _⟩ | ⟨g', cap', cur, h1, hb, hg, hn, hm, hs, ht⟩
          · cases h1
          · simp only [Value.slice.injEq, Option.some.injEq, Addr.mk.injEq] at h1
            obtain ⟨⟨rfl, _⟩, _, rfl⟩ := h1
            exact ⟨cur, hg, hs⟩
        have e := cells_heap b 185 news (0 + i * 1) w.drew cur hcur
        rw [← hW1] at e
        constructor
        · unfold World.cell?
          simp only [e]
          show ((putL cur (0 + i * 1) news)[t]?).isSome = true
          rw [Array.getElem?_eq_getElem (by rw [putL_size]; omega)]; rfl
        · unfold World.frozen?
          simp [e]
      exact run_clear_pc W1 ty b _ _ _ (by omega) (fun t ht => (hfr _ (by omega)).1) (fun t ht => (hfr _ (by omega)).2)
    have hg2 := cells_grown b (zeros (n - (i + (n - j)))) ((i + (n - j)) * 1) W1
    have HR : Hid (∃ v', (Value.slice (some ⟨b, 0, none⟩) (i + (n - j)) c) = v' ∧ ptrE.Own (W1.setCells b ((i + (n - j)) * 1) (zeros (n - (i + (n - j))))) B v' (ps.take i ++ ps.drop j) ∧ w.grownBy (W1.setCells b ((i + (n - j)) * 1) (zeros (n - (i + (n - j))))) (some b) ∧ v'.ownBlock = some b) := by
      have g1 : w.grownBy W1 (some b) := by rw [hW1]; exact ⟨hg1.1.os, hg1.1.tape, hg1.1.output, hg1.1.size, hg1.1.block⟩
      have g2 : w.grownBy (W1.setCells b ((i + (n - j)) * 1) (zeros (n - (i + (n - j))))) (some b) := ⟨hg2.1.os.trans g1.os, hg2.1.tape.trans g1.tape, hg2.1.output.trans g1.output, Nat.le_trans g1.size hg2.1.size, fun k hk hne => (hg2.1.block k (Nat.lt_of_lt_of_le hk g1.size) hne).trans (g1.block k hk hne)⟩
      refine hide ⟨_, rfl, ?_, g2, rfl⟩
      · have := del_own (w := w.drew) (w' := W1.setCells b ((i + (n - j)) * 1) (zeros (n - (i + (n - j))))) (B := B) (ps := ps) (c := c) (b := b) (hrow.keep ⟨rfl, rfl, rfl, Nat.le_refl _, fun _ _ => rfl⟩) i j hij hj (by rw [hW1, hnn, hnews])
        rw [hnn] at this
        exact this
    have hW : Hid (W1 = w.drew.setCells b (0 + i * 1) news) := hW1
    rw [hnn]
    clear hW1 hg1 hg2 hcell hsome hrow hL hnews hlen
    have j0 : (0 : Int) ≤ (i : Int) := by omega
    have j1 : (i : Int) < (j : Int) := by omega
    have j2 : (j : Int) ≤ (n : Int) := by omega
    have j3 : (n : Int) ≤ (c : Int) := by omega
    simp only [Nat.mul_one] at hA hcl HR
    go_enter Tryz.func178, Tryz.ntmps178
    go_wp2_with fail
    go_region_law (refine step_append_room rfl (.tmp 22) (.tmp 25) 188 rfl 185 i0 1 Tryz.underlying188 hi0 hz1' b 0 i c (by simp [Act.eval, Act.put]) A (n - j) (c - j) news (by simp [Act.eval, Act.put]) s1.out hsrc.out s2.out (by omega) s3.out ?_; rw [← hW.out])
    go_wp2
    go_ret
    obtain ⟨v', rfl, h1, h2, h3⟩ := HR.out
    exact ⟨_, rfl, h1, h2, h3⟩
theorem nodup_inj {α : Type} : ∀ {l : List α} {i j : Nat} (hn : l.Nodup) (hiB : i < l.length) (hj : j < l.length), l[i] = l[j] → i = j := by
  intro l i j hn hiB hj h
  rcases Nat.lt_trichotomy i j with q | q | q
  · exact absurd h ((List.pairwise_iff_getElem.1 hn) i j hiB hj q)
  · exact q
  · exact absurd h.symm ((List.pairwise_iff_getElem.1 hn) j i hj hiB q)
theorem info67 : (Tryz.prog.info? 194).map (fun i => i.size) = some 4 := by kernel_rfl
theorem rq_equal (w : World) (a b : Rq) : (Op.equalIn 10000 53 (.agg #[.int .i64 a.id, .int .i64 a.st, .int .i64 a.tt]) (.agg #[.int .i64 b.id, .int .i64 b.st, .int .i64 b.tt])).run Tryz.prog w = .ok (decide (a = b)) w := by
  obtain ⟨s, k, z⟩ := a
  obtain ⟨s', k', z'⟩ := b
  have hu : Tryz.prog.underlying 53 = some (.struct (Tryz.prog.fieldsOf 53)) := by kernel_rfl
  have hp : Tryz.prog.stoodInHeld 53 = false := by kernel_rfl
  rw [show (10000 : Nat) = 9998 + 1 + 1 from rfl, run_equalIn_struct w (9998 + 1) 53 _ _ hu hp]
  have hf : (Tryz.prog.fieldsOf 53).toList.map (fun f => (f.name == "_", f.type, f.offset)) = [(false, 3, 0), (false, 3, 1), (false, 3, 2)] := by kernel_rfl
  have p3 : ∀ (xs : Array Value) (j : Nat) (v : Value), xs[j]? = some v → (part 3 xs j).run Tryz.prog w = .ok v w := fun xs j v h => by
    have ag : (isAgg 3).run Tryz.prog w = .ok false w := by kernel_rfl
    simp [part, ag, h]
  obtain ⟨fs, hfs⟩ : ∃ fs, (Tryz.prog.fieldsOf 53).toList = fs := ⟨_, rfl⟩
  rw [hfs] at hf ⊢
  have hl3 : fs.length = 3 := by have := congrArg List.length hf; simpa using this
  match fs, hl3 with
  | [f0, f1, f2], _ =>
    simp only [List.map_cons, List.map_nil, List.cons.injEq, Prod.mk.injEq, and_true] at hf
    obtain ⟨⟨n0, t0, o0⟩, ⟨n1, t1, o1⟩, ⟨n2, t2, o2⟩⟩ := hf
    have m0 : f0.name ≠ "_" := by simpa using n0
    have m1 : f1.name ≠ "_" := by simpa using n1
    have m2 : f2.name ≠ "_" := by simpa using n2
    rw [Op.eqFields, if_pos m0, t0, o0]
    simp only [Sem.run_bind]
    rw [p3 _ 0 (.int .i64 s) rfl]
    simp only [Result.andThen_ok]
    rw [p3 _ 0 (.int .i64 s') rfl]
    simp only [Result.andThen_ok, run_equalIn_int w 9998 3 .i64 .i64 s s' Tryz.underlying3]
    by_cases h1 : s = s'
    · subst h1
      simp only [beq_self_eq_true, Bool.not_true, Bool.false_eq_true, if_false]
      rw [Op.eqFields, if_pos m1, t1, o1]
      simp only [Sem.run_bind]
      rw [p3 _ 1 (.int .i64 k) rfl]
      simp only [Result.andThen_ok]
      rw [p3 _ 1 (.int .i64 k') rfl]
      simp only [Result.andThen_ok, run_equalIn_int w 9998 3 .i64 .i64 k k' Tryz.underlying3]
      by_cases h2 : k = k'
      · subst h2
        simp only [beq_self_eq_true, Bool.not_true, Bool.false_eq_true, if_false]
        rw [Op.eqFields, if_pos m2, t2, o2]
        simp only [Sem.run_bind]
        rw [p3 _ 2 (.int .i64 z) rfl]
        simp only [Result.andThen_ok]
        rw [p3 _ 2 (.int .i64 z') rfl]
        simp only [Result.andThen_ok, run_equalIn_int w 9998 3 .i64 .i64 z z' Tryz.underlying3]
        by_cases h3 : z = z'
        · subst h3; simp [Op.eqFields]
        · simp [h3]
      · simp [h2]
    · simp [h1]
set_option maxRecDepth 100000 in
set_option maxHeartbeats 2000000 in
theorem indexP_any (a : Option Addr) (c n : Nat) (ms : List Nat) (d i : Nat) (w : World) (hn : ms.length = n) (hv : ptrE.Rd w (.slice a n c) ms) (hl : n ≤ 100000) (hd : ms[i]? = some d) (hnd : ms.Nodup) (hall : ∀ d ∈ ms, ∃ C, w.heap[d]? = some (.cells C 194)) :
    Calls Tryz.prog 177 #[.slice a n c, .pointer (some ⟨d, 0, none⟩)] w fun e w' => e = .returned (.int .i64 (i : Int)) ∧ w' = w := by
  have Hn := hide hn
  have Hv := hide hv
  have i0 : (n : Int) ≤ 100000 := by omega
  have hiB : i < n := by rw [← hn]; exact idx_lt hd
  have yes : Hid (∀ k : Nat, ms[k]? = some d → k = i) := hide (fun k h => by
    obtain ⟨h1, h2⟩ := List.getElem?_eq_some_iff.1 h
    obtain ⟨h3, h4⟩ := List.getElem?_eq_some_iff.1 hd
    exact nodup_inj hnd h1 h3 (h2.trans h4.symm))
  have Hd := hide hd
  obtain ⟨i67, hi67, hs67⟩ := Option.map_eq_some_iff.1 info67
  have hsz : i67.size ≠ 0 := by rw [hs67]; decide
  have eqs : ∀ d, (binOp .eql 185 (.pointer (some ⟨d, 0, none⟩)) (.pointer (some ⟨d, 0, none⟩))).run Tryz.prog w = .ok (.bool true) w := fun d => run_eql_ptr_same w _ Tryz.underlying185 hi67
  have eqo : Hid (∀ k p, ms[k]? = some p → d ≠ p → (binOp .eql 185 (.pointer (some ⟨d, 0, none⟩)) (.pointer (some ⟨p, 0, none⟩))).run Tryz.prog w = .ok (.bool false) w) := hide (fun k p hp hne => by
    obtain ⟨C, hC⟩ := hall d (List.mem_of_getElem? hd)
    obtain ⟨C', hC'⟩ := hall p (List.mem_of_getElem? hp)
    exact run_eql_ptr_other w Tryz.underlying185 hi67 hsz (fun e => hne (congrArg (fun a => a.block) e)) hC hC')
  clear hn hv hl hd hnd hall hi67 hs67 hsz
  go_enter Tryz.func177, Tryz.ntmps177
  go_wp2_with fail
  go_loopw [8] (fun v8 wr => ∃ k : Nat, wr = w ∧ v8 = .int .i64 k ∧ k ≤ i) (fun v8 _ => n - (intOf v8).toNat)
  case atStart => exact ⟨0, rfl, rfl, Nat.zero_le _⟩
  case round =>
    obtain ⟨k, rfl, rfl, hk⟩ := hrel
    have hlt : k < n := by omega
    obtain ⟨p, hp⟩ : ∃ p, ms[k]? = some p := ⟨_, List.getElem?_eq_getElem (by rw [Hn.out]; exact hlt)⟩
    obtain ⟨b, off, rfl, c0⟩ := ptr_at Hv.out k p hp
    have j0 : (0 : Int) ≤ (k : Int) := by omega
    have j1 : (k : Int) < (n : Int) := by omega
    have Hp := hide hp
    clear hp
    by_cases he : d = p
    · subst he
      have e1 := yes.out k Hp.out
      subst e1
      go_wp2_with fail
      go_ret
      exact ⟨rfl, rfl⟩
    · have hki : k < i := by
        rcases Nat.lt_or_ge k i with g | g
        · exact g
        · obtain rfl : k = i := by omega
          rw [Hd.out] at Hp
          exact absurd (Option.some.inj Hp.out) he
      have hbe := eqo.out k p Hp.out he
      go_wp2_with fail
      go_roundw
      case rel => exact ⟨k + 1, trivial, by go_num, by omega⟩
      case measure => simp [intOf]; omega
end Go.Proofs.YtocmngpoemfpkabGreatDoor

namespace Go.Proofs.YtocmngpoemfpkabGreatDoor
open Go.RowKit Go.Maps Go.ChangeMaps
def setT1 (x v : Int) (p : Nat × En) : Nat × En := if p.2.r.id = x then (p.1, ⟨p.2.r, v⟩) else p
theorem setT1_fst (x v : Int) (p : Nat × En) : (setT1 x v p).1 = p.1 := by unfold setT1; split <;> rfl
def setT (T : List (Nat × En)) (x v : Int) : List (Nat × En) := T.map (fun p => if p.2.r.id = x then (p.1, ⟨p.2.r, v⟩) else p)
theorem setT_all (T : List (Nat × En)) (x v : Int) : (setT T x v).map (·.2) = setE (T.map (·.2)) x v := by
 unfold setT setE
 rw [List.map_map, List.map_map]
 apply List.map_congr_left
 intro p _
 simp only [Function.comp]
 split <;> rfl
theorem setT_fst (T : List (Nat × En)) (x v : Int) : (setT T x v).map (·.1) = T.map (·.1) := by
 unfold setT
 rw [List.map_map]
 apply List.map_congr_left
 intro p _
 simp only [Function.comp]
 split <;> rfl
theorem setT_fn (T : List (Nat × En)) (x v y : Int) : fnT (setT T x v) y = (fnT T y).map (fun p => if p.2.r.id = x then (p.1, ⟨p.2.r, v⟩) else p) := by
 unfold fnT setT
 rw [List.find?_map]
 congr 2
 funext p
 simp only [Function.comp]
 split <;> rfl
theorem setT_kn (T : List (Nat × En)) (x v : Int) : kn (setT T x v) = kn T := by
 funext y
 unfold kn
 rw [setT_fn, Option.map_map]
 congr 1
 funext p
 simp only [Function.comp]
 split <;> rfl
theorem setT_at {T : List (Nat × En)} {x v : Int} {p : Nat × En} (h : fnT T x = some p) : fnT (setT T x v) x = some (p.1, ⟨p.2.r, v⟩) := by
 rw [setT_fn, h]
 have : p.2.r.id = x := by have := List.find?_some h; simpa using this
 simp [this]
theorem split_at {T : List (Nat × En)} {x : Int} {p : Nat × En} (hn : (T.map (·.2.r.id)).Nodup) (h : fnT T x = some p) : ∃ T1 T2, T = T1 ++ p :: T2 ∧ (∀ q ∈ T1, q.2.r.id ≠ x) ∧ (∀ q ∈ T2, q.2.r.id ≠ x) := by
  obtain ⟨T1, T2, rfl⟩ := List.append_of_mem (fnT_mem h)
  have hp : p.2.r.id = x := by have := List.find?_some h; simpa using this
  rw [List.map_append, List.map_cons, List.nodup_append] at hn
  obtain ⟨_, h2, h3⟩ := hn
  refine ⟨T1, T2, rfl, fun q hq e => ?_, fun q hq e => ?_⟩
  · exact h3 _ (List.mem_map.2 ⟨q, hq, rfl⟩) _ (List.mem_cons_self) (by rw [e, hp])
  · exact (List.nodup_cons.1 h2).1 (List.mem_map.2 ⟨q, hq, by rw [e, hp]⟩)
theorem setT_same {T : List (Nat × En)} {x v : Int} (h : ∀ q ∈ T, q.2.r.id ≠ x) : setT T x v = T := by
 unfold setT
 conv => rhs; rw [← List.map_id T]
 apply List.map_congr_left
 intro q hq
 rw [if_neg (h q hq)]; rfl
theorem setT_split {T1 T2 : List (Nat × En)} {p : Nat × En} {x v : Int} (hp : p.2.r.id = x) (h1 : ∀ q ∈ T1, q.2.r.id ≠ x) (h2 : ∀ q ∈ T2, q.2.r.id ≠ x) : setT (T1 ++ p :: T2) x v = T1 ++ (p.1, ⟨p.2.r, v⟩) :: T2 := by
 have e : setT (T1 ++ p :: T2) x v = setT T1 x v ++ (if p.2.r.id = x then (p.1, ⟨p.2.r, v⟩) else p) :: setT T2 x v := by simp [setT]
 rw [e, setT_same h1, setT_same h2, if_pos hp]
theorem opT_app (a b : List (Nat × En)) : opT (a ++ b) = opT a ++ opT b := by simp [opT]
theorem opT_cons (p : Nat × En) (b : List (Nat × En)) : opT (p :: b) = if p.2.en = 1 then p :: opT b else opT b := by
 unfold opT
 rw [List.filter_cons]
 by_cases h : p.2.en = 1 <;> simp [h]
theorem Lie.ids {T : List (Nat × En)} {S : Bk} (h : Lie T S) : (T.map (·.2.r.id)).Nodup := by
 have := h.1.nd
 rw [h.2.1, List.map_map] at this
 exact this
theorem Lie.set {T : List (Nat × En)} {S : Bk} (h : Lie T S) {x v : Int} (hv : v = 2 ∨ v = 3) (hx : S.sta x = 1) : Lie (setT T x v) ⟨setE S.all x v, S.done⟩ :=
 ⟨h.1.set hv hx _ (.inl rfl), by show setE S.all x v = _; rw [setT_all, h.2.1], by rw [setT_fst]; exact h.2.2⟩
theorem sv_set (S : Bk) (x v : Int) (s : Int) : S.sv s = Bk.sv ⟨setE S.all x v, S.done⟩ s := by
 unfold Bk.sv
 simp only [stn_set]
theorem cut_mid {α : Type} (A C : List α) (x : α) (n : Nat) (hn : n = A.length) : (A ++ x :: C).take n ++ (A ++ x :: C).drop (n + 1) = A ++ C := by
 subst hn
 simp
section
variable {w0 w : World} {g : Nat} {H : Hb} {S : Bk} {l : List It}
theorem fin_one (h : Its w0 (limbs w0.heap.size g H S ++ l) w) (hlie : Lie H.T S) {x v : Int} {p : Nat × En} (hT : fnT H.T x = some p) :
    Its w0 (.row ptrE w0.heap.size H.vo ((opT H.T).map (·.1)) :: .ents (setT H.T x v) :: .box g #[.map (some H.kb), H.vo, .map (some H.sb)] 191 :: .srv w0.heap.size H.sb S.done.length H.fs (Bk.sv ⟨setE S.all x v, S.done⟩) :: .mp H.kb (setE S.all x v).length (kn (setT H.T x v)) :: l) (w.setCell ⟨p.1, 3, none⟩ (.int .i64 v)) := by
  have hpx : p.2.r.id = x := by have := List.find?_some hT; simpa using this
  obtain ⟨T1, T2, eT, h1, h2⟩ := split_at hlie.ids hT
  have he : ∀ q ∈ H.T, w.heap[q.1]? = some (.cells (enC q.2) 194) := h.all (.ents H.T) (by simp [limbs])
  have hs := h.swap
  have hc := hs.chg (x' := .ents (setT H.T x v)) (w' := w.setCell ⟨p.1, 3, none⟩ (.int .i64 v)) (by
    intro q hq
    rw [eT, setT_split hpx h1 h2] at hq
    have hnd := hlie.2.2
    rw [eT, List.map_append, List.map_cons, List.nodup_append] at hnd
    have other : ∀ q ∈ H.T, q.1 ≠ p.1 → (w.setCell ⟨p.1, 3, none⟩ (.int .i64 v)).heap[q.1]? = some (.cells (enC q.2) 194) := fun q hq hne => by
      rw [Below.heap_setCell _ _ _ _ hne]; exact he q hq
    rcases List.mem_append.1 hq with hq | hq
    · exact other q (by rw [eT]; exact List.mem_append.2 (.inl hq)) (hnd.2.2 _ (List.mem_map.2 ⟨q, hq, rfl⟩) _ (List.mem_cons_self))
    · rcases List.mem_cons.1 hq with rfl | hq
      · show (w.setCell ⟨p.1, 3, none⟩ _).heap[p.1]? = _
        rw [heap_put (he p (fnT_mem hT))]; rfl
      · exact other q (by rw [eT]; exact List.mem_append.2 (.inr (List.mem_cons_of_mem _ hq))) (fun e => (List.nodup_cons.1 hnd.2.1).1 (List.mem_map.2 ⟨q, hq, e⟩)))
    (fun k hk => .inl (by
      obtain ⟨q, hq, rfl⟩ := hk
      have : q.1 ∈ (setT H.T x v).map (·.1) := List.mem_map.2 ⟨q, hq, rfl⟩
      rw [setT_fst] at this
      obtain ⟨q', hq', e⟩ := List.mem_map.1 this
      exact ⟨q', hq', e⟩))
    ((Frm.set w p.1 3 _).mono fun k _ e => ⟨p, fnT_mem hT, e.symm⟩)
  have e1 : Bk.sv ⟨setE S.all x v, S.done⟩ = S.sv := funext fun s => (sv_set S x v s).symm
  have e2 : (setE S.all x v).length = S.all.length := by simp [setE]
  rw [e1, e2, setT_kn]
  exact hc.swap
theorem fin_two {w1 w2 : World} {bs bs' : List Nat} {v' : Value} {y : It}
  (h : Its w0 (.row ptrE w0.heap.size H.vo bs :: y :: .box g #[.map (some H.kb), H.vo, .map (some H.sb)] 191 :: l) w1) (ho : ptrE.Own w2 w0.heap.size v' bs') (hg : w1.grownBy w2 H.vo.ownBlock) (hb : v'.ownBlock = H.vo.ownBlock ∨ v'.ownBlock = some w1.heap.size) :
  Its w0 (.row ptrE w0.heap.size v' bs' :: y :: .box g #[.map (some H.kb), v', .map (some H.sb)] 191 :: l) (w2.setCell ⟨g, 1, none⟩ v') ∧ w2.cell? ⟨g, 1, none⟩ = some H.vo ∧ ∀ i, w2.frozen? ⟨g, i, none⟩ = false := by
 have h1 := (h.grow ho hg hb).rot3
 have hbox : w2.heap[g]? = some (.cells #[.map (some H.kb), H.vo, .map (some H.sb)] 191) := h1.one
 refine ⟨?_, (cells_at hbox 1).1, fun i => (cells_at hbox i).2⟩
 refine (h1.chg (x' := .box g #[.map (some H.kb), v', .map (some H.sb)] 191) ?_ (fun k hk => .inl hk) (Frm.set w2 g 1 v')).rot3'
 show (w2.setCell ⟨g, 1, none⟩ v').heap[g]? = _
 rw [heap_put hbox]; rfl
set_option maxRecDepth 100000 in
set_option maxHeartbeats 2000000 in
theorem finish_any (h : Its w0 (.book w0.heap.size g H S :: l) w) {x v : Int} {p : Nat × En} (hT : fnT H.T x = some p) (hp : p.2.en = 1) (hv : v = 2 ∨ v = 3) :
  Calls Tryz.prog 117 #[.pointer (some ⟨g, 0, none⟩), .pointer (some ⟨p.1, 0, none⟩), .int .i64 v] w fun e w' => e = .returned (.tuple #[]) ∧ ∃ H', Its w0 (.book w0.heap.size g H' ⟨setE S.all x v, S.done⟩ :: l) w' ∧ fnT H'.T x = some (p.1, ⟨p.2.r, v⟩) := by
 obtain ⟨hb, hlie⟩ := h.bopen
 have hsta : S.sta x = 1 := by rw [Bk.sta_of (e := p.2) (by rw [hlie.fnd, hT]; rfl)]; exact hp
 have hpx : p.2.r.id = x := by have := List.find?_some hT; simpa using this
 have h1 := fin_one hb hlie (v := v) hT
 obtain ⟨T1, T2, eT, n1, n2⟩ := split_at hlie.ids hT
 have hfew : (opT H.T).length ≤ 1000 := by
  have := hlie.1.few
  rw [hlie.ops, List.length_map] at this
  omega
 obtain ⟨d0, d1, d2, d3, df⟩ := bk_ent h.one (fnT_mem hT)
 have hbox : (w.setCell ⟨p.1, 3, none⟩ (.int .i64 v)).heap[g]? = some (.cells #[.map (some H.kb), H.vo, .map (some H.sb)] 191) := h1.three
 have hrow := h1.one
 obtain ⟨a, c, ev⟩ := (bk_row h.one).rd.form
 have c1 : (w.setCell ⟨p.1, 3, none⟩ (.int .i64 v)).cell? ⟨g, 1, none⟩ = some H.vo := (cells_at hbox 1).1
 have ei : ((opT H.T).map (·.1))[(opT T1).length]? = some p.1 := by
  rw [eT, opT_app, opT_cons, if_pos hp, List.map_append, List.map_cons, List.getElem?_append_right (by simp)]
  simp
 have hnd : ((opT H.T).map (·.1)).Nodup := hlie.2.2.sublist (List.filter_sublist.map _)
 have hne1 : ¬ v = 1 := by rcases hv with rfl | rfl <;> decide
 have hcut : ((opT H.T).map (·.1)).take (opT T1).length ++ ((opT H.T).map (·.1)).drop ((opT T1).length + 1) = (opT (setT H.T x v)).map (·.1) := by
  rw [eT, setT_split hpx n1 n2, opT_app, opT_app, opT_cons, opT_cons, if_pos hp, if_neg hne1, List.map_append, List.map_append, List.map_cons]
  exact cut_mid _ _ _ _ (by simp)
 have hil : (opT T1).length < ((opT H.T).map (·.1)).length := idx_lt ei
 have hgp : g ≠ p.1 := fun e => by
  have h2 := bk_ents h.one p (fnT_mem hT)
  rw [← e, bk_box h.one] at h2
  simp at h2
 have c1' : w.cell? ⟨g, 1, none⟩ = some H.vo := (bk_cells h.one).2.1
 rw [ev] at c1 c1'
 have hr := hrow
 rw [ev] at hr
 have KI := hide (indexP_any a c _ _ p.1 (opT T1).length _ rfl (El.Own.rd hr) (by simp; omega) ei hnd (fun d hd => by
  obtain ⟨q, hq, rfl⟩ := List.mem_map.1 hd
  have hq' := h1.two (setT1 x v q) (List.mem_map.2 ⟨q, (List.mem_filter.1 hq).1, rfl⟩)
  rw [setT1_fst] at hq'
  exact ⟨_, hq'⟩))
 have KD := hide (delete_any hr (opT T1).length ((opT T1).length + 1) (by omega) (by omega) (by simp; omega))
 rw [hcut, show (((opT T1).length + 1 : Nat) : Int) = ((opT T1).length : Int) + 1 by omega] at KD
 have HR : Hid (∀ v' w2, ptrE.Own w2 w0.heap.size v' ((opT (setT H.T x v)).map (·.1)) → (w.setCell ⟨p.1, 3, none⟩ (.int .i64 v)).grownBy w2 H.vo.ownBlock → v'.ownBlock = H.vo.ownBlock → (∃ H', Its w0 (.book w0.heap.size g H' ⟨setE S.all x v, S.done⟩ :: l) (w2.setCell ⟨g, 1, none⟩ v') ∧ fnT H'.T x = some (p.1, ⟨p.2.r, v⟩)) ∧ w2.cell? ⟨g, 1, none⟩ = some H.vo ∧ ∀ i, w2.frozen? ⟨g, i, none⟩ = false) := hide (fun v' w2 ho hg hbk => by
  obtain ⟨k1, k2, k3⟩ := fin_two h1 ho hg (.inl hbk)
  exact ⟨⟨⟨H.kb, H.sb, v', H.fs, setT H.T x v⟩, Its.bshut (H := ⟨H.kb, H.sb, v', H.fs, setT H.T x v⟩) (S := ⟨setE S.all x v, S.done⟩) k1 (hlie.set hv hsta), setT_at hT⟩, k2, k3⟩)
 rw [ev] at HR
 obtain ⟨i, hiB⟩ : ∃ i, (opT T1).length = i := ⟨_, rfl⟩
 obtain ⟨n, hn⟩ : ∃ n, ((opT H.T).map (·.1)).length = n := ⟨_, rfl⟩
 rw [hn] at KI KD c1 c1' HR hil
 rw [hiB] at KI KD hil
 have hn1 : n ≤ 1000 := by rw [← hn]; simpa using hfew
 have j0 : (0 : Int) ≤ (i : Int) := by omega
 have j1 : (i : Int) ≤ 1000 := by omega
 have hpg : p.1 ≠ g := fun e => hgp e.symm
 obtain ⟨b, e⟩ := p
 simp only at *
 clear h hb hlie hsta hpx h1 eT n1 n2 hfew d0 d1 d2 hbox hrow ev ei hnd hcut hil hr hiB hn hn1 hT hp hv hne1
 go_enter Tryz.func117, Tryz.ntmps117
 go_upto_region 1 with fail
 generalize w.setCell ⟨b, 3, none⟩ (.int .i64 v) = W1 at *
 go_wp2_with (first
  | (go_at_call 177; refine KI.out.mono ?_; rintro e w1 ⟨rfl, rfl⟩)
  | (go_at_call 178; refine KD.out.mono ?_; rintro e w3 ⟨v3, rfl, L3, G3, O3⟩; obtain ⟨a3, n3, rfl⟩ := L3.rd.form; obtain ⟨t1, x4, x5⟩ := HR.out _ _ L3 G3 O3; have HT1 := hide t1; generalize (List.map (fun x => x.fst) (opT (setT H.T x v))).length = n4 at *; clear L3 G3 O3 t1))
 refine bodyPost_end (results_none rfl _ _ _) rfl ?_
 exact ⟨rfl, HT1.out⟩
end
end Go.Proofs.YtocmngpoemfpkabGreatDoor

namespace Go.Proofs.YtocmngpoemfpkabGreatDoor
open Go.RowKit Go.Maps Go.ChangeMaps
section
variable {w0 w : World} {g : Nat} {H : Hb} {S : Bk} {l : List It}
theorem lie_some {T : List (Nat × En)} (h : Lie T S) {x : Int} {p : Nat × En} (hT : fnT T x = some p) : fnd S.all x = some p.2 := by rw [h.fnd, hT]; rfl
theorem lie_none {T : List (Nat × En)} (h : Lie T S) {x : Int} (hT : fnT T x = none) : fnd S.all x = none := by rw [h.fnd, hT]; rfl
set_option maxRecDepth 100000 in
set_option maxHeartbeats 2000000 in
theorem cancel_any (h : Its w0 (.book w0.heap.size g H S :: l) w) {x : Int} (hx : I64 x) : Calls Tryz.prog 50 #[.pointer (some ⟨g, 0, none⟩), .int .i64 x] w fun e w' => e = .returned (.tuple #[.bool (S.caY x), .int .i64 (S.caC x)]) ∧ ∃ H', Its w0 (.book w0.heap.size g H' (S.ca x) :: l) w' := by
  have hlie := bk_lie h.one
  obtain ⟨c0, c1, c2, _⟩ := bk_cells h.one
  have hl := (bk_mp h.one).look hx
  have HI := hide h
  cases hT : fnT H.T x with
  | none =>
    have hf := lie_none hlie hT
    have e1 : S.caC x = 4 := by unfold Bk.caC; rw [hf]
    have e2 : S.caY x = false := by unfold Bk.caY Bk.sta; rw [hf]; rfl
    rw [Bk.ca_no e2, e1, e2]
    rw [kn_none hT] at hl
    simp only [Option.getD_none, Option.isSome_none] at hl
    clear h hf e1 e2 hT hlie hx
    go_enter Tryz.func50, Tryz.ntmps50
    go_wp2_with fail
    go_ret2
    exact ⟨rfl, _, HI.out⟩
  | some p =>
    have hf := lie_some hlie hT
    rw [kn_some hT] at hl
    simp only [Option.getD_some, Option.isSome_some] at hl
    obtain ⟨d0, d1, d2, d3, _⟩ := bk_ent h.one (fnT_mem hT)
    have hen := hlie.1.en p.2 (fnd_some hf).1
    have es : S.sta x = p.2.en := Bk.sta_of hf
    rcases hen with hen | hen | hen
    · have e1 : S.caC x = 0 := by unfold Bk.caC; rw [hf]; simp [hen]
      have e2 : S.caY x = true := by unfold Bk.caY; rw [es, hen]; rfl
      rw [Bk.ca_yes e2, e1, e2]
      have KF := hide (finish_any h hT hen (v := 3) (.inr rfl))
      rw [hen] at d3
      obtain ⟨b, e⟩ := p
      simp only at *
      clear h hf e1 e2 hT hlie hx hen es d0 d1 d2
      go_enter Tryz.func50, Tryz.ntmps50
      go_wp2_with (go_at_call 117; refine KF.out.mono ?_; rintro r w1 ⟨rfl, H1, h1, _⟩; have HI1 := hide h1; clear h1)
      go_ret2
      exact ⟨rfl, _, HI1.out⟩
    · have e1 : S.caC x = 140 := by unfold Bk.caC; rw [hf]; simp [hen]
      have e2 : S.caY x = false := by unfold Bk.caY; rw [es, hen]; rfl
      rw [Bk.ca_no e2, e1, e2]
      rw [hen] at d3
      obtain ⟨b, e⟩ := p
      simp only at *
      clear h hf e1 e2 hT hlie hx hen es d0 d1 d2
      go_enter Tryz.func50, Tryz.ntmps50
      go_wp2_with fail
      go_ret2
      exact ⟨rfl, _, HI.out⟩
    · have e1 : S.caC x = 0 := by unfold Bk.caC; rw [hf]; simp [hen]
      have e2 : S.caY x = false := by unfold Bk.caY; rw [es, hen]; rfl
      rw [Bk.ca_no e2, e1, e2]
      rw [hen] at d3
      obtain ⟨b, e⟩ := p
      simp only at *
      clear h hf e1 e2 hT hlie hx hen es d0 d1 d2
      go_enter Tryz.func50, Tryz.ntmps50
      go_wp2_with fail
      go_ret2
      exact ⟨rfl, _, HI.out⟩
end
theorem srv_app {w w1 : World} {B sb n : Nat} {fs : Int → Option Value} {sv : Int → List Int} (h : Srv w B sb n fs sv) (hBw : B ≤ w.heap.size) {s x : Int} {v' : Value} (ho : intE.Own w1 B v' (sv s ++ [x])) (hf : Frm (fun k => ((fs s).getD (.slice none 0 0)).ownBlock = some k) w w1)
    (hb : ∀ k, v'.ownBlock = some k → ((fs s).getD (.slice none 0 0)).ownBlock = some k ∨ w.heap.size ≤ k) (hs : I64 s) (hn : n ≤ 1000000) :
    ∃ w2, (Instr.mapUpdate 189 (.map (some sb)) (.int .i64 s) v').run Tryz.prog w1 = .ok () w2 ∧ Srv w2 B sb (n + 1) (fun y => if y = s then some v' else fs y) (fun y => if y = s then sv s ++ [x] else sv y) ∧ Frm (It.srv B sb n fs sv).f w w2 ∧
      ∀ k, (It.srv B sb (n + 1) (fun y => if y = s then some v' else fs y) (fun y => if y = s then sv s ++ [x] else sv y)).f k → (It.srv B sb n fs sv).f k ∨ w.heap.size ≤ k := by
  have own : ∀ k, ((fs s).getD (.slice none 0 0)).ownBlock = some k → ∃ v, fs s = some v ∧ v.ownBlock = some k := fun k hk => by
    cases q : fs s with
    | none => rw [q] at hk; cases hk
    | some v => rw [q] at hk; exact ⟨v, rfl, hk⟩
  have hsb : ((fs s).getD (.slice none 0 0)).ownBlock ≠ some sb := fun e => by
    obtain ⟨v, q, e⟩ := own _ e
    obtain ⟨cur, hc⟩ := own_type (h.row s v q) sb e
    exact h.mp.obj _ _ hc
  have hm1 : Mpi w1 sb n fs := h.mp.keep (hf.block sb h.mp.lt hsb)
  obtain ⟨w2, hr, hm2, hf2⟩ := hm1.put Tryz.underlying189 hs v' hn
  have hv1 : v'.ownBlock ≠ some sb := fun e => by
    obtain ⟨cur, hc⟩ := own_type ho sb e
    exact hm1.obj _ _ hc
  have stay : ∀ t u, t ≠ s → fs t = some u → ∀ k, u.ownBlock = some k → w2.heap[k]? = w.heap[k]? := fun t u ht hu k hk => by
    have k1 := (h.row t u hu).lt k hk
    have k2 : k ≠ sb := fun e => by
      subst e
      obtain ⟨cur, hc⟩ := own_type (h.row t u hu) k hk
      exact h.mp.obj _ _ hc
    rw [hf2.block k (Nat.lt_of_lt_of_le k1 hf.size) k2, hf.block k k1 (fun e => by
      obtain ⟨v, q, e⟩ := own _ e
      exact h.ap t s u v k ht hu q hk e)]
  refine ⟨w2, hr, ⟨hm2, ?_, ?_, ?_⟩, ?_, ?_⟩
  · intro t u hu
    by_cases e : t = s
    · subst e
      simp only [if_true] at hu ⊢
      cases hu
      exact own_stay ho fun k hk _ => hf2.block k (ho.lt k hk) (fun e => hv1 (e ▸ hk))
    · simp only [if_neg e] at hu ⊢
      exact own_stay (h.row t u hu) fun k hk _ => stay t u e hu k hk
  · intro t hu
    by_cases e : t = s
    · simp [e] at hu
    · simp only [if_neg e] at hu ⊢
      exact h.no t hu
  · intro t t' u u' k hne hu hu' hk hk'
    have keyI : ∀ t u, t ≠ s → fs t = some u → u.ownBlock = some k → v'.ownBlock = some k → False := fun t u ht hu h1 h2 => by
      rcases hb k h2 with q | q
      · obtain ⟨v, q1, q2⟩ := own _ q
        exact h.ap t s u v k ht hu q1 h1 q2
      · have := (h.row t u hu).lt k h1
        omega
    by_cases e : t = s
    · subst e
      simp only [if_true, if_neg hne.symm] at hu hu'
      cases hu
      exact keyI t' u' hne.symm hu' hk' hk
    · simp only [if_neg e] at hu
      by_cases e' : t' = s
      · simp only [if_pos e'] at hu'
        cases hu'
        exact keyI t u e hu hk hk'
      · simp only [if_neg e'] at hu'
        exact h.ap t t' u u' k hne hu hu' hk hk'
  · refine (hf.mono (f' := (It.srv B sb n fs sv).f) fun k _ e => .inr ?_).trans' hf2 (fun k _ e => .inl e)
    obtain ⟨v, q, e⟩ := own _ e
    exact ⟨s, v, q, e⟩
  · rintro k (e | ⟨t, u, hu, hk⟩)
    · exact .inl (.inl e)
    · by_cases e : t = s
      · simp only [if_pos e] at hu
        cases hu
        rcases hb k hk with q | q
        · obtain ⟨v, q1, q2⟩ := own _ q
          exact .inl (.inr ⟨s, v, q1, q2⟩)
        · exact .inr q
      · simp only [if_neg e] at hu
        exact .inl (.inr ⟨t, u, hu, hk⟩)
theorem sv_se {S : Bk} {x : Int} {e : En} (h : fnd S.all x = some e) (s : Int) : Bk.sv ⟨setE S.all x 2, S.done ++ [x]⟩ s = if s = e.r.st then Bk.sv ⟨setE S.all x 2, S.done⟩ e.r.st ++ [x] else Bk.sv ⟨setE S.all x 2, S.done⟩ s := by
  have e1 : stn S.all x = e.r.st := by unfold stn; rw [h]
  unfold Bk.sv
  simp only [stn_set]
  rw [List.filter_append, List.filter_cons, e1]
  by_cases q : s = e.r.st
  · subst q; simp
  · have : (e.r.st == s) = false := beq_eq_false_iff_ne.2 (fun h => q h.symm)
    simp [q, this]
end Go.Proofs.YtocmngpoemfpkabGreatDoor

namespace Go.Proofs.YtocmngpoemfpkabGreatDoor
open Go.RowKit Go.Maps Go.ChangeMaps
section
variable {w0 w : World} {g : Nat} {H : Hb} {S : Bk} {l : List It}
theorem serve_end {W w1 : World} {x : Int} {e : En} {v' : Value} (h : Its w0 (.book w0.heap.size g H ⟨setE S.all x 2, S.done⟩ :: l) W) (hok : Bk.Ok ⟨setE S.all x 2, S.done ++ [x]⟩) (hf : fnd S.all x = some e) (hd : S.done.length ≤ 1000000) (hiB : I64 e.r.st)
  (ho : intE.Own w1 w0.heap.size v' (Bk.sv ⟨setE S.all x 2, S.done⟩ e.r.st ++ [x])) (hfr : Frm (fun k => ((H.fs e.r.st).getD (.slice none 0 0)).ownBlock = some k) W w1)
  (hb : ∀ k, v'.ownBlock = some k → ((H.fs e.r.st).getD (.slice none 0 0)).ownBlock = some k ∨ W.heap.size ≤ k) :
  ∃ w2, (Instr.mapUpdate 189 (.map (some H.sb)) (.int .i64 e.r.st) v').run Tryz.prog w1 = .ok () w2 ∧ ∃ H', Its w0 (.book w0.heap.size g H' ⟨setE S.all x 2, S.done ++ [x]⟩ :: l) w2 := by
 obtain ⟨hl, hlie⟩ := h.bopen
 obtain ⟨w2, h1, h2, h3, h4⟩ := srv_app (bk_srv h.one) h.size ho hfr hb hiB hd
 refine ⟨w2, h1, ⟨H.kb, H.sb, H.vo, fun y => if y = e.r.st then some v' else H.fs y, H.T⟩, ?_⟩
 have h5 := (hl.rot4.chg (x' := .srv w0.heap.size H.sb (S.done.length + 1) (fun y => if y = e.r.st then some v' else H.fs y) (fun y => if y = e.r.st then Bk.sv ⟨setE S.all x 2, S.done⟩ e.r.st ++ [x] else Bk.sv ⟨setE S.all x 2, S.done⟩ y)) h2 h4 h3).rot4'
 have e1 : (fun y => if y = e.r.st then Bk.sv ⟨setE S.all x 2, S.done⟩ e.r.st ++ [x] else Bk.sv ⟨setE S.all x 2, S.done⟩ y) = Bk.sv ⟨setE S.all x 2, S.done ++ [x]⟩ := funext fun y => (sv_se hf y).symm
 have e2 : S.done.length + 1 = (S.done ++ [x]).length := by simp
 rw [e1, e2] at h5
 exact Its.bshut (H := ⟨H.kb, H.sb, H.vo, fun y => if y = e.r.st then some v' else H.fs y, H.T⟩) (S := ⟨setE S.all x 2, S.done ++ [x]⟩) h5 ⟨hok, hlie.2.1, hlie.2.2⟩
theorem fst_some {x : Int} {e : En} (hf : fnd S.all x = some e) (he : e.en = 1) : ∃ r, fst S.all e.r.st = some r ∧ r.st = e.r.st := by
 have hm : e.r ∈ ops S.all := ops_mem.2 ⟨e, (fnd_some hf).1, he, rfl⟩
 cases q : fst S.all e.r.st with
 | none => exact absurd (List.find?_eq_none.1 q e.r hm) (by simp)
 | some r => exact ⟨r, rfl, by have := List.find?_some q; simpa using this⟩
set_option maxRecDepth 100000 in
set_option maxHeartbeats 4000000 in
theorem serve_any (h : Its w0 (.book w0.heap.size g H S :: l) w) {x : Int} (hx : I64 x) (hd : S.done.length ≤ 10000) : Calls Tryz.prog 145 #[.pointer (some ⟨g, 0, none⟩), .int .i64 x] w fun e w' => e = .returned (.int .i64 (S.seC x)) ∧ ∃ H', Its w0 (.book w0.heap.size g H' (S.se x) :: l) w' := by
  have hlie := bk_lie h.one
  obtain ⟨c0, c1, c2, _⟩ := bk_cells h.one
  have hl := (bk_mp h.one).look hx
  have HI := hide h
  cases hT : fnT H.T x with
  | none =>
    have hf := lie_none hlie hT
    have e1 : S.seC x = 4 := by unfold Bk.seC; rw [hf]
    rw [Bk.se_no (by rw [e1]; decide), e1]
    rw [kn_none hT] at hl
    simp only [Option.getD_none, Option.isSome_none] at hl
    clear h hf e1 hT hlie hx
    go_enter Tryz.func145, Tryz.ntmps145
    go_wp2_with fail
    go_ret
    exact ⟨rfl, _, HI.out⟩
  | some p =>
    have hf := lie_some hlie hT
    rw [kn_some hT] at hl
    simp only [Option.getD_some, Option.isSome_some] at hl
    obtain ⟨d0, d1, d2, d3, _⟩ := bk_ent h.one (fnT_mem hT)
    by_cases hen : p.2.en = 1
    · obtain ⟨r0, hr0, hst⟩ := fst_some hf hen
      have K1 := hide (firstB_any h.one p.2.r.st)
      rw [hr0] at K1
      have hheap := bk_ents h.one p (fnT_mem hT)
      have hseC : S.seC x = if r0 = p.2.r then 0 else 110 := by
        unfold Bk.seC
        rw [hf]
        simp only [if_pos hen, hr0, Option.some.injEq]
      have HC : Hid (∀ W, Below w.heap.size w W → (∀ o q, (((W.alloc o).drewN q).heap[p.1]? = some (.cells (enC p.2) 194))) ∧ ∀ o q, Its w0 (.book w0.heap.size g H S :: l) ((W.alloc o).drewN q)) := hide (fun W hb => by
        have hx2 : Its w0 (.book w0.heap.size g H S :: l) W := h.keep hb
        exact ⟨fun o q => bk_ents ((hx2.alloc o).drew q).one p (fnT_mem hT), fun o q => (hx2.alloc o).drew q⟩)
      rw [hen] at d3
      by_cases hr : r0 = p.2.r
      · rw [if_pos hr] at hseC
        rw [Bk.se_yes hseC, hseC]
        have hok : Bk.Ok ⟨setE S.all x 2, S.done ++ [x]⟩ := hlie.1.set (.inl rfl) (by rw [Bk.sta_of hf]; exact hen) _ (.inr ⟨rfl, rfl⟩)
        have hiB : I64 p.2.r.st := by
          obtain ⟨⟨q1, q2, _⟩, _⟩ := hlie.1.rg p.2 (fnd_some hf).1
          unfold I64; omega
        have KF : Hid (∀ W, Its w0 (.book w0.heap.size g H S :: l) W → Calls Tryz.prog 117 #[.pointer (some ⟨g, 0, none⟩), .pointer (some ⟨p.1, 0, none⟩), .int .i64 2] W fun e w' => e = .returned (.tuple #[]) ∧ ∃ H', Its w0 (.book w0.heap.size g H' ⟨setE S.all x 2, S.done⟩ :: l) w' ∧ fnT H'.T x = some (p.1, ⟨p.2.r, 2⟩)) := hide (fun W hW => finish_any hW hT hen (v := 2) (.inl rfl))
        have HE : Hid (∀ (H : Hb) (W w1 : World) (v' : Value), Its w0 (.book w0.heap.size g H ⟨setE S.all x 2, S.done⟩ :: l) W → intE.Own w1 w0.heap.size v' (Bk.sv ⟨setE S.all x 2, S.done⟩ p.2.r.st ++ [x]) → Frm (fun k => ((H.fs p.2.r.st).getD (.slice none 0 0)).ownBlock = some k) W w1 → (∀ k, v'.ownBlock = some k → ((H.fs p.2.r.st).getD (.slice none 0 0)).ownBlock = some k ∨ W.heap.size ≤ k) →
            ∃ w2, (Instr.mapUpdate 189 (.map (some H.sb)) (.int .i64 p.2.r.st) v').run Tryz.prog w1 = .ok () w2 ∧ ∃ H', Its w0 (.book w0.heap.size g H' ⟨setE S.all x 2, S.done ++ [x]⟩ :: l) w2) := hide (fun H W w1 v' hI ho hfr hb => serve_end hI hok hf (by omega) hiB ho hfr hb)
        have HN : Hid ((Bk.sv ⟨setE S.all x 2, S.done⟩ p.2.r.st).length + [x].length ≤ 1000000) := hide (by
          have : (Bk.sv ⟨setE S.all x 2, S.done⟩ p.2.r.st).length ≤ S.done.length := List.length_filter_le _ _
          simp only [List.length_cons, List.length_nil]; omega)
        have Hi := hide hiB
        obtain ⟨b, ⟨⟨i, s, t⟩, en⟩⟩ := p
        subst hr
        simp only at *
        have heq := fun W => rq_equal W (⟨i, s, t⟩ : Rq) ⟨i, s, t⟩
        simp only [decide_true] at heq
        simp only [rqV, Option.isSome_some] at K1
        clear h hlie hx hd hf hseC hT hen hr0 hst hheap hok hiB
        go_enter Tryz.func145, Tryz.ntmps145
        go_upto_region 7 with (go_at_call 180; refine K1.out.mono ?_; rintro e w1 ⟨rfl, hb⟩; have HB1 := hide hb; clear hb)
        generalize hO : w1.alloc (.cells #[.int .i64 i, .int .i64 s, .int .i64 t] 53) = W2 at *
        have HO := hide hO
        have HT2 : Hid (∀ q, (W2.drewN q).heap[b]? = some (.cells #[.int .i64 i, .int .i64 s, .int .i64 t, .int .i64 en] 194)) := hide (fun q => by rw [← HO.out]; exact (HC.out w1 HB1.out).1 _ q)
        have HI2 : Hid (∀ q, Its w0 (.book w0.heap.size g H S :: l) (W2.drewN q)) := hide (fun q => by rw [← HO.out]; exact (HC.out w1 HB1.out).2 _ q)
        have hx2 : W2.heap[w1.heap.size]? = some (.cells #[.int .i64 i, .int .i64 s, .int .i64 t] 53) := by rw [← hO]; exact heap_new _ _
        obtain ⟨x0, _⟩ := cells_at hx2 0
        obtain ⟨x1, _⟩ := cells_at hx2 1
        obtain ⟨x2, _⟩ := cells_at hx2 2
        have x0 : W2.cell? ⟨w1.heap.size, 0, none⟩ = some (.int .i64 i) := (cells_at hx2 0).1
        have x1 : W2.cell? ⟨w1.heap.size, 1, none⟩ = some (.int .i64 s) := (cells_at hx2 1).1
        have x2 : W2.cell? ⟨w1.heap.size, 2, none⟩ = some (.int .i64 t) := (cells_at hx2 2).1
        have y0 : W2.cell? ⟨b, 0, none⟩ = some (.int .i64 i) := (cells_at (HT2.out 0) 0).1
        have y1 : W2.cell? ⟨b, 1, none⟩ = some (.int .i64 s) := (cells_at (HT2.out 0) 1).1
        have y2 : W2.cell? ⟨b, 2, none⟩ = some (.int .i64 t) := (cells_at (HT2.out 0) 2).1
        clear hx2 hO c0 c1 c2 d0 d1 d2 d3 hl
        go_quiet (fail)
        go_upto_region 10 with (go_at_call 117; refine (KF.out _ (HI2.out _)).mono ?_; rintro e w3 ⟨rfl, H3, h3, hT3⟩; have HI3 := hide h3; have HT3 := hide hT3; clear h3 hT3)
        obtain ⟨v3, hv3⟩ : ∃ v3, (H3.fs s).getD (.slice none 0 0) = v3 := ⟨_, rfl⟩
        have HV3 := hide hv3
        have hsrv := bk_srv HI3.out.one
        have HV : Hid (intE.Own w3 w0.heap.size v3 (Bk.sv ⟨setE S.all x 2, S.done⟩ s)) := hide (by
          rw [← hv3]
          cases q : H3.fs s with
          | none => rw [hsrv.no s q]; exact El.Own.nil _ _ _
          | some u => exact hsrv.row s u q)
        obtain ⟨SS, hSS⟩ : ∃ SS : World → Prop, SS = fun W => W.heap[g]? = w3.heap[g]? ∧ W.heap[b]? = w3.heap[b]? ∧ W.heap[H3.sb]? = w3.heap[H3.sb]? := ⟨_, rfl⟩
        have hgb : w3.heap[g]? = some (.cells #[.map (some H3.kb), H3.vo, .map (some H3.sb)] 191) := bk_box HI3.out.one
        have hbb : w3.heap[b]? = some (.cells #[.int .i64 i, .int .i64 s, .int .i64 t, .int .i64 2] 194) := bk_ents HI3.out.one _ (fnT_mem HT3.out)
        have s1 : ∀ W, SS W → W.cell? ⟨g, 2, none⟩ = some (.map (some H3.sb)) := fun W hW => by
          rw [hSS] at hW
          exact (cells_at (hW.1.trans hgb) 2).1
        have s2 : ∀ W, SS W → W.cell? ⟨b, 1, none⟩ = some (.int .i64 s) := fun W hW => by
          rw [hSS] at hW
          exact (cells_at (hW.2.1.trans hbb) 1).1
        have s3 : ∀ W, SS W → (Instr.lookup 189 (.map (some H3.sb)) (.int .i64 s) false).run Tryz.prog W = .ok v3 W := fun W hW => by
          rw [hSS] at hW
          rw [← hv3]
          exact (hsrv.mp.keep hW.2.2).look59 Hi.out
        have hS0 : SS w3.drew := by rw [hSS]; exact ⟨rfl, rfl, rfl⟩
        have hS1 : SS (w3.drew.alloc (.cells #[.int .i64 x] 3)) := by
          have hb := below_new w3.drew (.cells #[.int .i64 x] 3)
          rw [hSS]
          exact ⟨hb.block g (heap_lt hgb), hb.block b (heap_lt hbb), hb.block _ hsrv.mp.lt⟩
        have hno : v3.ownBlock ≠ some g ∧ v3.ownBlock ≠ some b ∧ v3.ownBlock ≠ some H3.sb := ⟨zown_ne HV.out hgb (by decide), zown_ne HV.out hbb (by decide), fun e => by
          obtain ⟨cur, hc⟩ := own_type HV.out _ e
          exact hsrv.mp.obj _ _ hc⟩
        have HS2 : Hid (∀ W, (w3.drew.alloc (.cells #[.int .i64 x] 3)).grownBy W v3.ownBlock → SS W) := hide (fun W hg => by
          have hS1' := hS1
          rw [hSS] at hS1' ⊢
          have hsz : (w3.drew.alloc (.cells #[.int .i64 x] 3)).heap.size = w3.heap.size + 1 := by simp
          exact ⟨(hg.block g (by rw [hsz]; have := heap_lt hgb; omega) (fun e => hno.1 e.symm)).trans hS1'.1, (hg.block b (by rw [hsz]; have := heap_lt hbb; omega) (fun e => hno.2.1 e.symm)).trans hS1'.2.1, (hg.block _ (by rw [hsz]; have := hsrv.mp.lt; omega) (fun e => hno.2.2 e.symm)).trans hS1'.2.2⟩)
        have HB4 : Hid (Below w0.heap.size w0 (w3.drew.alloc (.cells #[.int .i64 x] 3))) := hide ((HI3.out.drew 1).alloc _).bel
        have HV4 : Hid (intE.Own (w3.drew.alloc (.cells #[.int .i64 x] 3)) w0.heap.size v3 (Bk.sv ⟨setE S.all x 2, S.done⟩ s)) := hide (own_stay HV.out fun k hk _ => (below_new w3.drew _).block k (HV.out.lt k hk))
        have HR4 : Hid (intE.Rd (w3.drew.alloc (.cells #[.int .i64 x] 3)) (.slice (some ⟨w3.heap.size, 0, none⟩) 1 1) [x]) := hide (int_new w3.drew x _ rfl)
        have HEE : Hid (∀ v' W, intE.Own W w0.heap.size v' (Bk.sv ⟨setE S.all x 2, S.done⟩ s ++ [x]) → (w3.drew.alloc (.cells #[.int .i64 x] 3)).grownBy W v3.ownBlock → (v'.ownBlock = v3.ownBlock ∨ v'.ownBlock = some (w3.drew.alloc (.cells #[.int .i64 x] 3)).heap.size) → ∃ w2, (Instr.mapUpdate 189 (.map (some H3.sb)) (.int .i64 s) v').run Tryz.prog W = .ok () w2 ∧ ∃ H', Its w0 (.book w0.heap.size g H' ⟨setE S.all x 2, S.done ++ [x]⟩ :: l) w2) := hide (fun v' W ho hg hb => by
          refine HE.out H3 w3 W v' HI3.out ho ?_ ?_
          · rw [HV3.out]
            exact (Frm.of_below (f := fun k => v3.ownBlock = some k) ((below_drew w3 1).alloc (Nat.le_refl _) (.cells #[.int .i64 x] 3))).trans (Frm.of_grown hg)
          · rw [HV3.out]
            intro k hk
            rcases hb with q | q
            · exact .inl (q ▸ hk)
            · rw [q] at hk
              cases hk
              exact .inr (by simp))
        clear hsrv hgb hbb hno hv3 hSS HI2 HT2 HI3 HT3 HO HB1 x0 x1 x2 y0 y1 y2
        refine wp_region_E SS 22 (by kernel_rfl) ?_
        refine wpAnyE_take (i := 0) (v := .pointer (some ⟨g, 0, none⟩)) rfl (by kernel_rfl) (by kernel_rfl) (by kernel_rfl) (by kernel_rfl) (fun _ _ _ h => h) (Or.inl ⟨by rfl, fun W' hW => by go_simp⟩) hS0 ?_
        refine wpAnyE_take (i := 1) (v := .pointer (some ⟨g, 0, none⟩)) rfl (by kernel_rfl) (by kernel_rfl) (by kernel_rfl) (by kernel_rfl) (fun _ _ _ h => h) (Or.inl ⟨by rfl, fun W' hW => by go_simp⟩) hS0 ?_
        refine wpAnyE_take (i := 2) (v := .pointer (some ⟨g, 2, none⟩)) rfl (by kernel_rfl) (by kernel_rfl) (by kernel_rfl) (by kernel_rfl) (fun _ _ _ h => h) (Or.inl ⟨by rfl, fun W' hW => by go_simp⟩) hS0 ?_
        refine wpAnyE_take (i := 3) (v := .map (some H3.sb)) rfl (by kernel_rfl) (by kernel_rfl) (by kernel_rfl) (by kernel_rfl) (fun _ _ _ h => h) (Or.inl ⟨by rfl, fun W' hW => by have z0 := s1 W' hW; go_simp⟩) hS0 ?_
        refine wpAnyE_take (i := 4) (v := .pointer (some ⟨b, 0, none⟩)) rfl (by kernel_rfl) (by kernel_rfl) (by kernel_rfl) (by kernel_rfl) (fun _ _ _ h => h) (Or.inl ⟨by rfl, fun W' hW => by go_simp⟩) hS0 ?_
        refine wpAnyE_take (i := 5) (v := .pointer (some ⟨b, 0, none⟩)) rfl (by kernel_rfl) (by kernel_rfl) (by kernel_rfl) (by kernel_rfl) (fun _ _ _ h => h) (Or.inl ⟨by rfl, fun W' hW => by go_simp⟩) hS0 ?_
        refine wpAnyE_take (i := 6) (v := .pointer (some ⟨b, 0, none⟩)) rfl (by kernel_rfl) (by kernel_rfl) (by kernel_rfl) (by kernel_rfl) (fun _ _ _ h => h) (Or.inl ⟨by rfl, fun W' hW => by go_simp⟩) hS0 ?_
        refine wpAnyE_take (i := 7) (v := .pointer (some ⟨b, 1, none⟩)) rfl (by kernel_rfl) (by kernel_rfl) (by kernel_rfl) (by kernel_rfl) (fun _ _ _ h => h) (Or.inl ⟨by rfl, fun W' hW => by go_simp⟩) hS0 ?_
        refine wpAnyE_take (i := 8) (v := .int .i64 s) rfl (by kernel_rfl) (by kernel_rfl) (by kernel_rfl) (by kernel_rfl) (fun _ _ _ h => h) (Or.inl ⟨by rfl, fun W' hW => by have z0 := s2 W' hW; go_simp⟩) hS0 ?_
        refine wpAnyE_take (i := 9) (v := .pointer (some ⟨g, 0, none⟩)) rfl (by kernel_rfl) (by kernel_rfl) (by kernel_rfl) (by kernel_rfl) (fun _ _ _ h => h) (Or.inl ⟨by rfl, fun W' hW => by go_simp⟩) hS0 ?_
        refine wpAnyE_take (i := 10) (v := .pointer (some ⟨g, 0, none⟩)) rfl (by kernel_rfl) (by kernel_rfl) (by kernel_rfl) (by kernel_rfl) (fun _ _ _ h => h) (Or.inl ⟨by rfl, fun W' hW => by go_simp⟩) hS0 ?_
        refine wpAnyE_take (i := 11) (v := .pointer (some ⟨g, 2, none⟩)) rfl (by kernel_rfl) (by kernel_rfl) (by kernel_rfl) (by kernel_rfl) (fun _ _ _ h => h) (Or.inl ⟨by rfl, fun W' hW => by go_simp⟩) hS0 ?_
        refine wpAnyE_take (i := 12) (v := .map (some H3.sb)) rfl (by kernel_rfl) (by kernel_rfl) (by kernel_rfl) (by kernel_rfl) (fun _ _ _ h => h) (Or.inl ⟨by rfl, fun W' hW => by have z0 := s1 W' hW; go_simp⟩) hS0 ?_
        refine wpAnyE_take (i := 13) (v := .pointer (some ⟨b, 0, none⟩)) rfl (by kernel_rfl) (by kernel_rfl) (by kernel_rfl) (by kernel_rfl) (fun _ _ _ h => h) (Or.inl ⟨by rfl, fun W' hW => by go_simp⟩) hS0 ?_
        refine wpAnyE_take (i := 14) (v := .pointer (some ⟨b, 0, none⟩)) rfl (by kernel_rfl) (by kernel_rfl) (by kernel_rfl) (by kernel_rfl) (fun _ _ _ h => h) (Or.inl ⟨by rfl, fun W' hW => by go_simp⟩) hS0 ?_
        refine wpAnyE_take (i := 15) (v := .pointer (some ⟨b, 0, none⟩)) rfl (by kernel_rfl) (by kernel_rfl) (by kernel_rfl) (by kernel_rfl) (fun _ _ _ h => h) (Or.inl ⟨by rfl, fun W' hW => by go_simp⟩) hS0 ?_
        refine wpAnyE_take (i := 16) (v := .pointer (some ⟨b, 1, none⟩)) rfl (by kernel_rfl) (by kernel_rfl) (by kernel_rfl) (by kernel_rfl) (fun _ _ _ h => h) (Or.inl ⟨by rfl, fun W' hW => by go_simp⟩) hS0 ?_
        refine wpAnyE_take (i := 17) (v := .int .i64 s) rfl (by kernel_rfl) (by kernel_rfl) (by kernel_rfl) (by kernel_rfl) (fun _ _ _ h => h) (Or.inl ⟨by rfl, fun W' hW => by have z0 := s2 W' hW; go_simp⟩) hS0 ?_
        refine wpAnyE_take (i := 18) (v := v3) rfl (by kernel_rfl) (by kernel_rfl) (by kernel_rfl) (by kernel_rfl) (fun _ _ _ h => h) (Or.inl ⟨by rfl, fun W' hW => by have z0 := s3 W' hW; go_simp⟩) hS0 ?_
        refine wpAnyE_take (i := 19) (v := .int .i64 x) rfl (by kernel_rfl) (by kernel_rfl) (by kernel_rfl) (by kernel_rfl) (fun _ _ _ h => h) (Or.inl ⟨by rfl, fun W' hW => by go_simp⟩) hS0 ?_
        refine wpAnyE_ready (rs := [20]) (by kernel_rfl) (by simp) ?_
        refine AllReadyE.cons rfl (fun K hK => ?_) AllReadyE.nil
        go_simp
        refine hK.out _ _ (fun _ => hS1) ?_
        clear hK K
        refine wpAnyE_ready (rs := [21]) (by kernel_rfl) (by simp) ?_
        refine AllReadyE.cons rfl (fun K hK => ?_) AllReadyE.nil
        refine intE.step (w0 := w0) HB4.out rfl _ _ rfl _ _ rfl rfl _ [x] HV4.out HR4.out HN.out ?_
        intro v5 W5 ho5 hg5 hs5 hb5
        obtain ⟨W6, hput, H6, h6⟩ := HEE.out v5 W5 ho5 hg5 hs5
        have hS5 := HS2.out W5 hg5
        have HI6 := hide h6
        refine hK.out _ _ (fun _ => hS5) ?_
        clear hK K ho5 hg5 hs5 hb5 h6 HE HEE
        refine wpAnyE_ready (rs := [22]) (by kernel_rfl) (by simp) ?_
        refine AllReadyE.cons rfl (fun K hK => ?_) AllReadyE.nil
        go_simp
        refine hK.out _ _ (fun h => absurd rfl h) ?_
        clear hK K
        refine wpAnyE_done (by kernel_rfl) ?_ _
        go_wp2_with fail
        go_ret
        exact ⟨rfl, _, HI6.out⟩
      · rw [if_neg hr] at hseC
        rw [Bk.se_no (by rw [hseC]; decide), hseC]
        obtain ⟨b, ⟨⟨i, s, t⟩, en⟩⟩ := p
        obtain ⟨i', s', t'⟩ := r0
        simp only at *
        have heq := fun W => rq_equal W (⟨i', s', t'⟩ : Rq) ⟨i, s, t⟩
        rw [decide_eq_false hr] at heq
        simp only [rqV, Option.isSome_some] at K1
        clear h hlie hx hd hf hseC hT hen hr0 hst hheap hr
        go_enter Tryz.func145, Tryz.ntmps145
        go_upto_region 7 with (go_at_call 180; refine K1.out.mono ?_; rintro e w1 ⟨rfl, hb⟩; have HB1 := hide hb; clear hb)
        generalize hO : w1.alloc (.cells #[.int .i64 i', .int .i64 s', .int .i64 t'] 53) = W2 at *
        have HO := hide hO
        have HT2 : Hid (∀ q, (W2.drewN q).heap[b]? = some (.cells #[.int .i64 i, .int .i64 s, .int .i64 t, .int .i64 en] 194)) := hide (fun q => by rw [← HO.out]; exact (HC.out w1 HB1.out).1 _ q)
        have HI2 : Hid (∀ q, Its w0 (.book w0.heap.size g H S :: l) (W2.drewN q)) := hide (fun q => by rw [← HO.out]; exact (HC.out w1 HB1.out).2 _ q)
        have hx2 : W2.heap[w1.heap.size]? = some (.cells #[.int .i64 i', .int .i64 s', .int .i64 t'] 53) := by rw [← hO]; exact heap_new _ _
        have x0 : W2.cell? ⟨w1.heap.size, 0, none⟩ = some (.int .i64 i') := (cells_at hx2 0).1
        have x1 : W2.cell? ⟨w1.heap.size, 1, none⟩ = some (.int .i64 s') := (cells_at hx2 1).1
        have x2 : W2.cell? ⟨w1.heap.size, 2, none⟩ = some (.int .i64 t') := (cells_at hx2 2).1
        have y0 : W2.cell? ⟨b, 0, none⟩ = some (.int .i64 i) := (cells_at (HT2.out 0) 0).1
        have y1 : W2.cell? ⟨b, 1, none⟩ = some (.int .i64 s) := (cells_at (HT2.out 0) 1).1
        have y2 : W2.cell? ⟨b, 2, none⟩ = some (.int .i64 t) := (cells_at (HT2.out 0) 2).1
        clear hx2 hO c0 c1 c2 d0 d1 d2 d3 hl
        go_quiet (fail)
        go_wp2_with fail
        go_ret
        exact ⟨rfl, _, HI2.out _⟩
    · have e1 : S.seC x = 140 := by unfold Bk.seC; rw [hf]; simp [hen]
      rw [Bk.se_no (by rw [e1]; decide), e1]
      obtain ⟨b, e⟩ := p
      simp only at *
      have hbe : (e.en != 1) = true := bne_iff_ne.2 hen
      clear h hf e1 hT hlie hx d0 d1 d2 hen
      go_enter Tryz.func145, Tryz.ntmps145
      go_wp2_with fail
      go_ret
      exact ⟨rfl, _, HI.out⟩
end
end Go.Proofs.YtocmngpoemfpkabGreatDoor

namespace Go.Proofs.YtocmngpoemfpkabGreatDoor
open Go.RowKit Go.Maps Go.ChangeMaps
theorem Its.rot5 {w0 w : World} {a b c d e : It} {l : List It} (h : Its w0 (a :: b :: c :: d :: e :: l) w) : Its w0 (e :: a :: b :: c :: d :: l) w := h.perm ((List.Perm.cons a ((List.Perm.cons b ((List.Perm.cons c (.swap e d l)).trans (.swap e c _))).trans (.swap e b _))).trans (.swap e a _))
theorem Its.rot5' {w0 w : World} {a b c d e : It} {l : List It} (h : Its w0 (e :: a :: b :: c :: d :: l) w) : Its w0 (a :: b :: c :: d :: e :: l) w := h.perm ((List.Perm.cons a ((List.Perm.cons b ((List.Perm.cons c (.swap e d l)).trans (.swap e c _))).trans (.swap e b _))).trans (.swap e a _)).symm
theorem fnT_add (T : List (Nat × En)) (p : Nat × En) (y : Int) : fnT (T ++ [p]) y = (fnT T y).or (if p.2.r.id = y then some p else none) := by
  unfold fnT
  rw [List.find?_append]
  congr 1
  by_cases h : p.2.r.id = y
  · simp [h]
  · simp [h]
theorem kn_add {T : List (Nat × En)} {e0 : Nat} {r : Rq} (hT : fnT T r.id = none) : kn (T ++ [(e0, ⟨r, 1⟩)]) = fun y => if y = r.id then some (.pointer (some ⟨e0, 0, none⟩)) else kn T y := by
  funext y
  unfold kn
  rw [fnT_add]
  by_cases h : y = r.id
  · subst h
    rw [hT]
    simp
  · rw [if_neg h, if_neg (fun q => h q.symm)]
    simp
theorem sv_ad {S : Bk} (hok : S.Ok) (r : Rq) : Bk.sv ⟨S.all ++ [⟨r, 1⟩], S.done⟩ = S.sv := by
 funext s
 unfold Bk.sv
 apply List.filter_congr
 intro x hx
 obtain ⟨e, he, q, _⟩ := hok.dn x hx
 have h1 := fnd_of hok.nd he
 rw [q] at h1
 unfold stn
 simp only [fnd_add, h1, Option.some_or]
section
variable {w0 w : World} {g : Nat} {H : Hb} {S : Bk} {l : List It}
def ext (T : List (Nat × En)) (e0 : Nat) (r : Rq) : List (Nat × En) := T ++ [(e0, ⟨r, 1⟩)]
def adB (S : Bk) (r : Rq) : Bk := ⟨S.all ++ [⟨r, 1⟩], S.done⟩
def adIts (B g : Nat) (H : Hb) (S : Bk) (r : Rq) (e0 : Nat) : List It := [.row ptrE B H.vo ((opT H.T).map (·.1)), .ents (ext H.T e0 r), .box g #[.map (some H.kb), H.vo, .map (some H.sb)] 191, .srv B H.sb S.done.length H.fs (adB S r).sv, .mp H.kb (adB S r).all.length (kn (ext H.T e0 r))]
def enV (r : Rq) : Array Value := #[.int .i64 r.id, .int .i64 r.st, .int .i64 r.tt, .int .i64 1]
theorem add_map {W : World} {r : Rq} {y : It} (h : Its w0 (y :: .book w0.heap.size g H S :: l) W) (hT : fnT H.T r.id = none) (hiB : I64 r.id) (hn : S.all.length ≤ 1000000) :
    ∃ W5, (Instr.mapUpdate 187 (.map (some H.kb)) (.int .i64 r.id) (.pointer (some ⟨W.heap.size, 0, none⟩))).run Tryz.prog (W.alloc (.cells (enV r) 194)).drew = .ok () W5 ∧
      Its w0 (adIts w0.heap.size g H S r W.heap.size ++ y :: l) W5 := by
  obtain ⟨hl, hlie⟩ := h.swap.bopen
  unfold adIts adB ext
  rw [sv_ad hlie.1, kn_add hT, show (S.all ++ [(⟨r, 1⟩ : En)]).length = S.all.length + 1 by simp]
  have he : ∀ q ∈ H.T, W.heap[q.1]? = some (.cells (enC q.2) 194) := hl.all (.ents H.T) (by simp [limbs])
  have h4 := ((hl.swap.chg (x' := .ents (H.T ++ [(W.heap.size, (⟨r, 1⟩ : En))])) (w' := W.alloc (.cells (enV r) 194)) (by
    intro q hq
    rcases List.mem_append.1 hq with hq | hq
    · rw [(below_new W _).block q.1 (heap_lt (he q hq))]; exact he q hq
    · simp at hq
      subst hq
      exact heap_new W _) (by
    rintro k ⟨q, hq, rfl⟩
    rcases List.mem_append.1 hq with hq | hq
    · exact .inl ⟨q, hq, rfl⟩
    · simp at hq
      subst hq
      exact .inr (Nat.le_refl _)) (Frm.of_below (below_new W _))).swap).drew 1
  obtain ⟨W5, h5, h6, h7⟩ := Mpi.put Tryz.underlying187 (show Mpi _ H.kb S.all.length (kn H.T) from h4.rot5.one) hiB (.pointer (some ⟨W.heap.size, 0, none⟩)) hn
  exact ⟨W5, h5, (h4.rot5.chg (x' := .mp H.kb (S.all.length + 1) (fun y => if y = r.id then some (.pointer (some ⟨W.heap.size, 0, none⟩)) else kn H.T y)) h6 (fun k hk => .inl hk) h7).rot5'⟩
theorem add_fin {w1 w2 : World} {r : Rq} {y : It} {e0 : Nat} {v' : Value} (h : Its w0 (adIts w0.heap.size g H S r e0 ++ y :: l) w1)
    (hlie : Lie H.T S) (hok : (adB S r).Ok) (hne : ∀ p ∈ H.T, p.1 ≠ e0) (ho : ptrE.Own w2 w0.heap.size v' ((opT H.T).map (·.1) ++ [e0])) (hg : w1.grownBy w2 H.vo.ownBlock) (hb : v'.ownBlock = H.vo.ownBlock ∨ v'.ownBlock = some w1.heap.size) :
    (∃ H', Its w0 (.book w0.heap.size g H' (adB S r) :: l) (w2.setCell ⟨g, 1, none⟩ v')) ∧ w2.cell? ⟨g, 1, none⟩ = some H.vo ∧ ∀ i, w2.frozen? ⟨g, i, none⟩ = false := by
  obtain ⟨k1, k2, k3⟩ := fin_two h ho hg hb
  refine ⟨⟨⟨H.kb, H.sb, v', H.fs, ext H.T e0 r⟩, ?_⟩, k2, k3⟩
  have e1 : (opT H.T).map (·.1) ++ [e0] = (opT (ext H.T e0 r)).map (·.1) := by
    unfold ext
    rw [opT_app, List.map_append]
    rfl
  rw [e1] at k1
  refine (Its.bshut (H := ⟨H.kb, H.sb, v', H.fs, ext H.T e0 r⟩) (S := adB S r) k1 ⟨hok, ?_, ?_⟩).swap.tail
  · show S.all ++ [⟨r, 1⟩] = _
    unfold ext
    rw [hlie.2.1, List.map_append]; rfl
  · show ((H.T ++ [(e0, (⟨r, 1⟩ : En))]).map (·.1)).Nodup
    rw [List.map_append, List.nodup_append]
    refine ⟨hlie.2.2, by simp, fun a ha b hb => ?_⟩
    obtain ⟨p, hp, rfl⟩ := List.mem_map.1 ha
    simp at hb
    subst hb
    exact hne p hp
theorem ptr_new (w : World) (x : Nat) : ptrE.Rd (w.alloc (.cells #[.pointer (some ⟨x, 0, none⟩)] 185)) (.slice (some ⟨w.heap.size, 0, none⟩) 1 1) [x] := (El.Own.new ptrE w w.heap.size (Nat.le_refl _) #[.pointer (some ⟨x, 0, none⟩)] [x] rfl (by simp) _ _ _ rfl rfl rfl).rd
set_option maxRecDepth 100000 in
set_option maxHeartbeats 4000000 in
theorem add_any (h : Its w0 (.book w0.heap.size g H S :: l) w) (r : Rq) (hiB : I64 r.id) (hn : S.all.length ≤ 10000) : Calls Tryz.prog 45 #[.pointer (some ⟨g, 0, none⟩), .agg #[.int .i64 r.id, .int .i64 r.st, .int .i64 r.tt]] w fun e w' => e = .returned (.tuple #[.bool (S.adY r), .int .i64 (S.adC r)]) ∧ ∃ H', Its w0 (.book w0.heap.size g H' (S.ad r) :: l) w' := by
  have hlie := bk_lie h.one
  have hB : Its w0 (.box w.heap.size #[.int .i64 r.id, .int .i64 r.st, .int .i64 r.tt] 53 :: .book w0.heap.size g H S :: l) (w.alloc (.cells #[.int .i64 r.id, .int .i64 r.st, .int .i64 r.tt] 53)) := h.new (x := .box w.heap.size _ 53) (heap_new w _) (fun k hk => by cases hk; exact Nat.le_refl _) (below_new w _)
  have HI1 := hide hB
  by_cases hr : rng r
  · obtain ⟨r1, r2, r3, r4⟩ := hr
    have hrr : rng r := ⟨r1, r2, r3, r4⟩
    have hl : ∀ q, (Instr.lookup 187 (.map (some H.kb)) (.int .i64 r.id) true).run Tryz.prog ((w.alloc (.cells #[.int .i64 r.id, .int .i64 r.st, .int .i64 r.tt] 53)).drewN q) = .ok (.tuple #[(kn H.T r.id).getD (.pointer none), .bool (kn H.T r.id).isSome]) ((w.alloc (.cells #[.int .i64 r.id, .int .i64 r.st, .int .i64 r.tt] 53)).drewN q) := fun q => (bk_mp (hB.drew q).two).look hiB
    obtain ⟨c0, c1, c2, _⟩ := bk_cells hB.two
    have n1 : ¬ r.st < 0 := by omega
    have n2 : ¬ 40 ≤ r.st := by omega
    have n3 : ¬ r.tt < 1 := by omega
    have n4 : ¬ 30 < r.tt := by omega
    cases hT : fnT H.T r.id with
    | some p =>
      have hf := lie_some hlie hT
      have hadC : S.adC r = if p.2.r = r then 0 else 2 := by unfold Bk.adC; rw [if_pos hrr, hf]
      have hadY : S.adY r = false := by unfold Bk.adY; rw [hf]; simp
      rw [Bk.ad_no hadY, hadY, hadC]
      rw [kn_some hT] at hl
      simp only [Option.getD_some, Option.isSome_some] at hl
      obtain ⟨d0, d1, d2, d3, _⟩ := bk_ent hB.two (fnT_mem hT)
      have heq := fun W => rq_equal W p.2.r r
      by_cases hp : p.2.r = r
      · rw [if_pos hp]
        rw [decide_eq_true hp] at heq
        obtain ⟨b, ⟨⟨i', s', t'⟩, en⟩⟩ := p
        obtain ⟨i, s, t⟩ := r
        simp only at *
        clear h hB hlie hiB hn hf hadC hadY hT hp hrr
        go_enter Tryz.func45, Tryz.ntmps45
        go_upto_region 3 with fail
        go_quiet (fail)
        go_upto_region 5 with fail
        go_quiet (fail)
        go_wp2_with fail
        go_ret2
        exact ⟨rfl, _, (HI1.out.drew _).tail⟩
      · rw [if_neg hp]
        rw [decide_eq_false hp] at heq
        obtain ⟨b, ⟨⟨i', s', t'⟩, en⟩⟩ := p
        obtain ⟨i, s, t⟩ := r
        simp only at *
        clear h hB hlie hiB hn hf hadC hadY hT hp hrr
        go_enter Tryz.func45, Tryz.ntmps45
        go_upto_region 3 with fail
        go_quiet (fail)
        go_upto_region 5 with fail
        go_quiet (fail)
        go_wp2_with fail
        go_ret2
        exact ⟨rfl, _, (HI1.out.drew _).tail⟩
    | none =>
      have hf := lie_none hlie hT
      rw [kn_none hT] at hl
      simp only [Option.getD_none, Option.isSome_none] at hl
      have KW : Hid (∀ q, Calls Tryz.prog 110 #[.pointer (some ⟨g, 0, none⟩), .int .i64 r.tt] ((w.alloc (.cells #[.int .i64 r.id, .int .i64 r.st, .int .i64 r.tt] 53)).drewN q) fun e w' => e = .returned (.tuple #[rqV (wnt S.all r.tt), .bool (wnt S.all r.tt).isSome]) ∧ Its w0 (.box w.heap.size #[.int .i64 r.id, .int .i64 r.st, .int .i64 r.tt] 53 :: .book w0.heap.size g H S :: l) w') := hide (fun q => by
        refine (wanted_any (hB.drew q).two r.tt).mono ?_
        rintro e w' ⟨rfl, hb⟩
        exact ⟨rfl, (hB.drew q).keep hb⟩)
      obtain ⟨x, y, z, exyz⟩ := rqV_form (wnt S.all r.tt)
      rw [exyz] at KW
      by_cases hw : (wnt S.all r.tt).isSome = true
      · have hadC : S.adC r = 160 := by unfold Bk.adC; rw [if_pos hrr, hf]; simp only [if_pos hw]
        have hadY : S.adY r = false := by unfold Bk.adY; rw [hadC]; rfl
        rw [Bk.ad_no hadY, hadY, hadC]
        rw [hw] at KW
        obtain ⟨i, s, t⟩ := r
        simp only at *
        clear h hB hlie hiB hn hf hadC hadY hT hrr hw exyz
        go_enter Tryz.func45, Tryz.ntmps45
        go_upto_region 3 with fail
        go_quiet (fail)
        go_wp2_with (go_at_call 110; refine (KW.out _).mono ?_; rintro e w2 ⟨rfl, h2⟩; have HI2 := hide h2; clear h2)
        go_ret2
        exact ⟨rfl, _, (HI2.out.alloc _).tail⟩
      · have hw' : (wnt S.all r.tt).isSome = false := by simpa using hw
        have hfew := hlie.1.few
        have hadY : S.adY r = true := Bk.adY_iff.2 ⟨hrr, hf, by simpa using hw', by omega⟩
        have hadC : S.adC r = 0 := by
          have := hadY
          unfold Bk.adY at this
          simp at this
          exact this.1
        have hok := hlie.1.ad (r := r) hiB
        rw [Bk.ad_yes hadY] at hok ⊢
        have hok : (adB S r).Ok := hok
        rw [show (⟨S.all ++ [⟨r, 1⟩], S.done⟩ : Bk) = adB S r from rfl]
        rw [hadY, hadC]
        rw [hw'] at KW
        rw [hlie.ops, List.length_map] at hfew
        obtain ⟨a, c, ev⟩ := (bk_row h.one).rd.form
        rw [List.length_map] at ev
        obtain ⟨n, hnn⟩ : ∃ n, (opT H.T).length = n := ⟨_, rfl⟩
        rw [hnn] at hfew ev
        have m0 : ¬ (64 : Int) ≤ (n : Int) := by omega
        have HM : Hid (∀ W, Its w0 (.box w.heap.size #[.int .i64 r.id, .int .i64 r.st, .int .i64 r.tt] 53 :: .book w0.heap.size g H S :: l) W → ∃ W5, (Instr.mapUpdate 187 (.map (some H.kb)) (.int .i64 r.id) (.pointer (some ⟨W.heap.size, 0, none⟩))).run Tryz.prog (W.alloc (.cells (enV r) 194)).drew = .ok () W5 ∧ Its w0 (adIts w0.heap.size g H S r W.heap.size ++ .box w.heap.size #[.int .i64 r.id, .int .i64 r.st, .int .i64 r.tt] 53 :: l) W5) := hide (fun W hW => add_map (r := r) hW hT hiB (by omega))
        have HFN : Hid (∀ (e0 : Nat) (w1 w2 : World) (v' : Value), Its w0 (adIts w0.heap.size g H S r e0 ++ .box w.heap.size #[.int .i64 r.id, .int .i64 r.st, .int .i64 r.tt] 53 :: l) w1 → (∀ p ∈ H.T, p.1 ≠ e0) → ptrE.Own w2 w0.heap.size v' ((opT H.T).map (fun p : Nat × En => p.1) ++ [e0]) → w1.grownBy w2 H.vo.ownBlock → (v'.ownBlock = H.vo.ownBlock ∨ v'.ownBlock = some w1.heap.size) → (∃ H', Its w0 (.book w0.heap.size g H' (adB S r) :: l) (w2.setCell ⟨g, 1, none⟩ v')) ∧ w2.cell? ⟨g, 1, none⟩ = some H.vo ∧ ∀ i, w2.frozen? ⟨g, i, none⟩ = false) := hide (fun e0 w1 w2 v' h5 hne ho hg hb => add_fin h5 hlie hok hne ho hg hb)
        have HEV := hide ev
        rw [ev] at HFN
        have HBE : Hid (∀ W, Its w0 (.box w.heap.size #[.int .i64 r.id, .int .i64 r.st, .int .i64 r.tt] 53 :: .book w0.heap.size g H S :: l) W → (W.heap[w.heap.size]? = some (.cells #[.int .i64 r.id, .int .i64 r.st, .int .i64 r.tt] 53) ∧ W.heap[g]? = some (.cells #[.map (some H.kb), .slice a n c, .map (some H.sb)] 191)) ∧ ∀ p ∈ H.T, p.1 ≠ W.heap.size) := hide (fun W hW => ⟨⟨hW.one, by rw [← ev]; exact bk_box hW.two⟩, fun p hp e => by
          have := heap_lt (bk_ents hW.two p hp)
          omega⟩)
        have HNL : Hid (((opT H.T).map (fun p : Nat × En => p.1)).length + [0].length ≤ 1000000) := hide (by simp; omega)
        have c1 : (w.alloc (.cells #[.int .i64 r.id, .int .i64 r.st, .int .i64 r.tt] 53)).cell? ⟨g, 1, none⟩ = some (.slice a n c) := by rw [← ev]; exact c1
        obtain ⟨i, s, t⟩ := r
        simp only at *
        clear h hB hlie hiB hn hf hadC hadY hT hrr hw hw' exyz hok hnn ev hfew
        go_enter Tryz.func45, Tryz.ntmps45
        go_upto_region 3 with fail
        go_quiet (fail)
        clear hl c0 c1 c2
        go_upto_region 11 with (go_at_call 110; refine (KW.out _).mono ?_; rintro e w2 ⟨rfl, h2⟩; have HI2 := hide (h2.alloc (.cells #[.int .i64 x, .int .i64 y, .int .i64 z] 53)); clear h2)
        generalize w2.alloc (.cells #[.int .i64 x, .int .i64 y, .int .i64 z] 53) = W3 at *
        obtain ⟨⟨hb3, hg3⟩, hne3⟩ := HBE.out W3 HI2.out
        have HNE := hide hne3
        have b0 : W3.cell? ⟨w.heap.size, 0, none⟩ = some (.int .i64 i) := (cells_at hb3 0).1
        have b1 : W3.cell? ⟨w.heap.size, 1, none⟩ = some (.int .i64 s) := (cells_at hb3 1).1
        have b2 : W3.cell? ⟨w.heap.size, 2, none⟩ = some (.int .i64 t) := (cells_at hb3 2).1
        have g1 : W3.cell? ⟨g, 1, none⟩ = some (.slice a n c) := (cells_at hg3 1).1
        obtain ⟨W5, hput, h5⟩ := HM.out W3 HI2.out
        have H5 := hide h5
        have Hb3 := hide hb3
        have Hg3 := hide hg3
        clear hne3 h5 hb3 hg3
        go_upto_region 14 with fail
        obtain ⟨W4, hW4⟩ : ∃ W4, W4 = W3.alloc (.cells #[.int .i64 i, .int .i64 s, .int .i64 t, .int .i64 1] 194) := ⟨_, rfl⟩
        have hput : (Instr.mapUpdate 187 (.map (some H.kb)) (.int .i64 i) (.pointer (some ⟨W3.heap.size, 0, none⟩))).run Tryz.prog W4.drew = .ok () W5 := by rw [hW4]; exact hput
        obtain ⟨SS, hSS⟩ : ∃ SS : World → Prop, SS = fun W => W.heap[g]? = W3.heap[g]? ∧ W.heap[w.heap.size]? = W3.heap[w.heap.size]? := ⟨_, rfl⟩
        have s1 : ∀ W, SS W → W.cell? ⟨g, 0, none⟩ = some (.map (some H.kb)) := fun W hW => by
          rw [hSS] at hW
          exact (cells_at (hW.1.trans Hg3.out) 0).1
        have s2 : ∀ W, SS W → W.cell? ⟨w.heap.size, 0, none⟩ = some (.int .i64 i) := fun W hW => by
          rw [hSS] at hW
          exact (cells_at (hW.2.trans Hb3.out) 0).1
        have hS0 : SS W4.drew := by
          rw [hSS, hW4]
          exact ⟨(below_new W3 _).block g (heap_lt Hg3.out), (below_new W3 _).block _ (heap_lt Hb3.out)⟩
        rw [← hW4]
        clear hSS hW4 b0 b1 b2 g1
        refine wp_region_E SS 7 (by kernel_rfl) ?_
        refine wpAnyE_take (i := 0) (v := .pointer (some ⟨g, 0, none⟩)) rfl (by kernel_rfl) (by kernel_rfl) (by kernel_rfl) (by kernel_rfl) (fun _ _ _ h => h) (Or.inl ⟨by rfl, fun W' hW => by go_simp⟩) hS0 ?_
        refine wpAnyE_take (i := 1) (v := .pointer (some ⟨g, 0, none⟩)) rfl (by kernel_rfl) (by kernel_rfl) (by kernel_rfl) (by kernel_rfl) (fun _ _ _ h => h) (Or.inl ⟨by rfl, fun W' hW => by go_simp⟩) hS0 ?_
        refine wpAnyE_take (i := 2) (v := .pointer (some ⟨g, 0, none⟩)) rfl (by kernel_rfl) (by kernel_rfl) (by kernel_rfl) (by kernel_rfl) (fun _ _ _ h => h) (Or.inl ⟨by rfl, fun W' hW => by go_simp⟩) hS0 ?_
        refine wpAnyE_take (i := 3) (v := .map (some H.kb)) rfl (by kernel_rfl) (by kernel_rfl) (by kernel_rfl) (by kernel_rfl) (fun _ _ _ h => h) (Or.inl ⟨by rfl, fun W' hW => by have z0 := s1 W' hW; go_simp⟩) hS0 ?_
        refine wpAnyE_take (i := 4) (v := .pointer (some ⟨w.heap.size, 0, none⟩)) rfl (by kernel_rfl) (by kernel_rfl) (by kernel_rfl) (by kernel_rfl) (fun _ _ _ h => h) (Or.inl ⟨by rfl, fun W' hW => by go_simp⟩) hS0 ?_
        refine wpAnyE_take (i := 5) (v := .int .i64 i) rfl (by kernel_rfl) (by kernel_rfl) (by kernel_rfl) (by kernel_rfl) (fun _ _ _ h => h) (Or.inl ⟨by rfl, fun W' hW => by have z0 := s2 W' hW; go_simp⟩) hS0 ?_
        refine wpAnyE_take (i := 6) (v := .pointer (some ⟨W3.heap.size, 0, none⟩)) rfl (by kernel_rfl) (by kernel_rfl) (by kernel_rfl) (by kernel_rfl) (fun _ _ _ h => h) (Or.inl ⟨by rfl, fun W' hW => by go_simp⟩) hS0 ?_
        refine wpAnyE_ready (rs := [7]) (by kernel_rfl) (by simp) ?_
        refine AllReadyE.cons rfl (fun K hK => ?_) AllReadyE.nil
        go_simp
        refine hK.out _ _ (fun h => absurd rfl h) ?_
        clear hK K
        refine wpAnyE_done (by kernel_rfl) ?_ _
        clear s1 s2 hS0 hput
        have hg5 : W5.heap[g]? = some (.cells #[.map (some H.kb), .slice a n c, .map (some H.sb)] 191) := by rw [← HEV.out]; exact H5.out.three
        have HO6 : Hid (ptrE.Own (W5.alloc (.cells #[.pointer (some ⟨W3.heap.size, 0, none⟩)] 185)) w0.heap.size (.slice a n c) ((opT H.T).map (fun p : Nat × En => p.1))) := hide (by rw [← HEV.out]; exact (H5.out.alloc _).one)
        have f1 : W5.cell? ⟨g, 1, none⟩ = some (.slice a n c) := (cells_at hg5 1).1
        have H6 := hide (H5.out.alloc (.cells #[.pointer (some ⟨W3.heap.size, 0, none⟩)] 185))
        have HR6 : Hid (ptrE.Rd (W5.alloc (.cells #[.pointer (some ⟨W3.heap.size, 0, none⟩)] 185)) (.slice (some ⟨W5.heap.size, 0, none⟩) 1 1) [W3.heap.size]) := hide (ptr_new W5 _)
        have HF6 : Hid (∀ v' w2, ptrE.Own w2 w0.heap.size v' ((opT H.T).map (fun p : Nat × En => p.1) ++ [W3.heap.size]) → (W5.alloc (.cells #[.pointer (some ⟨W3.heap.size, 0, none⟩)] 185)).grownBy w2 (Value.slice a n c).ownBlock → (v'.ownBlock = (Value.slice a n c).ownBlock ∨ v'.ownBlock = some (W5.alloc (.cells #[.pointer (some ⟨W3.heap.size, 0, none⟩)] 185)).heap.size) → (∃ H', Its w0 (.book w0.heap.size g H' (adB S ⟨i, s, t⟩) :: l) (w2.setCell ⟨g, 1, none⟩ v')) ∧ w2.cell? ⟨g, 1, none⟩ = some (.slice a n c) ∧ ∀ i, w2.frozen? ⟨g, i, none⟩ = false) := hide (fun v' w2 ho hg hb => HFN.out W3.heap.size _ w2 v' H6.out HNE.out ho hg hb)
        clear HFN hg5 Hg3 Hb3
        generalize W3.heap.size = e0 at *
        go_wp2_with (at_builtin; refine ptrE.wpB (B := w0.heap.size) H6.out.size (by rfl) _ _ rfl _ _ rfl rfl _ _ HO6.out HR6.out HNL.out ?_; intro v7 w7 ho hg hs; obtain ⟨a7, n7, hf7⟩ := ho.rd.form; subst hf7; obtain ⟨t1, x4, x5⟩ := HF6.out _ _ ho hg hs; have HT1 := hide t1; generalize ((opT H.T).map (fun p : Nat × En => p.1) ++ [e0]).length = n8 at *; clear ho hg hs t1)
        go_ret2
        exact ⟨rfl, HT1.out⟩
  · have hadC : S.adC r = 1 := if_neg hr
    have hadY : S.adY r = false := by unfold Bk.adY; rw [hadC]; rfl
    rw [Bk.ad_no hadY, hadY, hadC]
    have hr' : r.st < 0 ∨ (¬ r.st < 0 ∧ 40 ≤ r.st) ∨ (¬ r.st < 0 ∧ ¬ 40 ≤ r.st ∧ r.tt < 1) ∨ (¬ r.st < 0 ∧ ¬ 40 ≤ r.st ∧ ¬ r.tt < 1 ∧ 30 < r.tt) := by
      unfold rng at hr
      omega
    obtain ⟨i, s, t⟩ := r
    simp only at *
    clear h hB hlie hiB hn hadC hadY hr
    rcases hr' with q1 | ⟨q1, q2⟩ | ⟨q1, q2, q3⟩ | ⟨q1, q2, q3, q4⟩
    · go_enter Tryz.func45, Tryz.ntmps45
      go_wp2_with fail
      go_ret2
      exact ⟨rfl, _, HI1.out.tail⟩
    · go_enter Tryz.func45, Tryz.ntmps45
      go_wp2_with fail
      go_ret2
      exact ⟨rfl, _, HI1.out.tail⟩
    · go_enter Tryz.func45, Tryz.ntmps45
      go_wp2_with fail
      go_ret2
      exact ⟨rfl, _, HI1.out.tail⟩
    · go_enter Tryz.func45, Tryz.ntmps45
      go_wp2_with fail
      go_ret2
      exact ⟨rfl, _, HI1.out.tail⟩
end
end Go.Proofs.YtocmngpoemfpkabGreatDoor

namespace Go.Proofs.YtocmngpoemfpkabGreatDoor
open Go.RowKit Go.Maps Go.ChangeMaps
def rqE : El Tryz.prog Rq where
 t := 181
 e := 53
 k := 3
 by' := 24
 z := .agg #[.int .i64 0, .int .i64 0, .int .i64 0]
 enc r := [.int .i64 r.id, .int .i64 r.st, .int .i64 r.tt]
 ht := Tryz.underlying181
 info := by kernel_rfl
 zc := rfl
 kpos := by omega
 bsm := by omega
 len _ := rfl
 one x v hv := by simp at hv; rcases hv with rfl | rfl | rfl <;> rfl
theorem rq_at {w : World} {a : Option Addr} {n c : Nat} {rs : List Rq} (h : rqE.Rd w (.slice a n c) rs) (i : Nat) (r : Rq) (hp : rs[i]? = some r) : ∃ b off, a = some ⟨b, off, none⟩ ∧ w.cell? ⟨b, off + i * 3, none⟩ = some (.int .i64 r.id) ∧ w.cell? ⟨b, off + i * 3 + 1, none⟩ = some (.int .i64 r.st) ∧ w.cell? ⟨b, off + i * 3 + 2, none⟩ = some (.int .i64 r.tt) := by
 obtain ⟨b, off, h1, h2⟩ := h.at i r hp
 exact ⟨b, off, h1, h2 0 (by decide), h2 1 (by decide), h2 2 (by decide)⟩
theorem rq_new (w : World) (r : Rq) : rqE.Rd (w.alloc (.cells #[.int .i64 r.id, .int .i64 r.st, .int .i64 r.tt] 53)) (.slice (some ⟨w.heap.size, 0, none⟩) 1 1) [r] := (El.Own.new rqE w w.heap.size (Nat.le_refl _) #[.int .i64 r.id, .int .i64 r.st, .int .i64 r.tt] [r] rfl (by simp) _ _ _ rfl rfl rfl).rd
set_option maxRecDepth 100000 in
set_option maxHeartbeats 2000000 in
theorem same_any (a b : Option Addr) (c d n n' : Nat) (xs ys : List Rq) (w : World) (hn : xs.length = n) (hn' : ys.length = n') (hv : rqE.Rd w (.slice a n c) xs) (hu : rqE.Rd w (.slice b n' d) ys) (hl : n ≤ 100000) :
    Calls Tryz.prog 106 #[.slice a n c, .slice b n' d] w fun e w' => e = .returned (.bool (decide (xs = ys))) ∧ ∃ q, w' = w.drewN q := by
  have no1 : Hid (n ≠ n' → decide (xs = ys) = false) := hide (fun h => decide_eq_false (fun e => h (by rw [← hn, ← hn', e])))
  have no2 : Hid (∀ (k : Nat) (p q : Rq), xs[k]? = some p → ys[k]? = some q → p ≠ q → decide (xs = ys) = false) := hide (fun k p q h1 h2 h3 => decide_eq_false (fun e => h3 (by rw [e, h2] at h1; exact (Option.some.inj h1).symm)))
  have yes : Hid (n = n' → xs.take n = ys.take n → decide (xs = ys) = true) := hide (fun h1 h3 => decide_eq_true (by rwa [List.take_of_length_le (by omega), List.take_of_length_le (by omega)] at h3))
  generalize decide (xs = ys) = res at *
  by_cases hnn' : n ≠ n'
  · have e1 := no1.out hnn'
    subst e1
    have q1 : ((n : Int) != (n' : Int)) = true := bne_iff_ne.2 (by omega)
    clear no1 no2 yes hv hu hn hn' hnn'
    go_enter Tryz.func106, Tryz.ntmps106
    go_wp2_with fail
    go_ret
    exact ⟨rfl, 0, rfl⟩
  have hnn : n = n' := Decidable.not_not.1 hnn'
  clear hnn'
  subst hnn
  have q1 : ((n : Int) != (n : Int)) = false := bne_self_eq_false _
  have Hn := hide hn
  have Hn' := hide hn'
  have Hv := hide hv
  have Hu := hide hu
  have i0 : (n : Int) ≤ 100000 := by omega
  clear hn hn' hv hu hl no1
  go_enter Tryz.func106, Tryz.ntmps106
  go_wp2_with fail
  go_loopw [13] (fun v13 wr => ∃ k q : Nat, k ≤ n ∧ v13 = .int .i64 k ∧ wr = w.drewN q ∧ Hid (xs.take k = ys.take k)) (fun v13 _ => n - (intOf v13).toNat)
  case atStart => exact ⟨0, 0, by omega, rfl, rfl, hide (by simp)⟩
  case round =>
    obtain ⟨k, q, hk, rfl, rfl, HX⟩ := hrel
    by_cases hlt : k < n
    · obtain ⟨p, hp⟩ : ∃ p, xs[k]? = some p := ⟨_, List.getElem?_eq_getElem (by rw [Hn.out]; exact hlt)⟩
      obtain ⟨p', hp'⟩ : ∃ p, ys[k]? = some p := ⟨_, List.getElem?_eq_getElem (by rw [Hn'.out]; exact hlt)⟩
      obtain ⟨b1, off1, rfl, c0, c1, c2⟩ := rq_at Hv.out k p hp
      obtain ⟨b2, off2, rfl, c3, c4, c5⟩ := rq_at Hu.out k p' hp'
      have j0 : (0 : Int) ≤ (k : Int) := by omega
      have j1 : (k : Int) < (n : Int) := by omega
      have Hp := hide hp
      have Hp' := hide hp'
      clear hp hp'
      by_cases he : p = p'
      · have heq := fun W => rq_equal W p p'
        rw [decide_eq_true he] at heq
        have HX1 : Hid (xs.take (k + 1) = ys.take (k + 1)) := hide (by rw [List.take_add_one, List.take_add_one, HX.out, Hp.out, Hp'.out, he])
        clear he
        go_upto_region 6 with fail
        go_quiet (fail)
        go_wp2_with fail
        go_roundw
        case rel => exact ⟨k + 1, _, by omega, by go_num, rfl, HX1⟩
        case measure => simp [intOf]; omega
      · have heq := fun W => rq_equal W p p'
        rw [decide_eq_false he] at heq
        have e1 := no2.out k p p' Hp.out Hp'.out he
        subst e1
        clear he
        go_upto_region 6 with fail
        go_quiet (fail)
        go_wp2_with fail
        go_ret
        exact ⟨rfl, _, rfl⟩
    · obtain rfl : k = n := by omega
      have j1 : ¬ (k : Int) < (k : Int) := by omega
      have e1 := yes.out (by first | rfl | trivial) HX.out
      subst e1
      go_wp2_with fail
      go_ret
      exact ⟨rfl, _, rfl⟩
set_option maxRecDepth 100000 in
set_option maxHeartbeats 2000000 in
theorem bopen_any {w : World} {B g : Nat} {H : Hb} {S : Bk} (h : (It.book B g H S).P w) : Calls Tryz.prog 120 #[.pointer (some ⟨g, 0, none⟩)] w fun e w' => ∃ a' c', e = .returned (.slice a' (ops S.all).length c') ∧ rqE.Own w' w.heap.size (.slice a' (ops S.all).length c') (ops S.all) ∧ Below w.heap.size w w' := by
  obtain ⟨w0, rfl⟩ : ∃ w0, w0 = w := ⟨_, rfl⟩
  have hlie := bk_lie h
  have hfew := hlie.1.few
  obtain ⟨a, c, ev⟩ := (bk_row h).rd.form
  obtain ⟨c0, c1, c2, _⟩ := bk_cells h
  rw [ev, List.length_map] at c1
  have hops := hlie.ops
  have HE : Hid (∀ (k : Nat) (wr : World), k < (opT H.T).length → Below w0.heap.size w0 wr → ∃ (b off g' : Nat) (e : En), a = some ⟨b, off, none⟩ ∧ wr.cell? ⟨b, off + k, none⟩ = some (.pointer (some ⟨g', 0, none⟩)) ∧ wr.cell? ⟨g', 0, none⟩ = some (.int .i64 e.r.id) ∧ wr.cell? ⟨g', 1, none⟩ = some (.int .i64 e.r.st) ∧ wr.cell? ⟨g', 2, none⟩ = some (.int .i64 e.r.tt) ∧ (ops S.all)[k]? = some e.r) := hide (fun k wr hk hb => by
    have hw := (It.book B g H S).kept h hb
    have hr := (bk_row hw).rd
    rw [ev] at hr
    have hp : (opT H.T)[k]? = some (opT H.T)[k] := List.getElem?_eq_getElem hk
    obtain ⟨b, off, q1, q2⟩ := ptr_at hr k (opT H.T)[k].1 (by rw [List.getElem?_map, hp]; rfl)
    obtain ⟨d0, d1, d2, _⟩ := bk_ent hw (p := (opT H.T)[k]) (List.mem_filter.1 (List.getElem_mem hk)).1
    exact ⟨b, off, (opT H.T)[k].1, (opT H.T)[k].2, q1, q2, d0, d1, d2, by rw [hops, List.getElem?_map, hp]; rfl⟩)
  rw [← List.length_map (f := fun p : Nat × En => p.2.r), ← hops] at c1 HE
  generalize ops S.all = rs at *
  obtain ⟨n, hn⟩ : ∃ n, rs.length = n := ⟨_, rfl⟩
  rw [hn] at c1 HE hfew ⊢
  have Hn := hide hn
  have i0 : (n : Int) ≤ 30 := by omega
  have Hf := hide hfew
  clear h hlie hfew ev c0 c2 hops hn
  go_enter Tryz.func120, Tryz.ntmps120
  go_wp2_with fail
  go_loopw [3, 11] (fun v3 v11 wr => ∃ (k : Nat) (v : Value), k ≤ n ∧ v = v3 ∧ v11 = .int .i64 k ∧ Hid (rqE.Own wr w0.heap.size v (rs.take k)) ∧ Hid (Below w0.heap.size w0 wr)) (fun _ v11 _ => n - (intOf v11).toNat)
  case atStart => exact ⟨0, _, by omega, rfl, rfl, hide (El.Own.nil _ _ _), hide (Below.refl _ _)⟩
  case round =>
    obtain ⟨k, v, hk, hv, rfl, HO, HB⟩ := hrel
    subst hv
    by_cases hlt : k < n
    · obtain ⟨b, off, g', e, rfl, q0, d0, d1, d2, hr⟩ := HE.out k wr hlt HB.out
      obtain ⟨⟨i, s, t⟩, en⟩ := e
      simp only at d0 d1 d2 hr
      have j0 : (0 : Int) ≤ (k : Int) := by omega
      have j1 : (k : Int) < (n : Int) := by omega
      have HR := hide (rq_new wr ⟨i, s, t⟩)
      have HB1 := hide (HB.out.alloc HB.out.size (.cells #[.int .i64 i, .int .i64 s, .int .i64 t] 53))
      have HO1 : Hid (rqE.Own (wr.alloc (.cells #[.int .i64 i, .int .i64 s, .int .i64 t] 53)) w0.heap.size v (rs.take k)) := hide (HO.out.keep (below_new wr _))
      have HN : Hid ((rs.take k).length + [(⟨i, s, t⟩ : Rq)].length ≤ 1000000) := hide (by have := Hf.out; simp; omega)
      have HT : Hid (rs.take k ++ [⟨i, s, t⟩] = rs.take (k + 1)) := hide (by rw [List.take_add_one, hr]; rfl)
      clear hr HO
      go_wp2_with (at_builtin; refine rqE.wp (w0 := w0) HB1.out (by rfl) _ _ rfl _ _ rfl rfl _ _ HO1.out HR.out HN.out ?_; intro v1 w2 ho2 _ _ hb2; rw [HT.out] at ho2; have Ho := hide ho2; have HB2 := hide hb2; clear ho2 hb2)
      go_roundw
      case rel => exact ⟨k + 1, _, by omega, rfl, by go_num, Ho, HB2⟩
      case measure => simp [intOf]; omega
    · obtain rfl : k = n := by omega
      have j1 : ¬ (k : Int) < (k : Int) := by omega
      have ho := HO.out
      rw [List.take_of_length_le (by rw [Hn.out]; omega)] at ho
      obtain ⟨a', c', e⟩ := ho.rd.form
      rw [Hn.out] at e
      subst e
      have Ho := hide ho
      clear ho HO
      go_wp2_with fail
      go_ret
      exact ⟨_, _, rfl, Ho.out, HB.out⟩
section
variable {w0 w : World} {g : Nat} {H : Hb} {S S' : Bk} {l : List It}
theorem addS {y : Bool} {e : Int} (r : Rq) (h : Its w0 (.book w0.heap.size g H S :: l) w) (hiB : I64 r.id) (hn : S.all.length ≤ 10000) (h1 : S.adY r = y ∧ S.adC r = e) (h2 : S.ad r = S') : Calls Tryz.prog 45 #[.pointer (some ⟨g, 0, none⟩), .agg #[.int .i64 r.id, .int .i64 r.st, .int .i64 r.tt]] w fun q w' => q = .returned (.tuple #[.bool y, .int .i64 e]) ∧ ∃ H', Its w0 (.book w0.heap.size g H' S' :: l) w' := by
 have := add_any h r hiB hn
 rwa [h1.1, h1.2, h2] at this
theorem cancelS {y : Bool} {e : Int} {x : Int} (h : Its w0 (.book w0.heap.size g H S :: l) w) (hiB : I64 x) (h1 : S.caY x = y ∧ S.caC x = e) (h2 : S.ca x = S') : Calls Tryz.prog 50 #[.pointer (some ⟨g, 0, none⟩), .int .i64 x] w fun q w' => q = .returned (.tuple #[.bool y, .int .i64 e]) ∧ ∃ H', Its w0 (.book w0.heap.size g H' S' :: l) w' := by
 have := cancel_any h hiB
 rwa [h1.1, h1.2, h2] at this
theorem serveS {e : Int} {x : Int} (h : Its w0 (.book w0.heap.size g H S :: l) w) (hiB : I64 x) (hd : S.done.length ≤ 10000) (h1 : S.seC x = e) (h2 : S.se x = S') : Calls Tryz.prog 145 #[.pointer (some ⟨g, 0, none⟩), .int .i64 x] w fun q w' => q = .returned (.int .i64 e) ∧ ∃ H', Its w0 (.book w0.heap.size g H' S' :: l) w' := by
 have := serve_any h hiB hd
 rwa [h1, h2] at this
end
end Go.Proofs.YtocmngpoemfpkabGreatDoor

namespace Go.Proofs.YtocmngpoemfpkabGreatDoor
open Go.RowKit
set_option maxRecDepth 100000 in
set_option maxHeartbeats 4000000 in
theorem waysTo_any (a a' aM : Option Addr) (c c' cM n m k0 t : Nat) (ns : List Nd) (es : List Ed) (ms : List Int) (w : World) (hL : Ly w a a' c c' n m ns es) (hM : Mk w aM cM k0 ms) (hs : t < n) :
  Calls Tryz.prog 215 #[.agg #[.slice a n c, .slice a' m c'], .slice aM k0 cM, .int .i64 (t : Int)] w fun e w' => (∃ g l, e = .returned (.agg #[.slice a n c, .slice a' m c', .slice aM k0 cM, .int .i64 (t : Int), .slice (some ⟨g, 0, none⟩) n n]) ∧ intE.Own w' w.heap.size (.slice (some ⟨g, 0, none⟩) n n) l ∧ Far (Eg es (clo m ms) 1) (Tk ns) t n l) ∧ Below w.heap.size w w' := by
 obtain ⟨W0, hW0⟩ : ∃ W0, (w.alloc (.cells #[.slice a n c, .slice a' m c'] 25)).alloc (.cells #[.slice none 0 0, .slice none 0 0, .slice none 0 0, .int .i64 0, .slice none 0 0] 279) = W0 := ⟨_, rfl⟩
 have bA : Below w.heap.size w W0 := by rw [← hW0]; exact ((Below.refl _ _).alloc (Nat.le_refl _) _).alloc (by simp) _
 have hbox : W0.heap[w.heap.size]? = some (.cells #[.slice a n c, .slice a' m c'] 25) := by rw [← hW0, Below.heap_alloc _ _ _ (by simp)]; exact heap_new _ _
 have hz : W0.heap[w.heap.size + 1]? = some (.cells #[.slice none 0 0, .slice none 0 0, .slice none 0 0, .int .i64 0, .slice none 0 0] 279) := by
  rw [← hW0]
  have := heap_new (w.alloc (.cells #[.slice a n c, .slice a' m c'] 25)) (.cells #[.slice none 0 0, .slice none 0 0, .slice none 0 0, .int .i64 0, .slice none 0 0] 279)
  rwa [show (w.alloc (.cells #[.slice a n c, .slice a' m c'] 25)).heap.size = w.heap.size + 1 by simp] at this
 have HBOX := hide hbox
 have HZ := hide hz
 have HA := hide bA
 have HW0 := hide hW0
 have d0 := (cells_at hbox 0).1
 have d1 := (cells_at hbox 1).1
 simp at d0 d1
 have K27 : Hid (Calls Tryz.prog 237 #[.agg #[.slice a n c, .slice a' m c'], .slice aM k0 cM, .int .i64 (t : Int)] W0 fun e w' => (∃ g l, e = .returned (.tuple #[.slice (some ⟨g, 0, none⟩) n n, .int .i64 0]) ∧ intE.Own w' W0.heap.size (.slice (some ⟨g, 0, none⟩) n n) l ∧ Far (Eg es (clo m ms) 1) (Tk ns) t n l) ∧ Below W0.heap.size W0 w') := hide (to_ok a a' aM c c' cM n m k0 t ns es ms W0 (hL.keep bA) (hM.keep bA) hs)
 clear hL hM hs hW0 hbox bA hz
 go_enter Tryz.func215, Tryz.ntmps215
 go_upto_region 1 with fail
 rw [HW0.out]
 clear HW0
 go_upto_region 2 with (go_at_call 237; refine (K27.out).mono ?_; rintro e W1 ⟨⟨g, l, rfl, ho, hf⟩, hb⟩; have Ho := hide ho; have Hf := hide hf; have Hb := hide hb; obtain ⟨x0, x1⟩ := layc HBOX.out hb; have HZ1 : Hid (W1.heap[w.heap.size + 1]? = some (.cells #[.slice none 0 0, .slice none 0 0, .slice none 0 0, .int .i64 0, .slice none 0 0] 279)) := hide ((hb.block _ (heap_lt HZ.out)).trans HZ.out); clear ho hf hb)
 obtain ⟨y0, f0⟩ := cells_at HZ1.out 0
 obtain ⟨y1, f1⟩ := cells_at HZ1.out 1
 obtain ⟨y2, f2⟩ := cells_at HZ1.out 2
 obtain ⟨y3, f3⟩ := cells_at HZ1.out 3
 obtain ⟨y4, f4⟩ := cells_at HZ1.out 4
 have HN : Hid (¬ g = w.heap.size + 1) := hide (fun e => by
  have h1 := Ho.out.ge g rfl
  have h2 := heap_lt HZ.out
  omega)
 have HF : Hid (∀ v0 v1 v2 v3 v4, intE.Own (((((W1.setCell ⟨w.heap.size + 1, 0, none⟩ v0).setCell ⟨w.heap.size + 1, 1, none⟩ v1).setCell ⟨w.heap.size + 1, 2, none⟩ v2).setCell ⟨w.heap.size + 1, 3, none⟩ v3).setCell ⟨w.heap.size + 1, 4, none⟩ v4) w.heap.size (.slice (some ⟨g, 0, none⟩) n n) l ∧
   Below w.heap.size w (((((W1.setCell ⟨w.heap.size + 1, 0, none⟩ v0).setCell ⟨w.heap.size + 1, 1, none⟩ v1).setCell ⟨w.heap.size + 1, 2, none⟩ v2).setCell ⟨w.heap.size + 1, 3, none⟩ v3).setCell ⟨w.heap.size + 1, 4, none⟩ v4)) := hide (fun v0 v1 v2 v3 v4 => by
  have hne : (Value.slice (some ⟨g, 0, none⟩) n n).ownBlock ≠ some (w.heap.size + 1) := fun e => HN.out (Option.some.inj e)
  refine ⟨(own_set_other (own_set_other (own_set_other (own_set_other (own_set_other Ho.out hne) hne) hne) hne) hne).mono HA.out.size, ?_⟩
  have hb := HA.out.trans (Hb.out.mono HA.out.size)
  exact ((((hb.setCell (p := ⟨w.heap.size + 1, 0, none⟩) (by simp) _).setCell (p := ⟨w.heap.size + 1, 1, none⟩) (by simp) _).setCell (p := ⟨w.heap.size + 1, 2, none⟩) (by simp) _).setCell (p := ⟨w.heap.size + 1, 3, none⟩) (by simp) _).setCell (p := ⟨w.heap.size + 1, 4, none⟩) (by simp) _)
 simp at y0 y1 y2 y3 y4
 clear HZ HZ1 HBOX
 go_wp2_with fail
 refine bodyPost_ret (v := .agg #[.slice a n c, .slice a' m c', .slice aM k0 cM, .int .i64 (t : Int), .slice (some ⟨g, 0, none⟩) n n]) (by simp [results, Tryz.results215, go_sem, y0, y1, y2, y3, y4]) rfl ⟨⟨g, l, rfl, (HF.out _ _ _ _ _).1, Hf.out⟩, (HF.out _ _ _ _ _).2⟩
set_option maxRecDepth 100000 in
set_option maxHeartbeats 2000000 in
theorem end_any (a a' aM : Option Addr) (c c' cM n m k0 : Nat) (t : Int) (vF : Value) (es : List Ed) (i : Nat) (x y : Int) (w : World) (hu : edE.Rd w (.slice a' m c') es) (hm : es.length = m) (hl : m ≤ 100000) (hi : es[i]? = some (x, y)) :
    Calls Tryz.prog 240 #[.agg #[.slice a n c, .slice a' m c', .slice aM k0 cM, .int .i64 t, vF], .int .i64 ((i + 1 : Nat) : Int)] w fun e w' => e = .returned (.int .i64 y) ∧ w' = w.alloc (.cells #[.slice a n c, .slice a' m c', .slice aM k0 cM, .int .i64 t, vF] 279) := by
  have hb : Below w.heap.size w (w.alloc (.cells #[.slice a n c, .slice a' m c', .slice aM k0 cM, .int .i64 t, vF] 279)) := (Below.refl _ _).alloc (Nat.le_refl _) _
  have hlt : i < m := by
    rcases Nat.lt_or_ge i m with h' | h'
    · exact h'
    · rw [List.getElem?_eq_none (by omega)] at hi; cases hi
  obtain ⟨b, off, rfl, c0, c1⟩ := ed_at (hu.keep hb) i (x, y) hi
  simp only at c0 c1
  have j0 : (0 : Int) ≤ (i : Int) := by omega
  have j1 : (i : Int) < (m : Int) := by omega
  have j2 : (m : Int) ≤ 100000 := by omega
  rw [show ((i + 1 : Nat) : Int) = (i : Int) + 1 by omega]
  clear hu hm hl hi hb hlt
  go_enter Tryz.func240, Tryz.ntmps240
  go_wp2_with fail
  go_ret
  trivial
end Go.Proofs.YtocmngpoemfpkabGreatDoor

namespace Go.Proofs.YtocmngpoemfpkabGreatDoor
open Go.RowKit
structure Wy (w : World) (a a' aM : Option Addr) (c c' cM n m k0 t g : Nat) (ns : List Nd) (es : List Ed) (ms l : List Int) : Prop where
 ly : Ly w a a' c c' n m ns es
 msk : Mk w aM cM k0 ms
 far : intE.Rd w (.slice (some ⟨g, 0, none⟩) n n) l
 gr : Gr ns es ms l t n
theorem Wy.keep {w w' : World} {a a' aM : Option Addr} {c c' cM n m k0 t g : Nat} {ns : List Nd} {es : List Ed} {ms l : List Int} (h : Wy w a a' aM c c' cM n m k0 t g ns es ms l) (hb : Below w.heap.size w w') : Wy w' a a' aM c c' cM n m k0 t g ns es ms l :=
 ⟨h.ly.keep hb, h.msk.keep hb, h.far.keep hb, h.gr⟩
theorem Wy.at {w : World} {a a' aM : Option Addr} {c c' cM n m k0 t g : Nat} {ns : List Nd} {es : List Ed} {ms l : List Int} (h : Wy w a a' aM c c' cM n m k0 t g ns es ms l) (y : Nat) (hy : y < n) : w.cell? ⟨g, y, none⟩ = some (.int .i64 (va l y)) := by
 obtain ⟨b, off, h1, h2⟩ := int_at h.far y _ (va_at l y (by rw [h.gr.far.1]; exact hy))
 simp only [Option.some.injEq, Addr.mk.injEq] at h1
 obtain ⟨rfl, rfl, _⟩ := h1
 simpa using h2
theorem Wy.kind {w : World} {a a' aM : Option Addr} {c c' cM n m k0 t g : Nat} {ns : List Nd} {es : List Ed} {ms l : List Int} (h : Wy w a a' aM c c' cM n m k0 t g ns es ms l) (y : Nat) (hy : y < n) : ∃ b off, a = some ⟨b, off, none⟩ ∧ w.cell? ⟨b, off + y * 3 + 1, none⟩ = some (.int .i64 (kindAt ns (y : Int))) := by
 have hl : y < ns.length := by rw [h.ly.hn]; exact hy
 obtain ⟨b, off, h1, _, h2, _⟩ := nd_at h.ly.hv y _ (List.getElem?_eq_getElem hl)
 exact ⟨b, off, h1, by rw [kind_at (List.getElem?_eq_getElem hl)]; exact h2⟩
theorem box5W {g : Nat} {W0 W : World} {v0 v1 v2 v3 v4 : Value} (hbox : W0.heap[g]? = some (.cells #[v0, v1, v2, v3, v4] 279)) (hb : Below W0.heap.size W0 W) :
  W.cell? ⟨g, 0, none⟩ = some v0 ∧ W.cell? ⟨g, 1, none⟩ = some v1 ∧ W.cell? ⟨g, 2, none⟩ = some v2 ∧ W.cell? ⟨g, 3, none⟩ = some v3 ∧ W.cell? ⟨g, 4, none⟩ = some v4 := by
 rw [hb.cell (p := ⟨g, 0, none⟩) (heap_lt hbox), hb.cell (p := ⟨g, 1, none⟩) (heap_lt hbox), hb.cell (p := ⟨g, 2, none⟩) (heap_lt hbox), hb.cell (p := ⟨g, 3, none⟩) (heap_lt hbox), hb.cell (p := ⟨g, 4, none⟩) (heap_lt hbox)]
 exact ⟨(cells_at hbox 0).1, (cells_at hbox 1).1, (cells_at hbox 2).1, (cells_at hbox 3).1, (cells_at hbox 4).1⟩
set_option maxRecDepth 100000 in
set_option maxHeartbeats 4000000 in
theorem comesTo_any (a a' aM : Option Addr) (c c' cM n m k0 t g y : Nat) (ns : List Nd) (es : List Ed) (ms l : List Int) (left : Int) (w : World) (hW : Wy w a a' aM c c' cM n m k0 t g ns es ms l) (hy : y < n) :
    Calls Tryz.prog 252 #[.agg #[.slice a n c, .slice a' m c', .slice aM k0 cM, .int .i64 (t : Int), .slice (some ⟨g, 0, none⟩) n n], .int .i64 (y : Int), .int .i64 left] w fun e w' => e = .returned (.bool (decide (va l y = left) && (decide (y = t) || decide (kindAt ns (y : Int) = 1)))) ∧ Below w.heap.size w w' := by
  obtain ⟨W0, hW0⟩ : ∃ W0, w.alloc (.cells #[.slice a n c, .slice a' m c', .slice aM k0 cM, .int .i64 (t : Int), .slice (some ⟨g, 0, none⟩) n n] 279) = W0 := ⟨_, rfl⟩
  have bA : Below w.heap.size w W0 := by rw [← hW0]; exact (Below.refl _ _).alloc (Nat.le_refl _) _
  have hbox : W0.heap[w.heap.size]? = some (.cells #[.slice a n c, .slice a' m c', .slice aM k0 cM, .int .i64 (t : Int), .slice (some ⟨g, 0, none⟩) n n] 279) := by rw [← hW0]; exact heap_new _ _
  have HBOX := hide hbox
  have HA := hide bA
  have HW0 := hide hW0
  obtain ⟨d0, d1, d2, d3, d4⟩ := box5W hbox (Below.refl _ _)
  have b1 : Below W0.heap.size W0 (W0.alloc (.cells #[.int .i64 (y : Int)] 3)) := (Below.refl _ _).alloc (Nat.le_refl _) _
  have Hb1 := hide b1
  have K28 : Hid (∀ W, Below W0.heap.size W0 W → intE.Rd W (.slice (some ⟨W0.heap.size, 0, none⟩) 1 1) [(y : Int)] → Calls Tryz.prog 214 #[.agg #[.slice a n c, .slice a' m c'], .slice (some ⟨W0.heap.size, 0, none⟩) 1 1] W fun e w' => e = .returned (.bool true) ∧ Below W.heap.size W w') := hide (fun W h hr => by
    have := places_any a a' (some ⟨W0.heap.size, 0, none⟩) n c m c' 1 1 [(y : Int)] W rfl hr (by omega)
    rwa [place1, decide_eq_true ⟨by omega, by omega⟩] at this)
  have HWy : Hid (∀ W, Below W0.heap.size W0 W → Wy W a a' aM c c' cM n m k0 t g ns es ms l) := hide (fun W h => hW.keep (bA.trans (h.mono bA.size)))
  have Hy := hide hy
  have j0 : (0 : Int) ≤ (y : Int) := by omega
  have j1 : (y : Int) < (n : Int) := by omega
  have Hyt : Hid (decide (y = t) = ((y : Int) == (t : Int))) := hide (by
    by_cases h : y = t
    · subst h; simp
    · rw [decide_eq_false h, beq_eq_false_iff_ne.2 (by omega)])
  have Hyk : Hid (decide (kindAt ns (y : Int) = 1) = (kindAt ns (y : Int) == 1)) := hide (by
    by_cases h : kindAt ns (y : Int) = 1
    · rw [h]; rfl
    · rw [decide_eq_false h, beq_eq_false_iff_ne.2 h])
  obtain ⟨b, off, rfl, _⟩ := hW.kind y hy
  obtain ⟨res, hres⟩ : ∃ res, (decide (va l y = left) && (decide (y = t) || decide (kindAt ns (y : Int) = 1))) = res := ⟨_, rfl⟩
  rw [hres]
  have HRes := hide hres
  clear hW hy hW0 hbox bA b1 hres
  go_enter Tryz.func252, Tryz.ntmps252
  go_upto_region 1 with fail
  rw [HW0.out]
  clear HW0
  by_cases h1 : va l y = left
  · have HRes : Hid ((((y : Int) == (t : Int)) || (kindAt ns (y : Int) == 1)) = res) := hide (by rw [← Hyt.out, ← Hyk.out, ← HRes.out, decide_eq_true h1, Bool.true_and])
    clear Hyt Hyk
    go_upto_region 3 with (go_at_call 214; refine (K28.out _ Hb1.out (int_new _ _ _ rfl)).mono ?_; rintro e W2 ⟨rfl, hb2⟩; have Hb2 : Hid (Below W0.heap.size W0 W2) := hide (Hb1.out.trans (hb2.mono Hb1.out.size)); obtain ⟨x0, x1, x2, x3, x4⟩ := box5W HBOX.out Hb2.out; have x5 := (HWy.out W2 Hb2.out).at y Hy.out; obtain ⟨b', off', hbb, x6⟩ := (HWy.out W2 Hb2.out).kind y Hy.out; simp only [Option.some.injEq, Addr.mk.injEq] at hbb; obtain ⟨rfl, rfl, _⟩ := hbb; rw [h1] at x5; have q1 : (left != left) = false := bne_self_eq_false _; clear hb2 d0 d1 d2 d3 d4)
    clear h1 K28
    generalize kindAt ns (y : Int) = kd at x6 HRes
    cases hq : ((y : Int) == (t : Int))
    · rw [hq, Bool.false_or] at HRes
      have e1 := HRes.out
      subst e1
      go_wp2_with fail
      go_ret
      exact ⟨rfl, HA.out.trans (Hb2.out.mono HA.out.size)⟩
    · rw [hq, Bool.true_or] at HRes
      have e1 := HRes.out
      subst e1
      go_wp2_with fail
      go_ret
      exact ⟨rfl, HA.out.trans (Hb2.out.mono HA.out.size)⟩
  · have e1 : res = false := by rw [← HRes.out, decide_eq_false h1, Bool.false_and]
    subst e1
    have q1 : (va l y != left) = true := bne_iff_ne.2 h1
    clear HRes Hyt Hyk h1
    go_wp2_with (go_at_call 214; refine (K28.out _ Hb1.out (int_new _ _ _ rfl)).mono ?_; rintro e W2 ⟨rfl, hb2⟩; have Hb2 : Hid (Below W0.heap.size W0 W2) := hide (Hb1.out.trans (hb2.mono Hb1.out.size)); obtain ⟨x0, x1, x2, x3, x4⟩ := box5W HBOX.out Hb2.out; have x5 := (HWy.out W2 Hb2.out).at y Hy.out; clear hb2 d0 d1 d2 d3 d4)
    go_ret
    exact ⟨rfl, HA.out.trans (Hb2.out.mono HA.out.size)⟩
end Go.Proofs.YtocmngpoemfpkabGreatDoor

namespace Go.Proofs.YtocmngpoemfpkabGreatDoor
open Go.RowKit
def okE (ns : List Nd) (es : List Ed) (ms l : List Int) (t : Nat) (u left : Int) (d : Int) : Bool := okD ns es ms l t u left (d - 1).toNat
theorem find_dvs (ns : List Nd) (es : List Ed) (ms l : List Int) (t : Nat) (u left : Int) : ∀ k, (dvs es (fun e => e.1 = u) k).find? (okE ns es ms l t u left) = ((List.range k).find? (okD ns es ms l t u left)).map (fun i => ((i + 1 : Nat) : Int))
  | 0 => rfl
  | k + 1 => by
    show (dvs es (fun e => e.1 = u) k ++ _).find? _ = _
    rw [List.range_succ, List.find?_append, List.find?_append, find_dvs ns es ms l t u left k, Option.map_or]
    congr 1
    cases h : es[k]? with
    | none =>
      have : okD ns es ms l t u left k = false := by unfold okD; rw [h]
      simp [this]
    | some e =>
      by_cases he : e.1 = u
      · simp only [he, if_true]
        have e1 : okE ns es ms l t u left ((k + 1 : Nat) : Int) = okD ns es ms l t u left k := by unfold okE; rw [show ((((k + 1 : Nat) : Int) - 1).toNat) = k by omega]
        rw [List.find?_cons, List.find?_cons, e1]
        cases okD ns es ms l t u left k <;> rfl
      · have : okD ns es ms l t u left k = false := by
          unfold okD; rw [h]; simp [he]
        simp [this, he]
theorem stp_outs {ns : List Nd} {es : List Ed} {ms l : List Int} {t : Nat} {u left : Int} (h : 0 ≤ left) : stpW ns es ms l t u left = ((outs es u).find? (okE ns es ms l t u left)).getD 0 := by
 unfold stpW outs
 rw [if_neg (by omega), find_dvs]
 cases (List.range es.length).find? (okD ns es ms l t u left) <;> rfl
theorem find_here {p : Int → Bool} : ∀ {xs : List Int} {k : Nat} {d : Int}, xs[k]? = some d → (∀ j, j < k → ∀ x, xs[j]? = some x → p x = false) → p d = true → xs.find? p = some d
 | [], k, d, h, _, _ => by simp at h
 | x :: xs, 0, d, h, _, h2 => by simp at h; subst h; rw [List.find?_cons, h2]
 | x :: xs, k + 1, d, h, h1, h2 => by
  rw [List.find?_cons, h1 0 (by omega) x rfl]
  exact find_here (by simpa using h) (fun j hj y hy => h1 (j + 1) (by omega) y (by simpa using hy)) h2
theorem find_no {p : Int → Bool} {xs : List Int} (h : ∀ j, j < xs.length → ∀ x, xs[j]? = some x → p x = false) : xs.find? p = none := by
  rw [List.find?_eq_none]
  intro x hx
  obtain ⟨j, hj⟩ := List.getElem?_of_mem hx
  rw [h j (by
    rcases Nat.lt_or_ge j xs.length with g | g
    · exact g
    · rw [List.getElem?_eq_none g] at hj; cases hj) x hj]
  simp
set_option maxRecDepth 100000 in
set_option maxHeartbeats 4000000 in
theorem w_step_any (a a' aM : Option Addr) (c c' cM n m k0 t g u : Nat) (ns : List Nd) (es : List Ed) (ms l : List Int) (left : Int) (w : World) (hW : Wy w a a' aM c c' cM n m k0 t g ns es ms l) (hu : u < n) :
    Calls Tryz.prog 239 #[.agg #[.slice a n c, .slice a' m c', .slice aM k0 cM, .int .i64 (t : Int), .slice (some ⟨g, 0, none⟩) n n], .int .i64 (u : Int), .int .i64 left] w fun e w' => e = .returned (.int .i64 (stpW ns es ms l t (u : Int) left)) ∧ Below w.heap.size w w' := by
  obtain ⟨W0, hW0⟩ : ∃ W0, w.alloc (.cells #[.slice a n c, .slice a' m c', .slice aM k0 cM, .int .i64 (t : Int), .slice (some ⟨g, 0, none⟩) n n] 279) = W0 := ⟨_, rfl⟩
  have bA : Below w.heap.size w W0 := by rw [← hW0]; exact (Below.refl _ _).alloc (Nat.le_refl _) _
  have hbox : W0.heap[w.heap.size]? = some (.cells #[.slice a n c, .slice a' m c', .slice aM k0 cM, .int .i64 (t : Int), .slice (some ⟨g, 0, none⟩) n n] 279) := by rw [← hW0]; exact heap_new _ _
  have HBOX := hide hbox
  have HA := hide bA
  have HW0 := hide hW0
  obtain ⟨d0, d1, d2, d3, d4⟩ := box5W hbox (Below.refl _ _)
  have HWy : Hid (∀ W, Below W0.heap.size W0 W → Wy W a a' aM c c' cM n m k0 t g ns es ms l) := hide (fun W h => hW.keep (bA.trans (h.mono bA.size)))
  have Hlen := hide hW.ly.hm
  have Hm4 := hide hW.ly.m4
  have Hu := hide hu
  obtain ⟨res, hres⟩ : ∃ res, stpW ns es ms l t (u : Int) left = res := ⟨_, rfl⟩
  rw [hres]
  by_cases hl : left < 0
  · rw [stp_neg hl] at hres
    subst hres
    clear hW hu hbox bA hW0
    go_enter Tryz.func239, Tryz.ntmps239
    go_upto_region 1 with fail
    rw [HW0.out]
    clear HW0
    go_wp2_with fail
    go_ret
    exact ⟨rfl, HA.out⟩
  have Hyes : Hid (∀ (k : Nat) (d : Int), (outs es (u : Int))[k]? = some d → (∀ j, j < k → ∀ x, (outs es (u : Int))[j]? = some x → okE ns es ms l t (u : Int) left x = false) → okE ns es ms l t (u : Int) left d = true → res = d) := hide (fun k d h h1 h2 => by
    rw [← hres, stp_outs (by omega), find_here h h1 h2]; rfl)
  have Hno : Hid ((∀ j, j < (outs es (u : Int)).length → ∀ x, (outs es (u : Int))[j]? = some x → okE ns es ms l t (u : Int) left x = false) → res = 0) := hide (fun h => by
    rw [← hres, stp_outs (by omega), find_no h]; rfl)
  have Hdev : Hid (∀ (k : Nat) (d : Int), (outs es (u : Int))[k]? = some d → ∃ i y : Nat, d = ((i + 1 : Nat) : Int) ∧ es[i]? = some ((u : Int), (y : Int)) ∧ y < n ∧ okE ns es ms l t (u : Int) left d = (decide (d ∉ ms) && (decide (va l y = left) && (decide (y = t) || decide (kindAt ns (y : Int) = 1))))) := hide (fun k d h => by
    obtain ⟨i, e, h1, h2, h3, h4⟩ := (dvs_mem es (fun e => e.1 = (u : Int)) d es.length).1 (List.mem_of_getElem? h)
    obtain ⟨x, y⟩ := e
    simp only at h4
    subst h4
    have hb := inB_at hW.gr.inb h3
    obtain ⟨q, rfl⟩ := Int.eq_ofNat_of_zero_le hb.2.2.1
    refine ⟨i, q, h2, h3, by omega, ?_⟩
    subst h2
    unfold okE okD
    rw [show ((((i + 1 : Nat) : Int) - 1).toNat) = i by omega, h3]
    have e1 : decide ((q : Int) = (t : Int)) = decide (q = t) := by rw [decide_eq_decide]; omega
    simp only [decide_true, Bool.true_and, Int.toNat_natCast, e1])
  have HoL : Hid ((outs es (u : Int)).length ≤ es.length) := hide (dvs_len es _ _)
  have K41 := hide (out_any a a' c c' n m es (u : Int) W0 hW.ly.hm (hW.keep bA).ly.hu (by have := hW.ly.m4; omega) ⟨by omega, by omega⟩)
  have K42 : Hid (∀ W d, Below W0.heap.size W0 W → Calls Tryz.prog 130 #[.slice aM k0 cM, .int .i64 d] W fun e w' => e = .returned (.bool (decide (d ∈ ms))) ∧ w' = W) := hide (fun W d h => w_contains_any aM cM k0 ms d W hW.msk.hk (HWy.out W h).msk.hM hW.msk.k4)
  have K34 : Hid (∀ W (i y : Nat), Below W0.heap.size W0 W → es[i]? = some ((u : Int), (y : Int)) → Calls Tryz.prog 240 #[.agg #[.slice a n c, .slice a' m c', .slice aM k0 cM, .int .i64 (t : Int), .slice (some ⟨g, 0, none⟩) n n], .int .i64 ((i + 1 : Nat) : Int)] W fun e w' => e = .returned (.int .i64 (y : Int)) ∧ Below W.heap.size W w') := hide (fun W i y h hi => (end_any a a' aM c c' cM n m k0 (t : Int) (.slice (some ⟨g, 0, none⟩) n n) es i (u : Int) (y : Int) W (HWy.out W h).ly.hu hW.ly.hm (by have := hW.ly.m4; omega) hi).mono (by
    rintro e w' ⟨h1, rfl⟩
    exact ⟨h1, (Below.refl _ _).alloc (Nat.le_refl _) _⟩))
  have K43 : Hid (∀ W (y : Nat), Below W0.heap.size W0 W → y < n → Calls Tryz.prog 252 #[.agg #[.slice a n c, .slice a' m c', .slice aM k0 cM, .int .i64 (t : Int), .slice (some ⟨g, 0, none⟩) n n], .int .i64 (y : Int), .int .i64 left] W fun e w' => e = .returned (.bool (decide (va l y = left) && (decide (y = t) || decide (kindAt ns (y : Int) = 1)))) ∧ Below W.heap.size W w') := hide (fun W y h hy => comesTo_any a a' aM c c' cM n m k0 t g y ns es ms l left W (HWy.out W h) hy)
  obtain ⟨SS, hSS⟩ : ∃ SS : World → Prop, SS = fun W' => Below W0.heap.size W0 W' := ⟨_, rfl⟩
  have s9 : Hid (∀ W', SS W' → Below W0.heap.size W0 W') := hide (fun W' h => by rw [hSS] at h; exact h)
  have s8 : Hid (∀ W', Below W0.heap.size W0 W' → SS W') := hide (fun W' h => by rw [hSS]; exact h)
  have sb : Hid (∀ W', SS W' → W'.cell? ⟨w.heap.size, 0, none⟩ = some (.slice a n c) ∧ W'.cell? ⟨w.heap.size, 1, none⟩ = some (.slice a' m c') ∧ W'.cell? ⟨w.heap.size, 2, none⟩ = some (.slice aM k0 cM) ∧ W'.cell? ⟨w.heap.size, 3, none⟩ = some (.int .i64 (t : Int)) ∧ W'.cell? ⟨w.heap.size, 4, none⟩ = some (.slice (some ⟨g, 0, none⟩) n n)) := hide (fun W' h => box5W HBOX.out (s9.out W' h))
  clear hW hu hbox bA hW0 hres hSS
  generalize outs es (u : Int) = ds at *
  go_enter Tryz.func239, Tryz.ntmps239
  go_upto_region 1 with fail
  rw [HW0.out]
  clear HW0
  go_upto_region 4 with (go_at_call 251; refine (K41.out).mono ?_; rintro e W1 ⟨⟨vD, rfl, ho⟩, hb⟩; obtain ⟨aD, cD, rfl⟩ := ho.rd.form; have Ho := hide ho; have Hb := hide hb; clear ho hb)
  clear K41 d0 d1 d2 d3 d4
  obtain ⟨nD, hnD⟩ : ∃ nD, ds.length = nD := ⟨_, rfl⟩
  rw [hnD] at Ho HoL Hno
  rw [hnD]
  have i0 : (nD : Int) ≤ 1000 := by have h1 := HoL.out; have h2 := Hlen.out; have h3 := Hm4.out; omega
  have Hnd := hide hnD
  clear hnD
  have HD : Hid (∀ W, Below W1.heap.size W1 W → intE.Rd W (.slice aD nD cD) ds) := hide (fun W h => Ho.out.rd.keep h)
  go_loopw [16] (fun v16 wr => ∃ k : Nat, k ≤ nD ∧ v16 = .int .i64 k ∧ Hid (Below W1.heap.size W1 wr) ∧ Hid (∀ j, j < k → ∀ x, ds[j]? = some x → okE ns es ms l t (u : Int) left x = false)) (fun v16 _ => nD - (intOf v16).toNat)
  case atStart => exact ⟨0, by omega, rfl, hide (Below.refl _ _), hide (fun j hj => by omega)⟩
  case round =>
    obtain ⟨k, hk, rfl, HB, HX⟩ := hrel
    by_cases hlt : k < nD
    · obtain ⟨d, hd⟩ : ∃ d, ds[k]? = some d := ⟨_, List.getElem?_eq_getElem (by rw [Hnd.out]; exact hlt)⟩
      obtain ⟨b, off, rfl, c0⟩ := int_at (HD.out wr HB.out) k d hd
      obtain ⟨i, y, hdi, hi, hy, hok⟩ := Hdev.out k d hd
      have j0 : (0 : Int) ≤ (k : Int) := by omega
      have j1 : (k : Int) < (nD : Int) := by omega
      have HX1 : Hid (okE ns es ms l t (u : Int) left d = false → ∀ j, j < k + 1 → ∀ x, ds[j]? = some x → okE ns es ms l t (u : Int) left x = false) := hide (fun h j hj x hx => by
        rcases Nat.lt_or_ge j k with h' | h'
        · exact HX.out j h' x hx
        · obtain rfl : j = k := by omega
          rw [hd] at hx; obtain rfl := Option.some.inj hx; exact h)
      have Hye : Hid (okE ns es ms l t (u : Int) left d = true → res = d) := hide (fun h => Hyes.out k d hd HX.out h)
      have HB0 : Hid (Below W0.heap.size W0 wr) := hide (Hb.out.trans (HB.out.mono Hb.out.size))
      have Hi := hide hi
      have Hy := hide hy
      have Hok := hide hok
      have Hdi := hide hdi
      clear hd hi hy hok hdi
      by_cases hin : d ∈ ms
      · have tin : decide (d ∈ ms) = true := decide_eq_true hin
        have HX2 := hide (HX1.out (by rw [Hok.out, decide_eq_false (fun h => h hin), Bool.false_and]))
        have K42' : Hid (∀ W, Below W0.heap.size W0 W → Calls Tryz.prog 130 #[.slice aM k0 cM, .int .i64 d] W fun e w' => e = .returned (.bool true) ∧ Below W.heap.size W w') := hide (fun W h => (K42.out W d h).mono (by rintro e w' ⟨rfl, rfl⟩; rw [tin]; exact ⟨rfl, Below.refl _ _⟩))
        clear hin Hok tin
        go_upto_region 6 with fail
        refine wp_region_held_drew (S := SS) (by kernel_rfl) (s8.out _ (below_heap HB0.out rfl rfl rfl rfl)) (fun hS0 => ?_)
        refine wpAnyH_take (i := 0) (v := .pointer (some ⟨w.heap.size, 2, none⟩)) rfl (by kernel_rfl) (by kernel_rfl) (by kernel_rfl) (fun _ _ _ h => h) (Or.inl ⟨by rfl, fun W' hW => by go_simp⟩) hS0 ?_
        refine wpAnyH_take (i := 2) (v := .int .i64 d) rfl (by kernel_rfl) (by kernel_rfl) (by kernel_rfl) (fun _ _ _ h => h) (Or.inl ⟨by rfl, fun W' hW => by go_simp⟩) hS0 ?_
        refine wpAnyH_take (i := 1) (v := .slice aM k0 cM) rfl (by kernel_rfl) (by kernel_rfl) (by kernel_rfl) (fun _ _ _ h => h) (Or.inl ⟨by rfl, fun W' hW => by obtain ⟨z0, z1, z2, z3, z4⟩ := sb.out W' hW; go_simp⟩) hS0 ?_
        refine wpAnyH_ready (rs := [3]) (by kernel_rfl) (by simp) ?_
        refine AllReadyH.cons rfl (fun K hK => ?_) AllReadyH.nil
        go_simp
        refine (K42'.out _ (s9.out _ hS0)).mono ?_
        rintro e W3 ⟨rfl, hb3⟩
        refine hK.out _ _ (s8.out _ ((s9.out _ hS0).trans (hb3.mono (s9.out _ hS0).size))) (fun hS1 => ?_)
        clear hK K
        refine wpAnyH_ready (rs := [4]) (by kernel_rfl) (by simp) ?_
        refine AllReadyH.cons rfl (fun K hK => ?_) AllReadyH.nil
        go_simp
        refine hK.out _ _ hS1 (fun hS2 => ?_)
        clear hK K
        refine wpAnyH_ready (rs := [5]) (by kernel_rfl) (by simp) ?_
        refine AllReadyH.cons rfl (fun K hK => ?_) AllReadyH.nil
        go_simp
        refine hK.out _ _ hS2 (fun hS3 => ?_)
        clear hK K
        refine wpAnyH_take (i := 6) (v := undef) rfl (by kernel_rfl) (by kernel_rfl) (by kernel_rfl) (fun _ _ _ h => h) (Or.inr ⟨by kernel_rfl, rfl⟩) hS3 ?_
        refine wpAnyH_take (i := 7) (v := undef) rfl (by kernel_rfl) (by kernel_rfl) (by kernel_rfl) (fun _ _ _ h => h) (Or.inr ⟨by kernel_rfl, rfl⟩) hS3 ?_
        refine wpAnyH_take (i := 8) (v := undef) rfl (by kernel_rfl) (by kernel_rfl) (by kernel_rfl) (fun _ _ _ h => h) (Or.inr ⟨by kernel_rfl, rfl⟩) hS3 ?_
        refine wpAnyH_take (i := 9) (v := undef) rfl (by kernel_rfl) (by kernel_rfl) (by kernel_rfl) (fun _ _ _ h => h) (Or.inr ⟨by kernel_rfl, rfl⟩) hS3 ?_
        refine wpAnyH_take (i := 10) (v := undef) rfl (by kernel_rfl) (by kernel_rfl) (by kernel_rfl) (fun _ _ _ h => h) (Or.inr ⟨by kernel_rfl, rfl⟩) hS3 ?_
        refine wpAnyH_take (i := 11) (v := undef) rfl (by kernel_rfl) (by kernel_rfl) (by kernel_rfl) (fun _ _ _ h => h) (Or.inr ⟨by kernel_rfl, rfl⟩) hS3 ?_
        refine wpAnyH_ready (rs := [12]) (by kernel_rfl) (by simp) ?_
        refine AllReadyH.cons rfl (fun K hK => ?_) AllReadyH.nil
        go_simp
        refine hK.out _ _ hS3 (fun _ => ?_)
        clear hK K
        refine wpAnyH_done (by kernel_rfl) ?_ _
        have HB5 : Hid (Below W1.heap.size W1 W3) := hide (by have h3 : Below W1.heap.size W1 wr.drew := HB.out.drew; exact h3.trans (hb3.mono h3.size))
        clear hb3
        go_wp2_with fail
        go_roundw
        case rel => exact ⟨k + 1, by omega, by go_num, HB5, HX2⟩
        case measure => simp [intOf]; omega
      · have tin : decide (d ∈ ms) = false := decide_eq_false hin
        have Hok : Hid (okE ns es ms l t (u : Int) left d = (decide (va l y = left) && (decide (y = t) || decide (kindAt ns (y : Int) = 1)))) := hide (by rw [Hok.out, decide_eq_true hin, Bool.true_and])
        have e1 := Hdi.out
        clear Hdi
        subst e1
        obtain ⟨br, hbr⟩ : ∃ br, (decide (va l y = left) && (decide (y = t) || decide (kindAt ns (y : Int) = 1))) = br := ⟨_, rfl⟩
        rw [hbr] at Hok
        have K43' : Hid (∀ W, Below W0.heap.size W0 W → Calls Tryz.prog 252 #[.agg #[.slice a n c, .slice a' m c', .slice aM k0 cM, .int .i64 (t : Int), .slice (some ⟨g, 0, none⟩) n n], .int .i64 (y : Int), .int .i64 left] W fun e w' => e = .returned (.bool br) ∧ Below W.heap.size W w') := hide (fun W h => by rw [← hbr]; exact K43.out W y h Hy.out)
        have K42' : Hid (∀ W, Below W0.heap.size W0 W → Calls Tryz.prog 130 #[.slice aM k0 cM, .int .i64 ((i + 1 : Nat) : Int)] W fun e w' => e = .returned (.bool false) ∧ Below W.heap.size W w') := hide (fun W h => (K42.out W _ h).mono (by rintro e w' ⟨rfl, rfl⟩; rw [tin]; exact ⟨rfl, Below.refl _ _⟩))
        clear hbr hin tin
        go_upto_region 6 with fail
        refine wp_region_held_drew (S := SS) (by kernel_rfl) (s8.out _ (below_heap HB0.out rfl rfl rfl rfl)) (fun hS0 => ?_)
        refine wpAnyH_take (i := 0) (v := .pointer (some ⟨w.heap.size, 2, none⟩)) rfl (by kernel_rfl) (by kernel_rfl) (by kernel_rfl) (fun _ _ _ h => h) (Or.inl ⟨by rfl, fun W' hW => by go_simp⟩) hS0 ?_
        refine wpAnyH_take (i := 2) (v := .int .i64 ((i + 1 : Nat) : Int)) rfl (by kernel_rfl) (by kernel_rfl) (by kernel_rfl) (fun _ _ _ h => h) (Or.inl ⟨by rfl, fun W' hW => by go_simp⟩) hS0 ?_
        refine wpAnyH_take (i := 1) (v := .slice aM k0 cM) rfl (by kernel_rfl) (by kernel_rfl) (by kernel_rfl) (fun _ _ _ h => h) (Or.inl ⟨by rfl, fun W' hW => by obtain ⟨z0, z1, z2, z3, z4⟩ := sb.out W' hW; go_simp⟩) hS0 ?_
        refine wpAnyH_ready (rs := [3]) (by kernel_rfl) (by simp) ?_
        refine AllReadyH.cons rfl (fun K hK => ?_) AllReadyH.nil
        go_simp
        refine (K42'.out _ (s9.out _ hS0)).mono ?_
        rintro e W3 ⟨rfl, hb3⟩
        refine hK.out _ _ (s8.out _ ((s9.out _ hS0).trans (hb3.mono (s9.out _ hS0).size))) (fun hS1 => ?_)
        clear hK K
        refine wpAnyH_ready (rs := [4]) (by kernel_rfl) (by simp) ?_
        refine AllReadyH.cons rfl (fun K hK => ?_) AllReadyH.nil
        go_simp
        refine hK.out _ _ hS1 (fun hS2 => ?_)
        clear hK K
        refine wpAnyH_ready (rs := [5]) (by kernel_rfl) (by simp) ?_
        refine AllReadyH.cons rfl (fun K hK => ?_) AllReadyH.nil
        go_simp
        refine hK.out _ _ hS2 (fun hS3 => ?_)
        clear hK K
        refine wpAnyH_take (i := 6) (v := .agg #[.slice a n c, .slice a' m c', .slice aM k0 cM, .int .i64 (t : Int), .slice (some ⟨g, 0, none⟩) n n]) rfl (by kernel_rfl) (by kernel_rfl) (by kernel_rfl) (fun _ _ _ h => h) (Or.inl ⟨by rfl, fun W' hW => by obtain ⟨z0, z1, z2, z3, z4⟩ := sb.out W' hW; go_simp⟩) hS3 ?_
        refine wpAnyH_take (i := 7) (v := .agg #[.slice a n c, .slice a' m c', .slice aM k0 cM, .int .i64 (t : Int), .slice (some ⟨g, 0, none⟩) n n]) rfl (by kernel_rfl) (by kernel_rfl) (by kernel_rfl) (fun _ _ _ h => h) (Or.inl ⟨by rfl, fun W' hW => by obtain ⟨z0, z1, z2, z3, z4⟩ := sb.out W' hW; go_simp⟩) hS3 ?_
        refine wpAnyH_take (i := 8) (v := .int .i64 ((i + 1 : Nat) : Int)) rfl (by kernel_rfl) (by kernel_rfl) (by kernel_rfl) (fun _ _ _ h => h) (Or.inl ⟨by rfl, fun W' hW => by go_simp⟩) hS3 ?_
        refine wpAnyH_take (i := 10) (v := .int .i64 left) rfl (by kernel_rfl) (by kernel_rfl) (by kernel_rfl) (fun _ _ _ h => h) (Or.inl ⟨by rfl, fun W' hW => by go_simp⟩) hS3 ?_
        refine wpAnyH_ready (rs := [9]) (by kernel_rfl) (by simp) ?_
        refine AllReadyH.cons rfl (fun K hK => ?_) AllReadyH.nil
        go_simp
        refine (K34.out _ i y (s9.out _ hS3) Hi.out).mono ?_
        rintro e W4 ⟨rfl, hb4⟩
        refine hK.out _ _ (s8.out _ ((s9.out _ hS3).trans (hb4.mono (s9.out _ hS3).size))) (fun hS4 => ?_)
        clear hK K
        refine wpAnyH_ready (rs := [11]) (by kernel_rfl) (by simp) ?_
        refine AllReadyH.cons rfl (fun K hK => ?_) AllReadyH.nil
        go_simp
        refine (K43'.out _ (s9.out _ hS4)).mono ?_
        rintro e W5 ⟨rfl, hb5⟩
        refine hK.out _ _ (s8.out _ ((s9.out _ hS4).trans (hb5.mono (s9.out _ hS4).size))) (fun hS5 => ?_)
        clear hK K
        refine wpAnyH_ready (rs := [12]) (by kernel_rfl) (by simp) ?_
        refine AllReadyH.cons rfl (fun K hK => ?_) AllReadyH.nil
        go_simp
        refine hK.out _ _ hS5 (fun _ => ?_)
        clear hK K
        refine wpAnyH_done (by kernel_rfl) ?_ _
        have HB5 : Hid (Below W1.heap.size W1 W5) := hide (by
          have h2 : Below W1.heap.size W1 wr.drew := HB.out.drew
          have h3 := h2.trans (hb3.mono h2.size)
          have h4 := h3.trans (hb4.mono h3.size)
          exact h4.trans (hb5.mono h4.size))
        clear hb3 hb4 hb5
        cases br with
        | true =>
          have e2 := Hye.out Hok.out
          subst e2
          go_wp2_with fail
          go_ret
          exact ⟨rfl, HA.out.trans ((Hb.out.trans (HB5.out.mono Hb.out.size)).mono HA.out.size)⟩
        | false =>
          have HX2 := hide (HX1.out Hok.out)
          go_wp2_with fail
          go_roundw
          case rel => exact ⟨k + 1, by omega, by go_num, HB5, HX2⟩
          case measure => simp [intOf]; omega
    · obtain rfl : k = nD := by omega
      have j1 : ¬ (k : Int) < (k : Int) := by omega
      have e2 := Hno.out HX.out
      subst e2
      go_wp2_with fail
      go_ret
      exact ⟨rfl, HA.out.trans ((Hb.out.trans (HB.out.mono Hb.out.size)).mono HA.out.size)⟩
end Go.Proofs.YtocmngpoemfpkabGreatDoor

namespace Go.Proofs.YtocmngpoemfpkabGreatDoor
open Go.RowKit
def lenV : Value → Nat
 | .slice _ n _ => n
 | _ => 0
set_option maxRecDepth 100000 in
set_option maxHeartbeats 4000000 in
theorem path_any (a a' aM : Option Addr) (c c' cM n m k0 t g u k : Nat) (ns : List Nd) (es : List Ed) (ms l : List Int) (w : World) (hW : Wy w a a' aM c c' cM n m k0 t g ns es ms l) (hu : va l u = (k : Int)) :
    Calls Tryz.prog 218 #[.agg #[.slice a n c, .slice a' m c', .slice aM k0 cM, .int .i64 (t : Int), .slice (some ⟨g, 0, none⟩) n n], .int .i64 (u : Int)] w fun e w' => (∃ v, e = .returned v ∧ intE.Own w' w.heap.size v (pth ns es ms l t k u)) ∧ Below w.heap.size w w' := by
  obtain ⟨W0, hW0⟩ : ∃ W0, w.alloc (.cells #[.slice a n c, .slice a' m c', .slice aM k0 cM, .int .i64 (t : Int), .slice (some ⟨g, 0, none⟩) n n] 279) = W0 := ⟨_, rfl⟩
  have bA : Below w.heap.size w W0 := by rw [← hW0]; exact (Below.refl _ _).alloc (Nat.le_refl _) _
  have hbox : W0.heap[w.heap.size]? = some (.cells #[.slice a n c, .slice a' m c', .slice aM k0 cM, .int .i64 (t : Int), .slice (some ⟨g, 0, none⟩) n n] 279) := by rw [← hW0]; exact heap_new _ _
  have HBOX := hide hbox
  have HA := hide bA
  have HW0 := hide hW0
  have HWy : Hid (∀ W, Below W0.heap.size W0 W → Wy W a a' aM c c' cM n m k0 t g ns es ms l) := hide (fun W h => hW.keep (bA.trans (h.mono bA.size)))
  have Hgr := hide hW.gr
  have Hkn : Hid (k < n) := hide (by have := hW.gr.high u; omega)
  have Hn4 := hide hW.ly.n4
  have K30 : Hid (∀ W (v : Nat) (left : Int), Below W0.heap.size W0 W → v < n → Calls Tryz.prog 239 #[.agg #[.slice a n c, .slice a' m c', .slice aM k0 cM, .int .i64 (t : Int), .slice (some ⟨g, 0, none⟩) n n], .int .i64 (v : Int), .int .i64 left] W fun e w' => e = .returned (.int .i64 (stpW ns es ms l t (v : Int) left)) ∧ Below W.heap.size W w') := hide (fun W v left h hv => w_step_any a a' aM c c' cM n m k0 t g v ns es ms l left W (HWy.out W h) hv)
  have K34 : Hid (∀ W (i v y : Nat), Below W0.heap.size W0 W → es[i]? = some ((v : Int), (y : Int)) → Calls Tryz.prog 240 #[.agg #[.slice a n c, .slice a' m c', .slice aM k0 cM, .int .i64 (t : Int), .slice (some ⟨g, 0, none⟩) n n], .int .i64 ((i + 1 : Nat) : Int)] W fun e w' => e = .returned (.int .i64 (y : Int)) ∧ Below W.heap.size W w') := hide (fun W i v y h hi => (end_any a a' aM c c' cM n m k0 (t : Int) (.slice (some ⟨g, 0, none⟩) n n) es i (v : Int) (y : Int) W (HWy.out W h).ly.hu hW.ly.hm (by have := hW.ly.m4; omega) hi).mono (by
    rintro e w' ⟨h1, rfl⟩
    exact ⟨h1, (Below.refl _ _).alloc (Nat.le_refl _) _⟩))
  obtain ⟨SS, hSS⟩ : ∃ SS : World → Prop, SS = fun W' => Below W0.heap.size W0 W' := ⟨_, rfl⟩
  have s9 : Hid (∀ W', SS W' → Below W0.heap.size W0 W') := hide (fun W' h => by rw [hSS] at h; exact h)
  have s8 : Hid (∀ W', Below W0.heap.size W0 W' → SS W') := hide (fun W' h => by rw [hSS]; exact h)
  have sb : Hid (∀ W', SS W' → W'.cell? ⟨w.heap.size, 0, none⟩ = some (.slice a n c) ∧ W'.cell? ⟨w.heap.size, 1, none⟩ = some (.slice a' m c') ∧ W'.cell? ⟨w.heap.size, 2, none⟩ = some (.slice aM k0 cM) ∧ W'.cell? ⟨w.heap.size, 3, none⟩ = some (.int .i64 (t : Int)) ∧ W'.cell? ⟨w.heap.size, 4, none⟩ = some (.slice (some ⟨g, 0, none⟩) n n)) := hide (fun W' h => box5W HBOX.out (s9.out W' h))
  have Hu := hide hu
  obtain ⟨res, hres⟩ : ∃ res, pth ns es ms l t k u = res := ⟨_, rfl⟩
  rw [hres]
  have Hres := hide hres
  clear hW hu hbox bA hW0 hSS hres
  go_enter Tryz.func218, Tryz.ntmps218
  go_upto_region 1 with fail
  rw [HW0.out]
  clear HW0
  go_wp2_with fail
  go_loopw [1, 5] (fun v1 v5 wr => ∃ (r v : Nat) (xs : List Int), v1 = .int .i64 (v : Int) ∧ Hid (va l v = (r : Int) ∧ xs.length + r = k ∧ xs ++ pth ns es ms l t r v = res) ∧ Hid (intE.Own wr W0.heap.size v5 xs) ∧ Hid (Below W0.heap.size W0 wr)) (fun _ v5 _ => k - lenV v5)
  case atStart => exact ⟨k, u, [], rfl, hide ⟨Hu.out, by simp, by simpa using Hres.out⟩, hide (El.Own.nil _ _ _), hide (Below.refl _ _)⟩
  case round =>
    obtain ⟨r, v, xs, rfl, HX, HO, HB⟩ := hrel
    obtain ⟨z0, z1, z2, z3, z4⟩ := box5W HBOX.out HB.out
    obtain ⟨aD, cD, rfl⟩ := HO.out.rd.form
    obtain ⟨nD, hnD⟩ : ∃ nD, xs.length = nD := ⟨_, rfl⟩
    rw [hnD] at HO HX ⊢
    have Hnd := hide hnD
    clear hnD
    rcases r with _ | r
    · have hvt : v = t := Hgr.out.only (by simpa using HX.out.1)
      subst hvt
      have q1 : ((v : Int) != (v : Int)) = false := bne_self_eq_false _
      have HR : Hid (xs = res) := hide (by have := HX.out.2.2; simpa [pth] using this)
      go_wp2_with fail
      go_ret
      exact ⟨⟨_, rfl, by rw [← HR.out]; exact HO.out.mono HA.out.size⟩, HA.out.trans (HB.out.mono HA.out.size)⟩
    · have hne : v ≠ t := fun e => by have h1 := HX.out.1; rw [e, Hgr.out.zero] at h1; omega
      have q1 : ((v : Int) != (t : Int)) = true := bne_iff_ne.2 (by omega)
      obtain ⟨i, y, g1, g2, g3, g4, g5, g6, g7, g8⟩ := Hgr.out.on HX.out.1
      have hvn : v < n := Hgr.out.out (by rw [HX.out.1]; omega)
      have Hvn := hide hvn
      have j0 : (0 : Int) ≤ (v : Int) := by omega
      have j1 : (v : Int) < (n : Int) := by omega
      have j2 : (r : Int) ≤ 1000 := by have h1 := Hkn.out; have h2 := Hn4.out; have h3 := HX.out.2.1; omega
      have j3 : (0 : Int) ≤ (r : Int) := by omega
      have hwr : IntKind.i64.wrap (r : Int) = (r : Int) := i64_small _ (by omega) (by omega)
      have sc : Hid (∀ W', SS W' → W'.cell? ⟨g, v, none⟩ = some (.int .i64 ((r : Int) + 1))) := hide (fun W' h => by
        have h1 := (HWy.out W' (s9.out W' h)).at v Hvn.out
        rw [HX.out.1] at h1
        rw [h1, show ((r + 1 : Nat) : Int) = (r : Int) + 1 by omega])
      obtain ⟨D, hD⟩ : ∃ D : Int, ((i + 1 : Nat) : Int) = D := ⟨_, rfl⟩
      have K34' : Hid (∀ W, Below W0.heap.size W0 W → Calls Tryz.prog 240 #[.agg #[.slice a n c, .slice a' m c', .slice aM k0 cM, .int .i64 (t : Int), .slice (some ⟨g, 0, none⟩) n n], .int .i64 D] W fun e w' => e = .returned (.int .i64 (y : Int)) ∧ Below W.heap.size W w') := hide (fun W h => by rw [← hD]; exact K34.out W i v y h g3)
      rw [hD] at g1
      have K30' : Hid (∀ W, Below W0.heap.size W0 W → Calls Tryz.prog 239 #[.agg #[.slice a n c, .slice a' m c', .slice aM k0 cM, .int .i64 (t : Int), .slice (some ⟨g, 0, none⟩) n n], .int .i64 (v : Int), .int .i64 (r : Int)] W fun e w' => e = .returned (.int .i64 D) ∧ Below W.heap.size W w') := hide (fun W h => by rw [← g1]; exact K30.out W v (r : Int) h Hvn.out)
      have HX1 : Hid (va l y = (r : Int) ∧ (xs ++ [D]).length + r = k ∧ (xs ++ [D]) ++ pth ns es ms l t r y = res) := hide ⟨g6, by have := HX.out.2.1; have := Hnd.out; simp; omega, by
        have h1 := HX.out.2.2
        unfold pth at h1
        rw [g8, g1] at h1
        rw [List.append_assoc]; exact h1⟩
      have Hln : Hid (xs.length + 1 ≤ 1000000) := hide (by have h1 := Hkn.out; have h2 := Hn4.out; have h3 := HX.out.2.1; have := Hnd.out; omega)
      clear g1 g2 g3 g4 g5 g6 g7 g8 hvn hne HX hD
      go_upto_region 3 with fail
      refine wp_region_held_drew (S := SS) (by kernel_rfl) (s8.out _ (below_heap HB.out rfl rfl rfl rfl)) (fun hS0 => ?_)
      refine wpAnyH_take (i := 0) (v := .agg #[.slice a n c, .slice a' m c', .slice aM k0 cM, .int .i64 (t : Int), .slice (some ⟨g, 0, none⟩) n n]) rfl (by kernel_rfl) (by kernel_rfl) (by kernel_rfl) (fun _ _ _ h => h) (Or.inl ⟨by rfl, fun W' hW => by obtain ⟨z0, z1, z2, z3, z4⟩ := sb.out W' hW; go_simp⟩) hS0 ?_
      refine wpAnyH_take (i := 1) (v := .int .i64 (v : Int)) rfl (by kernel_rfl) (by kernel_rfl) (by kernel_rfl) (fun _ _ _ h => h) (Or.inl ⟨by rfl, fun W' hW => by go_simp⟩) hS0 ?_
      refine wpAnyH_take (i := 2) (v := .pointer (some ⟨w.heap.size, 4, none⟩)) rfl (by kernel_rfl) (by kernel_rfl) (by kernel_rfl) (fun _ _ _ h => h) (Or.inl ⟨by rfl, fun W' hW => by go_simp⟩) hS0 ?_
      refine wpAnyH_take (i := 4) (v := .int .i64 (v : Int)) rfl (by kernel_rfl) (by kernel_rfl) (by kernel_rfl) (fun _ _ _ h => h) (Or.inl ⟨by rfl, fun W' hW => by go_simp⟩) hS0 ?_
      refine wpAnyH_take (i := 3) (v := .slice (some ⟨g, 0, none⟩) n n) rfl (by kernel_rfl) (by kernel_rfl) (by kernel_rfl) (fun _ _ _ h => h) (Or.inl ⟨by rfl, fun W' hW => by obtain ⟨z0, z1, z2, z3, z4⟩ := sb.out W' hW; go_simp⟩) hS0 ?_
      refine wpAnyH_take (i := 5) (v := .pointer (some ⟨g, v, none⟩)) rfl (by kernel_rfl) (by kernel_rfl) (by kernel_rfl) (fun _ _ _ h => h) (Or.inl ⟨by rfl, fun W' hW => by go_simp⟩) hS0 ?_
      refine wpAnyH_take (i := 6) (v := .int .i64 ((r : Int) + 1)) rfl (by kernel_rfl) (by kernel_rfl) (by kernel_rfl) (fun _ _ _ h => h) (Or.inl ⟨by rfl, fun W' hW => by have z5 := sc.out W' hW; go_simp⟩) hS0 ?_
      refine wpAnyH_take (i := 7) (v := .int .i64 (r : Int)) rfl (by kernel_rfl) (by kernel_rfl) (by kernel_rfl) (fun _ _ _ h => h) (Or.inl ⟨by rfl, fun W' hW => by go_simp⟩) hS0 ?_
      refine wpAnyH_ready (rs := [8]) (by kernel_rfl) (by simp) ?_
      refine AllReadyH.cons rfl (fun K hK => ?_) AllReadyH.nil
      go_simp
      refine (K30'.out _ (s9.out _ hS0)).mono ?_
      rintro e W3 ⟨rfl, hb3⟩
      refine hK.out _ _ (s8.out _ ((s9.out _ hS0).trans (hb3.mono (s9.out _ hS0).size))) (fun hS1 => ?_)
      clear hK K
      refine wpAnyH_ready (rs := [9]) (by kernel_rfl) (by simp) ?_
      refine AllReadyH.cons rfl (fun K hK => ?_) AllReadyH.nil
      go_simp
      refine hK.out _ _ hS1 (fun _ => ?_)
      clear hK K
      refine wpAnyH_done (by kernel_rfl) ?_ _
      have HO1 : Hid (intE.Own W3 W0.heap.size (.slice aD nD cD) xs) := hide (by
        have h1 : Below wr.heap.size wr wr.drew := (Below.refl _ _).drew
        exact (HO.out.keep h1).keep hb3)
      have HB1 : Hid (Below W0.heap.size W0 W3) := hide (s9.out _ hS1)
      have HB2 : Hid (Below W0.heap.size W0 (W3.alloc (.cells #[.int .i64 D] 3))) := hide (HB1.out.alloc HB1.out.size _)
      have HO2 : Hid (intE.Own (W3.alloc (.cells #[.int .i64 D] 3)) W0.heap.size (.slice aD nD cD) xs) := hide (World.ownsRow.alloc HO1.out _)
      clear hb3 K30' sc z0 z1 z2 z3 z4
      go_upto_region 5 with (at_builtin; refine intE.wp (w0 := W0) HB2.out (by rfl) _ _ rfl _ _ rfl rfl xs [D] HO2.out (int_new _ _ _ rfl) (by simpa using Hln.out) ?_; intro v1 w2 ho2 _ _ hb2; have HO3 := hide ho2; have HB3 := hide hb2; obtain ⟨z0, z1, z2, z3, z4⟩ := box5W HBOX.out hb2; clear ho2 hb2; refine Hid.out ?_)
      refine hide ?_
      obtain ⟨aQ, cQ, rfl⟩ := HO3.out.rd.form
      have Hln2 : Hid ((xs ++ [D]).length = nD + 1) := hide (by rw [List.length_append, Hnd.out]; rfl)
      rw [Hln2.out] at HO3 ⊢
      go_wp2_with (go_at_call 240; refine (K34'.out _ HB3.out).mono ?_; rintro e W5 ⟨rfl, hb5⟩; have HO5 := hide (HO3.out.keep hb5); have HB5 : Hid (Below W0.heap.size W0 W5) := hide (HB3.out.trans (hb5.mono HB3.out.size)); clear hb5)
      go_roundw
      case rel => exact ⟨r, y, xs ++ [D], rfl, HX1, HO5, HB5⟩
      case measure => have h1 := HX1.out.2.1; rw [Hln2.out] at h1; simp [lenV]; omega
end Go.Proofs.YtocmngpoemfpkabGreatDoor
