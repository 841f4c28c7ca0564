/- ControlOrders: texts Bkb Bkc Bkd Bke Bkf. -/
import Derived.Deep.RegionLaw
import Derived.LaidEqlPtr
import Derived.Lib.SliceRun
import Derived.Test.YtocmngpoemfpkaaGreatDoorControlOrdersAI
namespace Go.Proofs.YtocmngpoemfpkaaGreatDoor
open Go.RowKit Go.Maps Go.ChangeMaps
set_option linter.unusedVariables false
theorem It.kept (x : It) {w w' : World} (h : x.P w) (hb : Below w.heap.size w w') : x.P w' := x.st h fun k hk => hb.block k (x.lt h k hk)
theorem new_its (w0 w : World) (l : List It) (h : Its w0 l w) : Its w0 (.book w0.heap.size (w.heap.size + 2) ⟨w.heap.size, w.heap.size + 1, .slice none 0 0, fun _ => none, []⟩ Bk.new :: l) (((w.alloc (.map #[] 0)).alloc (.map #[] 0)).alloc (.cells #[.map (some w.heap.size), .slice none 0 0, .map (some (w.heap.size + 1))] 226)) := by
  have h2 : Its w0 (.mp w.heap.size 0 (kn []) :: l) (w.alloc (.map #[] 0)) := h.new (x := .mp w.heap.size 0 (kn [])) (Mpi.made w) (fun k hk => by cases hk; exact Nat.le_refl _) (below_new _ _)
  have e1 : (w.alloc (.map #[] 0)).heap.size = w.heap.size + 1 := by simp
  have h3 : Its w0 (.srv w0.heap.size (w.heap.size + 1) 0 (fun _ => none) Bk.new.sv :: .mp w.heap.size 0 (kn []) :: l) ((w.alloc (.map #[] 0)).alloc (.map #[] 0)) := by
    refine h2.new (x := .srv w0.heap.size (w.heap.size + 1) 0 (fun _ => none) Bk.new.sv) ⟨?_, fun s v q => absurd q (by simp), fun s _ => rfl, fun s t v u k _ q => absurd q (by simp)⟩ (fun k hk => ?_) (below_new _ _)
    · rw [← e1]; exact Mpi.made _
    · rcases hk with rfl | ⟨s, v, q, _⟩
      · omega
      · cases q
  have e2 : ((w.alloc (.map #[] 0)).alloc (.map #[] 0)).heap.size = w.heap.size + 2 := by simp
  have h4 : Its w0 (.box (w.heap.size + 2) #[.map (some w.heap.size), .slice none 0 0, .map (some (w.heap.size + 1))] 226 :: .srv w0.heap.size (w.heap.size + 1) 0 (fun _ => none) Bk.new.sv :: .mp w.heap.size 0 (kn []) :: l) (((w.alloc (.map #[] 0)).alloc (.map #[] 0)).alloc (.cells #[.map (some w.heap.size), .slice none 0 0, .map (some (w.heap.size + 1))] 226)) := by
    refine h3.new (x := .box (w.heap.size + 2) _ 226) ?_ (fun k hk => ?_) (below_new _ _)
    · show _ = _
      rw [← e2]; exact heap_new _ _
    · cases hk; omega
  have h5 := h4.new (x := .ents []) (by intro p hp; cases hp) (fun k hk => by obtain ⟨p, hp, _⟩ := hk; cases hp) (Below.refl _ _)
  have h6 := h5.empty ptrE
  exact h6.bshut (S := Bk.new) (H := ⟨w.heap.size, w.heap.size + 1, .slice none 0 0, fun _ => none, []⟩) (B := w0.heap.size) (g := w.heap.size + 2) ⟨Bk.new_ok, rfl, .nil⟩
set_option maxHeartbeats 1000000 in
theorem new_any (w0 w : World) (l : List It) (h : Its w0 l w) : Calls Tryz.prog 115 #[] w fun e w' => ∃ g H, e = .returned (.pointer (some ⟨g, 0, none⟩)) ∧ Its w0 (.book w0.heap.size g H Bk.new :: l) w' := by
  have HN := hide (new_its w0 w l h)
  have hk : ∀ t W, (Instr.makeMap t none).run Tryz.prog W = .ok (.map (some W.heap.size)) (W.alloc (.map #[] 0)) := fun t W => run_makeMap t W
  clear h
  go_enter Tryz.func115, Tryz.ntmps115
  go_wp2_with fail
  exact bodyPost_ret (v := .pointer (some ⟨w.heap.size + 2, 0, none⟩)) (by simp [results, Tryz.results115, go_sem]) rfl ⟨_, _, rfl, HN.out⟩
theorem kn_none {T : List (Nat × En)} {x : Int} (h : fnT T x = none) : kn T x = none := by unfold kn; rw [h]; rfl
theorem kn_some {T : List (Nat × En)} {x : Int} {p : Nat × En} (h : fnT T x = some p) : kn T x = some (.pointer (some ⟨p.1, 0, none⟩)) := by unfold kn; rw [h]; rfl
theorem fnT_mem {T : List (Nat × En)} {x : Int} {p : Nat × En} (h : fnT T x = some p) : p ∈ T := List.mem_of_find?_eq_some h
theorem Lie.fnd {T : List (Nat × En)} {S : Bk} (h : Lie T S) (x : Int) : fnd S.all x = (fnT T x).map (·.2) := by rw [h.2.1]; exact fnT_fnd x
theorem Lie.ops {T : List (Nat × En)} {S : Bk} (h : Lie T S) : ops S.all = (opT T).map (·.2.r) := by rw [h.2.1]; exact opT_ops T
set_option maxHeartbeats 1000000 in
theorem state_any {w : World} {B g : Nat} {H : Hb} {S : Bk} (h : (It.book B g H S).P w) {x : Int} (hx : I64 x) : Calls Tryz.prog 79 #[.pointer (some ⟨g, 0, none⟩), .int .i64 x] w fun e w' => e = .returned (.int .i64 (S.sta x)) ∧ w' = w := by
  obtain ⟨c0, c1, c2, _⟩ := bk_cells h
  have hl := (bk_mp h).look hx
  have hf := (bk_lie h).fnd x
  have e0 : S.sta x = ((fnT H.T x).map (·.2.en)).getD 0 := by
    unfold Bk.sta
    rw [hf]
    cases fnT H.T x <;> rfl
  rw [e0]
  cases hT : fnT H.T x with
  | none =>
    rw [kn_none hT] at hl
    simp only [Option.getD_none, Option.isSome_none] at hl
    clear h hf e0 hT
    go_enter Tryz.func79, Tryz.ntmps79
    go_wp2_with fail
    go_ret
    exact ⟨rfl, rfl⟩
  | some p =>
    rw [kn_some hT] at hl
    simp only [Option.getD_some, Option.isSome_some] at hl
    obtain ⟨d0, d1, d2, d3, _⟩ := bk_ent h (fnT_mem hT)
    obtain ⟨b, e⟩ := p
    clear h hf e0 hT
    go_enter Tryz.func79, Tryz.ntmps79
    go_wp2_with fail
    go_ret
    exact ⟨rfl, rfl⟩
def rqV : Option Rq → Value
  | some r => .agg #[.int .i64 r.id, .int .i64 r.st, .int .i64 r.tt]
  | none => .agg #[.int .i64 0, .int .i64 0, .int .i64 0]
def ptV : Option (Nat × En) → Value
  | some p => .pointer (some ⟨p.1, 0, none⟩)
  | none => .pointer none
set_option maxHeartbeats 1000000 in
theorem request_no (w : World) : Calls Tryz.prog 188 #[.pointer none, .bool false] w fun e w' => e = .returned (.tuple #[rqV none, .bool false]) ∧ Below w.heap.size w w' := by
  have hB : Hid (∀ o, Below w.heap.size w (w.alloc o)) := hide (fun o => below_new w o)
  go_enter Tryz.func188, Tryz.ntmps188
  go_wp2_with fail
  exact bodyPost_ret (v := .tuple #[rqV none, .bool false]) (by simp [results, Tryz.results188, go_sem, rqV]) rfl ⟨rfl, hB.out _⟩
set_option maxHeartbeats 1000000 in
theorem request_yes (w : World) (b : Nat) (e : En) (h : w.heap[b]? = some (.cells (enC e) 229)) : Calls Tryz.prog 188 #[.pointer (some ⟨b, 0, none⟩), .bool true] w fun r w' => r = .returned (.tuple #[rqV (some e.r), .bool true]) ∧ Below w.heap.size w w' := by
  have hB : Hid (∀ o, Below w.heap.size w (w.alloc o)) := hide (fun o => below_new w o)
  have h' : ∀ o, (w.alloc o).heap[b]? = some (.cells (enC e) 229) := fun o => by rw [(below_new w o).block b (heap_lt h)]; exact h
  have d0 : ∀ o, (w.alloc o).cell? ⟨b, 0, none⟩ = some (.int .i64 e.r.id) := fun o => (cells_at (h' o) 0).1
  have d1 : ∀ o, (w.alloc o).cell? ⟨b, 1, none⟩ = some (.int .i64 e.r.st) := fun o => (cells_at (h' o) 1).1
  have d2 : ∀ o, (w.alloc o).cell? ⟨b, 2, none⟩ = some (.int .i64 e.r.tt) := fun o => (cells_at (h' o) 2).1
  clear h h'
  go_enter Tryz.func188, Tryz.ntmps188
  go_wp2_with fail
  exact bodyPost_ret (v := .tuple #[rqV (some e.r), .bool true]) (by simp [results, Tryz.results188, go_sem, rqV]) rfl ⟨rfl, hB.out _⟩
set_option maxHeartbeats 1000000 in
theorem clo35_any (w : World) (b k0 : Nat) (e : En) (s : Int) (h : w.heap[b]? = some (.cells (enC e) 229)) (hk : w.cell? ⟨k0, 0, none⟩ = some (.int .i64 s)) : Calls Tryz.prog 228 #[.pointer (some ⟨b, 0, none⟩), .pointer (some ⟨k0, 0, none⟩)] w fun r w' => r = .returned (.bool (e.r.st == s)) ∧ ∃ q, w' = w.drewN q := by
  have d1 : w.cell? ⟨b, 1, none⟩ = some (.int .i64 e.r.st) := (cells_at h 1).1
  clear h
  go_enter Tryz.func228, Tryz.ntmps228
  go_upto_region 1 with fail
  go_quiet (fail)
  go_wp2_with fail
  go_ret
  exact ⟨rfl, _, rfl⟩
set_option maxRecDepth 100000 in
set_option maxHeartbeats 2000000 in
theorem first35_any (a : Option Addr) (n c k0 : Nat) (gs : List (Nat × En)) (s : Int) (w : World) (hn : gs.length = n) (hv : ptrE.Rd w (.slice a n c) (gs.map (·.1))) (hl : n ≤ 1000) (he : ∀ p ∈ gs, w.heap[p.1]? = some (.cells (enC p.2) 229)) (hk : w.cell? ⟨k0, 0, none⟩ = some (.int .i64 s)) :
    Calls Tryz.prog 189 #[.slice a n c, .func (.func 228) #[] #[.pointer (some ⟨k0, 0, none⟩)]] w fun r w' => r = .returned (.tuple #[ptV (gs.find? (fun p => p.2.r.st == s)), .bool (gs.find? (fun p => p.2.r.st == s)).isSome]) ∧ ∃ q, w' = w.drewN q := by
  have yes : Hid (∀ (k : Nat) (p : Nat × En), gs[k]? = some p → (p.2.r.st == s) = true → (∀ j d, j < k → gs[j]? = some d → (d.2.r.st == s) = false) → gs.find? (fun p => p.2.r.st == s) = some p) := hide (fun k p h1 h2 h3 => by
    rw [List.find?_eq_some_iff_getElem]
    obtain ⟨hlt, h4⟩ := List.getElem?_eq_some_iff.1 h1
    exact ⟨h2, k, hlt, h4, fun j hj => by rw [h3 j _ hj (List.getElem?_eq_getElem (by omega))]; rfl⟩)
  have no : Hid ((∀ j d, j < n → gs[j]? = some d → (d.2.r.st == s) = false) → gs.find? (fun p => p.2.r.st == s) = none) := hide (fun h => by
    rw [List.find?_eq_none]
    intro p hp
    obtain ⟨j, hj⟩ := List.getElem?_of_mem hp
    rw [h j p (by rw [← hn]; exact idx_lt hj) hj]; simp)
  have KC : Hid (∀ (j : Nat) (p : Nat × En) (q : Nat), gs[j]? = some p → Calls Tryz.prog 228 #[.pointer (some ⟨p.1, 0, none⟩), .pointer (some ⟨k0, 0, none⟩)] (w.drewN q) fun r w' => r = .returned (.bool (p.2.r.st == s)) ∧ ∃ q, w' = w.drewN q) := hide (fun j p q hp => by
    refine (clo35_any (w.drewN q) p.1 k0 p.2 s (he p (List.mem_of_getElem? hp)) hk).mono ?_
    rintro r w' ⟨rfl, q', rfl⟩
    exact ⟨rfl, q + q', by simp⟩)
  generalize gs.find? (fun p => p.2.r.st == s) = res at *
  have Hn := hide hn
  have HV := hide hv
  have i0 : (n : Int) ≤ 1000 := by omega
  clear hn hv hl he hk
  go_enter Tryz.func189, Tryz.ntmps189
  go_wp2_with fail
  go_loopw [11] (fun v11 wr => ∃ k q : Nat, k ≤ n ∧ v11 = .int .i64 k ∧ wr = w.drewN q ∧ Hid (∀ j d, j < k → gs[j]? = some d → (d.2.r.st == s) = false)) (fun v11 _ => n - (intOf v11).toNat)
  case atStart => exact ⟨0, 0, by omega, rfl, rfl, hide (fun j q h => by omega)⟩
  case round =>
    obtain ⟨k, q, hk, rfl, rfl, HX⟩ := hrel
    by_cases hlt : k < n
    · obtain ⟨p, hp⟩ : ∃ p, gs[k]? = some p := ⟨_, List.getElem?_eq_getElem (by rw [Hn.out]; exact hlt)⟩
      obtain ⟨b, off, rfl, c0⟩ := ptr_at HV.out k p.1 (by rw [List.getElem?_map, hp]; rfl)
      have K := hide (KC.out k p q hp)
      have j0 : (0 : Int) ≤ (k : Int) := by omega
      have j1 : (k : Int) < (n : Int) := by omega
      have Hp := hide hp
      clear hp
      cases hb : (p.2.r.st == s) with
      | true =>
        have e1 := yes.out k p Hp.out hb HX.out
        subst e1
        rw [hb] at K
        clear hb
        obtain ⟨g, e⟩ := p
        go_wp2_with (go_at_call 228; refine K.out.mono ?_; rintro r w1 ⟨rfl, q1, rfl⟩)
        go_ret2
        exact ⟨rfl, _, rfl⟩
      | false =>
        have HX1 : Hid (∀ j d, j < k + 1 → gs[j]? = some d → (d.2.r.st == s) = false) := hide (fun j d hj hd => by
          rcases Nat.lt_or_ge j k with g | g
          · exact HX.out j d g hd
          · obtain rfl : j = k := by omega
            rw [Hp.out] at hd; cases hd; exact hb)
        rw [hb] at K
        clear hb
        go_wp2_with (go_at_call 228; refine K.out.mono ?_; rintro r w1 ⟨rfl, q1, rfl⟩)
        go_roundw
        case rel => exact ⟨k + 1, _, by omega, by go_num, rfl, HX1⟩
        case measure => simp [intOf]; omega
    · obtain rfl : k = n := by omega
      have j1 : ¬ (k : Int) < (k : Int) := by omega
      have e1 := no.out HX.out
      subst e1
      go_wp2_with fail
      go_ret2
      exact ⟨rfl, _, rfl⟩
set_option maxHeartbeats 1000000 in
theorem clo36_any (w : World) (b k0 : Nat) (e : En) (s : Int) (h : w.heap[b]? = some (.cells (enC e) 229)) (hk : w.cell? ⟨k0, 0, none⟩ = some (.int .i64 s)) : Calls Tryz.prog 190 #[.pointer (some ⟨b, 0, none⟩), .pointer (some ⟨k0, 0, none⟩)] w fun r w' => r = .returned (.bool (e.r.tt == s)) ∧ ∃ q, w' = w.drewN q := by
  have d1 : w.cell? ⟨b, 2, none⟩ = some (.int .i64 e.r.tt) := (cells_at h 2).1
  clear h
  go_enter Tryz.func190, Tryz.ntmps190
  go_upto_region 1 with fail
  go_quiet (fail)
  go_wp2_with fail
  go_ret
  exact ⟨rfl, _, rfl⟩
set_option maxRecDepth 100000 in
set_option maxHeartbeats 2000000 in
theorem first36_any (a : Option Addr) (n c k0 : Nat) (gs : List (Nat × En)) (s : Int) (w : World) (hn : gs.length = n) (hv : ptrE.Rd w (.slice a n c) (gs.map (·.1))) (hl : n ≤ 1000) (he : ∀ p ∈ gs, w.heap[p.1]? = some (.cells (enC p.2) 229)) (hk : w.cell? ⟨k0, 0, none⟩ = some (.int .i64 s)) :
    Calls Tryz.prog 189 #[.slice a n c, .func (.func 190) #[] #[.pointer (some ⟨k0, 0, none⟩)]] w fun r w' => r = .returned (.tuple #[ptV (gs.find? (fun p => p.2.r.tt == s)), .bool (gs.find? (fun p => p.2.r.tt == s)).isSome]) ∧ ∃ q, w' = w.drewN q := by
  have yes : Hid (∀ (k : Nat) (p : Nat × En), gs[k]? = some p → (p.2.r.tt == s) = true → (∀ j d, j < k → gs[j]? = some d → (d.2.r.tt == s) = false) → gs.find? (fun p => p.2.r.tt == s) = some p) := hide (fun k p h1 h2 h3 => by
    rw [List.find?_eq_some_iff_getElem]
    obtain ⟨hlt, h4⟩ := List.getElem?_eq_some_iff.1 h1
    exact ⟨h2, k, hlt, h4, fun j hj => by rw [h3 j _ hj (List.getElem?_eq_getElem (by omega))]; rfl⟩)
  have no : Hid ((∀ j d, j < n → gs[j]? = some d → (d.2.r.tt == s) = false) → gs.find? (fun p => p.2.r.tt == s) = none) := hide (fun h => by
    rw [List.find?_eq_none]
    intro p hp
    obtain ⟨j, hj⟩ := List.getElem?_of_mem hp
    rw [h j p (by rw [← hn]; exact idx_lt hj) hj]; simp)
  have KC : Hid (∀ (j : Nat) (p : Nat × En) (q : Nat), gs[j]? = some p → Calls Tryz.prog 190 #[.pointer (some ⟨p.1, 0, none⟩), .pointer (some ⟨k0, 0, none⟩)] (w.drewN q) fun r w' => r = .returned (.bool (p.2.r.tt == s)) ∧ ∃ q, w' = w.drewN q) := hide (fun j p q hp => by
    refine (clo36_any (w.drewN q) p.1 k0 p.2 s (he p (List.mem_of_getElem? hp)) hk).mono ?_
    rintro r w' ⟨rfl, q', rfl⟩
    exact ⟨rfl, q + q', by simp⟩)
  generalize gs.find? (fun p => p.2.r.tt == s) = res at *
  have Hn := hide hn
  have HV := hide hv
  have i0 : (n : Int) ≤ 1000 := by omega
  clear hn hv hl he hk
  go_enter Tryz.func189, Tryz.ntmps189
  go_wp2_with fail
  go_loopw [11] (fun v11 wr => ∃ k q : Nat, k ≤ n ∧ v11 = .int .i64 k ∧ wr = w.drewN q ∧ Hid (∀ j d, j < k → gs[j]? = some d → (d.2.r.tt == s) = false)) (fun v11 _ => n - (intOf v11).toNat)
  case atStart => exact ⟨0, 0, by omega, rfl, rfl, hide (fun j q h => by omega)⟩
  case round =>
    obtain ⟨k, q, hk, rfl, rfl, HX⟩ := hrel
    by_cases hlt : k < n
    · obtain ⟨p, hp⟩ : ∃ p, gs[k]? = some p := ⟨_, List.getElem?_eq_getElem (by rw [Hn.out]; exact hlt)⟩
      obtain ⟨b, off, rfl, c0⟩ := ptr_at HV.out k p.1 (by rw [List.getElem?_map, hp]; rfl)
      have K := hide (KC.out k p q hp)
      have j0 : (0 : Int) ≤ (k : Int) := by omega
      have j1 : (k : Int) < (n : Int) := by omega
      have Hp := hide hp
      clear hp
      cases hb : (p.2.r.tt == s) with
      | true =>
        have e1 := yes.out k p Hp.out hb HX.out
        subst e1
        rw [hb] at K
        clear hb
        obtain ⟨g, e⟩ := p
        go_wp2_with (go_at_call 190; refine K.out.mono ?_; rintro r w1 ⟨rfl, q1, rfl⟩)
        go_ret2
        exact ⟨rfl, _, rfl⟩
      | false =>
        have HX1 : Hid (∀ j d, j < k + 1 → gs[j]? = some d → (d.2.r.tt == s) = false) := hide (fun j d hj hd => by
          rcases Nat.lt_or_ge j k with g | g
          · exact HX.out j d g hd
          · obtain rfl : j = k := by omega
            rw [Hp.out] at hd; cases hd; exact hb)
        rw [hb] at K
        clear hb
        go_wp2_with (go_at_call 190; refine K.out.mono ?_; rintro r w1 ⟨rfl, q1, rfl⟩)
        go_roundw
        case rel => exact ⟨k + 1, _, by omega, by go_num, rfl, HX1⟩
        case measure => simp [intOf]; omega
    · obtain rfl : k = n := by omega
      have j1 : ¬ (k : Int) < (k : Int) := by omega
      have e1 := no.out HX.out
      subst e1
      go_wp2_with fail
      go_ret2
      exact ⟨rfl, _, rfl⟩
theorem request_any (w : World) (o : Option (Nat × En)) (h : ∀ p, o = some p → w.heap[p.1]? = some (.cells (enC p.2) 229)) : Calls Tryz.prog 188 #[ptV o, .bool o.isSome] w fun e w' => e = .returned (.tuple #[rqV (o.map (·.2.r)), .bool o.isSome]) ∧ Below w.heap.size w w' := by
  cases o with
  | none => exact request_no w
  | some p => exact request_yes w p.1 p.2 (h p rfl)
theorem rqV_form (o : Option Rq) : ∃ x y z : Int, rqV o = .agg #[.int .i64 x, .int .i64 y, .int .i64 z] := by
  cases o with
  | none => exact ⟨0, 0, 0, rfl⟩
  | some r => exact ⟨_, _, _, rfl⟩
theorem put3 {w : World} {b : Nat} {x y z : Value} {t : TypeId} (h : w.heap[b]? = some (.cells #[x, y, z] t)) (u v s : Value) : (((w.setCell ⟨b, 0, none⟩ u).setCell ⟨b, 1, none⟩ v).setCell ⟨b, 2, none⟩ s).heap[b]? = some (.cells #[u, v, s] t) := by
  rw [heap_put (heap_put (heap_put h u) v) s]
  rfl
set_option maxRecDepth 100000 in
set_option maxHeartbeats 2000000 in
theorem firstB_any {w : World} {B g : Nat} {H : Hb} {S : Bk} (h : (It.book B g H S).P w) (s : Int) : Calls Tryz.prog 204 #[.pointer (some ⟨g, 0, none⟩), .int .i64 s] w fun e w' => e = .returned (.tuple #[rqV (fst S.all s), .bool (fst S.all s).isSome]) ∧ Below w.heap.size w w' := by
  have hT := bk_lie h
  have ef : fst S.all s = ((opT H.T).find? (fun p => p.2.r.st == s)).map (·.2.r) := by
    unfold fst
    rw [hT.ops, List.find?_map]
    rfl
  have hfew : (opT H.T).length ≤ 1000 := by
    have := hT.1.few
    rw [hT.ops, List.length_map] at this
    omega
  have hB0 : Below w.heap.size w ((w.alloc (.cells #[.int .i64 s] 3)).alloc (.cells #[.int .i64 0, .int .i64 0, .int .i64 0] 57)) := (below_new w _).alloc (by simp) _
  have h2 := (It.book B g H S).kept h hB0
  have hk : ((w.alloc (.cells #[.int .i64 s] 3)).alloc (.cells #[.int .i64 0, .int .i64 0, .int .i64 0] 57)).cell? ⟨w.heap.size, 0, none⟩ = some (.int .i64 s) := by
    have : ((w.alloc (.cells #[.int .i64 s] 3)).alloc (.cells #[.int .i64 0, .int .i64 0, .int .i64 0] 57)).heap[w.heap.size]? = some (.cells #[.int .i64 s] 3) := by
      rw [Below.heap_alloc _ _ _ (by simp)]; exact heap_new w _
    exact (cells_at this 0).1
  obtain ⟨a, c, ev⟩ := (bk_row h).rd.form
  obtain ⟨c0, c1, c2, cf⟩ := bk_cells h2
  rw [ev] at c1
  have hrow := (bk_row h2).rd
  rw [ev] at hrow
  have hsz : ((w.alloc (.cells #[.int .i64 s] 3)).alloc (.cells #[.int .i64 0, .int .i64 0, .int .i64 0] 57)).heap.size = w.heap.size + 2 := by simp
  rw [List.length_map] at hrow c1
  have KF := hide (first35_any a _ c w.heap.size (opT H.T) s _ rfl hrow hfew (fun p hp => bk_ents h2 p (List.mem_filter.1 hp).1) hk)
  have HE : ∀ p, (opT H.T).find? (fun p => p.2.r.st == s) = some p → ((w.alloc (.cells #[.int .i64 s] 3)).alloc (.cells #[.int .i64 0, .int .i64 0, .int .i64 0] 57)).heap[p.1]? = some (.cells (enC p.2) 229) := fun p hp => bk_ents h2 p (List.mem_filter.1 (List.mem_of_find?_eq_some hp)).1
  have KR : Hid (∀ q, Calls Tryz.prog 188 #[ptV ((opT H.T).find? (fun p => p.2.r.st == s)), .bool ((opT H.T).find? (fun p => p.2.r.st == s)).isSome] (((w.alloc (.cells #[.int .i64 s] 3)).alloc (.cells #[.int .i64 0, .int .i64 0, .int .i64 0] 57)).drewN q) fun e w' => e = .returned (.tuple #[rqV (fst S.all s), .bool (fst S.all s).isSome]) ∧ Below (w.heap.size + 2) ((w.alloc (.cells #[.int .i64 s] 3)).alloc (.cells #[.int .i64 0, .int .i64 0, .int .i64 0] 57)) w') := hide (fun q => by
    refine (request_any (((w.alloc (.cells #[.int .i64 s] 3)).alloc (.cells #[.int .i64 0, .int .i64 0, .int .i64 0] 57)).drewN q) _ (fun p hp => HE p hp)).mono ?_
    rintro e w' ⟨rfl, hb⟩
    rw [show (((w.alloc (.cells #[.int .i64 s] 3)).alloc (.cells #[.int .i64 0, .int .i64 0, .int .i64 0] 57)).drewN q).heap.size = w.heap.size + 2 from hsz] at hb
    rw [ef]
    exact ⟨by rw [Option.isSome_map], ⟨hb.os, hb.tape, hb.output, hb.size, hb.block⟩⟩)
  have HS : Hid (∀ w', Below (w.heap.size + 2) ((w.alloc (.cells #[.int .i64 s] 3)).alloc (.cells #[.int .i64 0, .int .i64 0, .int .i64 0] 57)) w' → w'.heap[w.heap.size + 1]? = some (.cells #[.int .i64 0, .int .i64 0, .int .i64 0] 57) ∧ ∀ u v t, Below w.heap.size w (((w'.setCell ⟨w.heap.size + 1, 0, none⟩ u).setCell ⟨w.heap.size + 1, 1, none⟩ v).setCell ⟨w.heap.size + 1, 2, none⟩ t)) := hide (fun w' hb => ⟨by
    rw [hb.block _ (by omega)]
    rw [show w.heap.size + 1 = (w.alloc (.cells #[.int .i64 s] 3)).heap.size by simp]
    exact heap_new _ _, fun u v t => by
      have hb2 : Below w.heap.size w w' := ⟨hb.os.trans hB0.os, hb.tape.trans hB0.tape, hb.output.trans hB0.output, Nat.le_trans hB0.size hb.size, fun k hk => (hb.block k (by omega)).trans (hB0.block k hk)⟩
      exact ((hb2.setCell (by simp) _).setCell (by simp) _).setCell (by simp) _⟩)
  obtain ⟨x, y, z, exyz⟩ := rqV_form (fst S.all s)
  rw [exyz] at KR ⊢
  generalize (fst S.all s).isSome = bb at *
  clear exyz ef HE
  generalize ((opT H.T).find? (fun p => p.2.r.st == s)).isSome = b2 at *
  generalize ptV ((opT H.T).find? (fun p => p.2.r.st == s)) = pv at *
  generalize (opT H.T).length = n at *
  clear h h2 hT hfew hB0 hk ev c0 c2 cf hrow hsz
  go_enter Tryz.func204, Tryz.ntmps204
  go_wp2_with (first
    | (go_at_call 189; refine KF.out.mono ?_; rintro e w1 ⟨rfl, q1, rfl⟩)
    | (go_at_call 188; refine (KR.out _).mono ?_; rintro e w2 ⟨rfl, hb⟩; obtain ⟨hx, hb'⟩ := HS.out _ hb; have HB := hide hb'; clear hb hb'; obtain ⟨x0, f0⟩ := cells_at hx 0; obtain ⟨x1, f1⟩ := cells_at hx 1; obtain ⟨x2, f2⟩ := cells_at hx 2; have HX := hide hx; clear hx))
  have h9 := put3 HX.out (.int .i64 x) (.int .i64 y) (.int .i64 z)
  obtain ⟨y0, _⟩ := cells_at h9 0
  obtain ⟨y1, _⟩ := cells_at h9 1
  obtain ⟨y2, _⟩ := cells_at h9 2
  exact bodyPost_ret (v := .tuple #[.agg #[.int .i64 x, .int .i64 y, .int .i64 z], .bool bb]) (by simp [results, Tryz.results204, go_sem, y0, y1, y2]) rfl ⟨rfl, HB.out _ _ _⟩
set_option maxRecDepth 100000 in
set_option maxHeartbeats 2000000 in
theorem wanted_any {w : World} {B g : Nat} {H : Hb} {S : Bk} (h : (It.book B g H S).P w) (s : Int) : Calls Tryz.prog 141 #[.pointer (some ⟨g, 0, none⟩), .int .i64 s] w fun e w' => e = .returned (.tuple #[rqV (wnt S.all s), .bool (wnt S.all s).isSome]) ∧ Below w.heap.size w w' := by
  have hT := bk_lie h
  have ef : wnt S.all s = ((opT H.T).find? (fun p => p.2.r.tt == s)).map (·.2.r) := by
    unfold wnt
    rw [hT.ops, List.find?_map]
    rfl
  have hfew : (opT H.T).length ≤ 1000 := by
    have := hT.1.few
    rw [hT.ops, List.length_map] at this
    omega
  have hB0 : Below w.heap.size w ((w.alloc (.cells #[.int .i64 s] 3)).alloc (.cells #[.int .i64 0, .int .i64 0, .int .i64 0] 57)) := (below_new w _).alloc (by simp) _
  have h2 := (It.book B g H S).kept h hB0
  have hk : ((w.alloc (.cells #[.int .i64 s] 3)).alloc (.cells #[.int .i64 0, .int .i64 0, .int .i64 0] 57)).cell? ⟨w.heap.size, 0, none⟩ = some (.int .i64 s) := by
    have : ((w.alloc (.cells #[.int .i64 s] 3)).alloc (.cells #[.int .i64 0, .int .i64 0, .int .i64 0] 57)).heap[w.heap.size]? = some (.cells #[.int .i64 s] 3) := by
      rw [Below.heap_alloc _ _ _ (by simp)]; exact heap_new w _
    exact (cells_at this 0).1
  obtain ⟨a, c, ev⟩ := (bk_row h).rd.form
  obtain ⟨c0, c1, c2, cf⟩ := bk_cells h2
  rw [ev] at c1
  have hrow := (bk_row h2).rd
  rw [ev] at hrow
  have hsz : ((w.alloc (.cells #[.int .i64 s] 3)).alloc (.cells #[.int .i64 0, .int .i64 0, .int .i64 0] 57)).heap.size = w.heap.size + 2 := by simp
  rw [List.length_map] at hrow c1
  have KF := hide (first36_any a _ c w.heap.size (opT H.T) s _ rfl hrow hfew (fun p hp => bk_ents h2 p (List.mem_filter.1 hp).1) hk)
  have HE : ∀ p, (opT H.T).find? (fun p => p.2.r.tt == s) = some p → ((w.alloc (.cells #[.int .i64 s] 3)).alloc (.cells #[.int .i64 0, .int .i64 0, .int .i64 0] 57)).heap[p.1]? = some (.cells (enC p.2) 229) := fun p hp => bk_ents h2 p (List.mem_filter.1 (List.mem_of_find?_eq_some hp)).1
  have KR : Hid (∀ q, Calls Tryz.prog 188 #[ptV ((opT H.T).find? (fun p => p.2.r.tt == s)), .bool ((opT H.T).find? (fun p => p.2.r.tt == s)).isSome] (((w.alloc (.cells #[.int .i64 s] 3)).alloc (.cells #[.int .i64 0, .int .i64 0, .int .i64 0] 57)).drewN q) fun e w' => e = .returned (.tuple #[rqV (wnt S.all s), .bool (wnt S.all s).isSome]) ∧ Below (w.heap.size + 2) ((w.alloc (.cells #[.int .i64 s] 3)).alloc (.cells #[.int .i64 0, .int .i64 0, .int .i64 0] 57)) w') := hide (fun q => by
    refine (request_any (((w.alloc (.cells #[.int .i64 s] 3)).alloc (.cells #[.int .i64 0, .int .i64 0, .int .i64 0] 57)).drewN q) _ (fun p hp => HE p hp)).mono ?_
    rintro e w' ⟨rfl, hb⟩
    rw [show (((w.alloc (.cells #[.int .i64 s] 3)).alloc (.cells #[.int .i64 0, .int .i64 0, .int .i64 0] 57)).drewN q).heap.size = w.heap.size + 2 from hsz] at hb
    rw [ef]
    exact ⟨by rw [Option.isSome_map], ⟨hb.os, hb.tape, hb.output, hb.size, hb.block⟩⟩)
  have HS : Hid (∀ w', Below (w.heap.size + 2) ((w.alloc (.cells #[.int .i64 s] 3)).alloc (.cells #[.int .i64 0, .int .i64 0, .int .i64 0] 57)) w' → w'.heap[w.heap.size + 1]? = some (.cells #[.int .i64 0, .int .i64 0, .int .i64 0] 57) ∧ ∀ u v t, Below w.heap.size w (((w'.setCell ⟨w.heap.size + 1, 0, none⟩ u).setCell ⟨w.heap.size + 1, 1, none⟩ v).setCell ⟨w.heap.size + 1, 2, none⟩ t)) := hide (fun w' hb => ⟨by
    rw [hb.block _ (by omega)]
    rw [show w.heap.size + 1 = (w.alloc (.cells #[.int .i64 s] 3)).heap.size by simp]
    exact heap_new _ _, fun u v t => by
      have hb2 : Below w.heap.size w w' := ⟨hb.os.trans hB0.os, hb.tape.trans hB0.tape, hb.output.trans hB0.output, Nat.le_trans hB0.size hb.size, fun k hk => (hb.block k (by omega)).trans (hB0.block k hk)⟩
      exact ((hb2.setCell (by simp) _).setCell (by simp) _).setCell (by simp) _⟩)
  obtain ⟨x, y, z, exyz⟩ := rqV_form (wnt S.all s)
  rw [exyz] at KR ⊢
  generalize (wnt S.all s).isSome = bb at *
  clear exyz ef HE
  generalize ((opT H.T).find? (fun p => p.2.r.tt == s)).isSome = b2 at *
  generalize ptV ((opT H.T).find? (fun p => p.2.r.tt == s)) = pv at *
  generalize (opT H.T).length = n at *
  clear h h2 hT hfew hB0 hk ev c0 c2 cf hrow hsz
  go_enter Tryz.func141, Tryz.ntmps141
  go_wp2_with (first
    | (go_at_call 189; refine KF.out.mono ?_; rintro e w1 ⟨rfl, q1, rfl⟩)
    | (go_at_call 188; refine (KR.out _).mono ?_; rintro e w2 ⟨rfl, hb⟩; obtain ⟨hx, hb'⟩ := HS.out _ hb; have HB := hide hb'; clear hb hb'; obtain ⟨x0, f0⟩ := cells_at hx 0; obtain ⟨x1, f1⟩ := cells_at hx 1; obtain ⟨x2, f2⟩ := cells_at hx 2; have HX := hide hx; clear hx))
  have h9 := put3 HX.out (.int .i64 x) (.int .i64 y) (.int .i64 z)
  obtain ⟨y0, _⟩ := cells_at h9 0
  obtain ⟨y1, _⟩ := cells_at h9 1
  obtain ⟨y2, _⟩ := cells_at h9 2
  exact bodyPost_ret (v := .tuple #[.agg #[.int .i64 x, .int .i64 y, .int .i64 z], .bool bb]) (by simp [results, Tryz.results141, go_sem, y0, y1, y2]) rfl ⟨rfl, HB.out _ _ _⟩
end Go.Proofs.YtocmngpoemfpkaaGreatDoor

namespace Go.Proofs.YtocmngpoemfpkaaGreatDoor
open Go.RowKit
set_option linter.unusedVariables false
def putL (cur : Array Value) (o : Nat) : List Value → Array Value
  | [] => cur
  | v :: r => putL (cur.setIfInBounds o v) (o + 1) r
theorem putL_size : ∀ (vs : List Value) (cur : Array Value) (o : Nat), (putL cur o vs).size = cur.size
  | [], _, _ => rfl
  | v :: r, cur, o => by
    show (putL (cur.setIfInBounds o v) (o + 1) r).size = _
    rw [putL_size r]; simp
theorem putL_list : ∀ (vs : List Value) (cur : Array Value) (o : Nat), o + vs.length ≤ cur.size → (putL cur o vs).toList = cur.toList.take o ++ vs ++ cur.toList.drop (o + vs.length)
  | [], cur, o, _ => by simp [putL]
  | v :: r, cur, o, h => by
    show (putL (cur.setIfInBounds o v) (o + 1) r).toList = _
    simp only [List.length_cons] at h
    rw [putL_list r _ _ (by simp; omega), Array.toList_setIfInBounds]
    have hl : o < cur.toList.length := by simp; omega
    rw [show o + 1 + r.length = o + (v :: r).length by simp; omega]
    have h1 : (cur.toList.set o v).take (o + 1) = cur.toList.take o ++ [v] := by
      rw [List.take_add_one, List.take_set, List.set_eq_of_length_le (by rw [List.length_take]; omega), List.getElem?_set_self hl]
      rfl
    have h2 : (cur.toList.set o v).drop (o + (v :: r).length) = cur.toList.drop (o + (v :: r).length) := by
      rw [List.drop_set_of_lt (by simp only [List.length_cons]; omega)]
    rw [h1, h2]
    simp
theorem cells_heap (b : Nat) (e : TypeId) : ∀ (vs : List Value) (o : Nat) (w : World) (cur : Array Value), w.heap[b]? = some (.cells cur e) → (w.setCells b o vs).heap[b]? = some (.cells (putL cur o vs) e)
  | [], _, _, _, h => h
  | v :: r, o, w, cur, h => cells_heap b e r (o + 1) _ _ (heap_put h v)
theorem cells_grown (b : Nat) : ∀ (vs : List Value) (o : Nat) (w : World), w.grownBy (w.setCells b o vs) (some b) ∧ (w.setCells b o vs).heap.size = w.heap.size
  | [], _, w => ⟨⟨rfl, rfl, rfl, Nat.le_refl _, fun _ _ _ => rfl⟩, rfl⟩
  | v :: r, o, w => by
    obtain ⟨h1, h2⟩ := cells_grown b r (o + 1) (w.setCell ⟨b, o, none⟩ v)
    have hz : (w.setCell ⟨b, o, none⟩ v).heap.size = w.heap.size := by simp [World.setCell]
    refine ⟨⟨h1.os, h1.tape, h1.output, by rw [← hz]; exact h1.size, fun k hk hne => ?_⟩, h2.trans hz⟩
    show ((w.setCell ⟨b, o, none⟩ v).setCells b (o + 1) r).heap[k]? = _
    rw [h1.block k (by rw [hz]; exact hk) hne]
    exact Below.heap_setCell _ _ _ _ (fun e => hne (by rw [show k = b from e]))
def zeros (n : Nat) : List Value := (Builtin.zeroCells #[.pointer none] n).toList
theorem zeros_len (n : Nat) : (zeros n).length = n * 1 := by simp [zeros, Builtin.zeroCells]
theorem zeros_one (n : Nat) (v : Value) (h : v ∈ zeros n) : v.oneCell' = true := by
  simp only [zeros, Builtin.zeroCells, Array.toList_map, List.mem_map] at h
  obtain ⟨i, _, rfl⟩ := h
  have hiB : i % 1 = 0 := Nat.mod_one _
  show Value.oneCell' (#[Value.pointer none][i % 1]!) = true
  rw [hiB]
  rfl
theorem run_clear_pc (w : World) (ty : TypeId) (b o n c : Nat) (hn : 0 < n) (hc : ∀ j, j < n * 1 → (w.cell? ⟨b, o + j, none⟩).isSome = true) (hf : ∀ j, j < n * 1 → w.frozen? ⟨b, o + j, none⟩ = false) :
    (Builtin.clear_ #[223] ty #[.slice (some ⟨b, o, none⟩) n c]).run Tryz.prog w = .ok (.tuple #[]) (w.setCells b o (zeros n)) := by
  have hst := run_storeCells_cells (P := Tryz.prog) b o (zeros n) 0 w (by simpa [zeros_len] using hc) (by simpa [zeros_len] using hf) (zeros_one n)
  simp only [Nat.add_zero] at hst
  obtain ⟨m, rfl⟩ : ∃ m, n = m + 1 := ⟨n - 1, by omega⟩
  have hz : (Builtin.zeroCells (Value.pointer none).cells (m + 1)).toList = zeros (m + 1) := rfl
  simp [Builtin.clear_, run_underlying Tryz.underlying223, hz, hst]
theorem infoI : (Tryz.prog.info? 220).map (fun i => i.size) = some 1 := by kernel_rfl
theorem fl_take (ps : List Nat) (i : Nat) (h : i ≤ ps.length) : (ptrE.fl ps).take (i * 1) = ptrE.fl (ps.take i) := by
  have e : ptrE.fl ps = ptrE.fl (ps.take i) ++ ptrE.fl (ps.drop i) := by rw [← ptrE.fl_app, List.take_append_drop]
  have hl : (ptrE.fl (ps.take i)).length = i * 1 := by rw [ptrE.fl_len, List.length_take, Nat.min_eq_left h]; rfl
  rw [e, List.take_append_of_le_length (by omega), List.take_of_length_le (by omega)]
theorem fl_drop (ps : List Nat) (i : Nat) (h : i ≤ ps.length) (t : Nat) : (ptrE.fl ps)[i * 1 + t]? = (ptrE.fl (ps.drop i))[t]? := by
  have e : ptrE.fl ps = ptrE.fl (ps.take i) ++ ptrE.fl (ps.drop i) := by rw [← ptrE.fl_app, List.take_append_drop]
  have hl : (ptrE.fl (ps.take i)).length = i * 1 := by rw [ptrE.fl_len, List.length_take, Nat.min_eq_left h]; rfl
  rw [e, List.getElem?_append_right (by omega), hl]
  congr 1; omega
theorem del_own {w w' : World} {B b c : Nat} {ps : List Nat} (h : ptrE.Own w B (.slice (some ⟨b, 0, none⟩) ps.length c) ps) (i j : Nat) (hij : i ≤ j) (hj : j ≤ ps.length) (hw : w'.heap[b]? = (((w.setCells b (0 + i * 1) (ptrE.fl (ps.drop j))).setCells b ((i + (ps.length - j)) * 1) (zeros (ps.length - (i + (ps.length - j)))))).heap[b]?) :
    ptrE.Own w' B (.slice (some ⟨b, 0, none⟩) (i + (ps.length - j)) c) (ps.take i ++ ps.drop j) := by
  have hl : (ps.take i ++ ps.drop j).length = i + (ps.length - j) := by rw [List.length_append, List.length_take, List.length_drop, Nat.min_eq_left (by omega)]
  obtain ⟨h0, h⟩ := h
  rcases h with ⟨h1, _⟩ | ⟨g', cap', cur, h1, hb, hg, hn, hm, hs, ht⟩
  · cases h1
  · simp only [Value.slice.injEq, Option.some.injEq, Addr.mk.injEq] at h1
    obtain ⟨⟨rfl, _⟩, _, rfl⟩ := h1
    have hlen : (ptrE.fl (ps.drop j)).length = (ps.length - j) * 1 := by rw [ptrE.fl_len, List.length_drop]; rfl
    have hs' : cur.size = c * 1 := hs
    have ht' : cur.toList.take (ps.length * 1) = ptrE.fl ps := ht
    have e1 := cells_heap b 220 (ptrE.fl (ps.drop j)) (0 + i * 1) w cur hg
    have e2 := cells_heap b 220 (zeros (ps.length - (i + (ps.length - j)))) ((i + (ps.length - j)) * 1) _ _ e1
    have l1 : (putL cur (0 + i * 1) (ptrE.fl (ps.drop j))).toList = cur.toList.take (i * 1) ++ ptrE.fl (ps.drop j) ++ cur.toList.drop (i * 1 + (ps.length - j) * 1) := by
      rw [putL_list _ _ _ (by rw [hlen]; omega), hlen, Nat.zero_add]
    refine ⟨by rw [ptrE.fl_len], .inr ⟨b, c, _, by rw [hl], hb, hw.trans e2, by omega, hm, ?_, ?_⟩⟩
    · rw [putL_size, putL_size]; exact hs
    · rw [hl]
      show List.take ((i + (ps.length - j)) * 1) _ = _
      rw [putL_list _ _ _ (by rw [zeros_len, putL_size]; omega), l1]
      have k1 : (cur.toList.take (i * 1)).length = i * 1 := by rw [List.length_take]; simp; omega
      have k2 : (cur.toList.take (i * 1) ++ ptrE.fl (ps.drop j)).length = (i + (ps.length - j)) * 1 := by rw [List.length_append, k1, hlen]; omega
      have k3 : cur.toList.take (i * 1) = ptrE.fl (ps.take i) := by
        rw [← fl_take ps i (by omega), ← ht', List.take_take, Nat.min_eq_left (by omega)]
      rw [List.append_assoc, List.take_append_of_le_length (by rw [List.length_take, List.length_append]; omega), List.take_take, Nat.min_self, List.take_append_of_le_length (by omega), List.take_of_length_le (by omega), k3, ptrE.fl_app]
set_option maxRecDepth 100000 in
set_option maxHeartbeats 4000000 in
theorem delete_any {w : World} {B : Nat} {v : Value} {ps : List Nat} (hL : ptrE.Own w B v ps) (i j : Nat) (hij : i ≤ j) (hj : j ≤ ps.length) (hm : ps.length ≤ 1000) :
    Calls Tryz.prog 192 #[v, .int .i64 i, .int .i64 j] w fun e w' => ∃ v', e = .returned v' ∧ ptrE.Own w' B v' (ps.take i ++ ps.drop j) ∧ w.grownBy w' v.ownBlock ∧ v'.ownBlock = v.ownBlock := by
  obtain ⟨a, c, rfl, hc, hcm⟩ : ∃ a c, v = .slice a ps.length c ∧ ps.length ≤ c ∧ c ≤ maxLen := by
    rcases hL.2 with ⟨h1, h2⟩ | ⟨g, cap, cur, h1, hb, _, hn, hm, _⟩
    · exact ⟨none, 0, by rw [h1, h2], by omega, by unfold maxLen; omega⟩
    · exact ⟨_, cap, h1, hn, hm⟩
  have hcm' : c ≤ 9223372036854775807 := by unfold maxLen at hcm; omega
  have hic : i ≤ c := by omega
  have hjc : j ≤ c := by omega
  by_cases heq : i = j
  · subst heq
    have HL := hide hL
    have i0 : (0 : Int) ≤ (i : Int) := by omega
    have i1 : (i : Int) ≤ (ps.length : Int) := by omega
    have i2 : (i : Int) ≤ (c : Int) := by omega
    have i3 : (ps.length : Int) ≤ (c : Int) := by omega
    have h0 : Calls Tryz.prog 192 #[.slice a ps.length c, .int .i64 i, .int .i64 i] w fun e w' => e = .returned (.slice a ps.length c) ∧ w' = w := by
      clear hL HL hm
      generalize ps.length = n at *
      go_enter Tryz.func192, Tryz.ntmps192
      go_wp2
      all_goals (go_ret; exact ⟨rfl, rfl⟩)
    refine h0.mono ?_
    rintro e w' ⟨rfl, rfl⟩
    exact ⟨_, rfl, by rw [List.take_append_drop]; exact hL, ⟨rfl, rfl, rfl, Nat.le_refl _, fun _ _ _ => rfl⟩, rfl⟩
  · have hlt : i < j := by omega
    obtain ⟨b, c', hv, _⟩ := hL.some (fun e => by rw [e] at hj; simp at hj; omega)
    simp only [Value.slice.injEq] at hv
    obtain ⟨rfl, _, rfl⟩ := hv
    have hrow := hL
    obtain ⟨n, hnn⟩ : ∃ n, ps.length = n := ⟨_, rfl⟩
    obtain ⟨news, hnews⟩ : ∃ news, news = ptrE.fl (ps.drop j) := ⟨_, rfl⟩
    have hlen : news.length = (n - j) * 1 := by rw [hnews, ptrE.fl_len, List.length_drop, hnn]; rfl
    have hcell : ∀ t, t < n * 1 → w.cell? ⟨b, t, none⟩ = (ptrE.fl ps)[t]? ∧ w.frozen? ⟨b, t, none⟩ = false := fun t ht => by
      obtain ⟨k1, k2, _⟩ := hrow.cell t (by rw [hnn]; exact ht)
      exact ⟨k1, k2⟩
    have hsome : ∀ t, t < n * 1 → (w.cell? ⟨b, t, none⟩).isSome = true := fun t ht => by
      rw [(hcell t ht).1, List.getElem?_eq_getElem (by rw [ptrE.fl_len, hnn]; exact ht)]; rfl
    obtain ⟨A, hA, hsrc⟩ : ∃ A : Addr, (if c = j then some (⟨b, 0, none⟩ : Addr) else some ⟨b, j * 1, none⟩) = some A ∧ Hid (∀ t u, news[t]? = some u → w.drew.cell? (A.add t) = some u) := by
      by_cases h : c = j
      · refine ⟨⟨b, 0, none⟩, by simp [h], fun t u hu => ?_⟩
        have h0 : news.length = 0 := by rw [hlen]; omega
        rw [List.length_eq_zero_iff.1 h0] at hu
        simp at hu
      · refine ⟨⟨b, j * 1, none⟩, by simp [h], fun t u hu => ?_⟩
        have ht : t < (n - j) * 1 := by
          have := (List.getElem?_eq_some_iff.1 hu).1
          rwa [hlen] at this
        rw [addr_plain]
        show w.cell? _ = _
        rw [(hcell (j * 1 + t) (by omega)).1, fl_drop ps j hj, ← hnews]
        exact hu
    have s1 : Hid (news.length = (n - j) * 1) := hlen
    have s2 : Hid (∀ u ∈ news, u.oneCell' = true) := by
      intro u hu
      rw [hnews] at hu
      obtain ⟨x, _, hx⟩ := List.mem_flatMap.1 hu
      exact ptrE.one x u hx
    have s3 : Hid (∀ t, t < news.length → (w.drew.cell? ⟨b, 0 + i * 1 + t, none⟩).isSome = true ∧ w.drew.frozen? ⟨b, 0 + i * 1 + t, none⟩ = false) := by
      intro t ht
      rw [hlen] at ht
      rw [Nat.zero_add]
      exact ⟨hsome _ (by omega), (hcell _ (by omega)).2⟩
    obtain ⟨i0, hi0, hz1⟩ := Option.map_eq_some_iff.1 infoI
    have hz1' : i0.size = 1 := hz1
    obtain ⟨W1, hW1⟩ : ∃ W1, W1 = w.drew.setCells b (0 + i * 1) news := ⟨_, rfl⟩
    have hg1 := cells_grown b news (0 + i * 1) w.drew
    have hcl : ∀ ty, (Builtin.clear_ #[223] ty #[.slice (some ⟨b, (i + (n - j)) * 1, none⟩) (n - (i + (n - j))) (c - (i + (n - j)))]).run Tryz.prog W1 = .ok (.tuple #[]) (W1.setCells b ((i + (n - j)) * 1) (zeros (n - (i + (n - j))))) := by
      intro ty
      have hfr : ∀ t, t < n * 1 → (W1.cell? ⟨b, t, none⟩).isSome = true ∧ W1.frozen? ⟨b, t, none⟩ = false := by
        intro t ht
        obtain ⟨cur, hcur, hcs⟩ : ∃ cur, w.heap[b]? = some (.cells cur 220) ∧ cur.size = c * 1 := by
          rcases hrow.2 with ⟨h1, _⟩ | ⟨g', cap', cur, h1, hb, hg, hn, hm, hs, ht⟩
          · cases h1
          · simp only [Value.slice.injEq, Option.some.injEq, Addr.mk.injEq] at h1
            obtain ⟨⟨rfl, _⟩, _, rfl⟩ := h1
            exact ⟨cur, hg, hs⟩
        have e := cells_heap b 220 news (0 + i * 1) w.drew cur hcur
        rw [← hW1] at e
        constructor
        · unfold World.cell?
          simp only [e]
          show ((putL cur (0 + i * 1) news)[t]?).isSome = true
          rw [Array.getElem?_eq_getElem (by rw [putL_size]; omega)]; rfl
        · unfold World.frozen?
          simp [e]
      exact run_clear_pc W1 ty b _ _ _ (by omega) (fun t ht => (hfr _ (by omega)).1) (fun t ht => (hfr _ (by omega)).2)
    have hg2 := cells_grown b (zeros (n - (i + (n - j)))) ((i + (n - j)) * 1) W1
    have HR : Hid (∃ v', (Value.slice (some ⟨b, 0, none⟩) (i + (n - j)) c) = v' ∧ ptrE.Own (W1.setCells b ((i + (n - j)) * 1) (zeros (n - (i + (n - j))))) B v' (ps.take i ++ ps.drop j) ∧ w.grownBy (W1.setCells b ((i + (n - j)) * 1) (zeros (n - (i + (n - j))))) (some b) ∧ v'.ownBlock = some b) := by
      have g1 : w.grownBy W1 (some b) := by rw [hW1]; exact ⟨hg1.1.os, hg1.1.tape, hg1.1.output, hg1.1.size, hg1.1.block⟩
      have g2 : w.grownBy (W1.setCells b ((i + (n - j)) * 1) (zeros (n - (i + (n - j))))) (some b) := ⟨hg2.1.os.trans g1.os, hg2.1.tape.trans g1.tape, hg2.1.output.trans g1.output, Nat.le_trans g1.size hg2.1.size, fun k hk hne => (hg2.1.block k (Nat.lt_of_lt_of_le hk g1.size) hne).trans (g1.block k hk hne)⟩
      refine hide ⟨_, rfl, ?_, g2, rfl⟩
      · have := del_own (w := w.drew) (w' := W1.setCells b ((i + (n - j)) * 1) (zeros (n - (i + (n - j))))) (B := B) (ps := ps) (c := c) (b := b) (hrow.keep ⟨rfl, rfl, rfl, Nat.le_refl _, fun _ _ => rfl⟩) i j hij hj (by rw [hW1, hnn, hnews])
        rw [hnn] at this
        exact this
    have hW : Hid (W1 = w.drew.setCells b (0 + i * 1) news) := hW1
    rw [hnn]
    clear hW1 hg1 hg2 hcell hsome hrow hL hnews hlen
    have j0 : (0 : Int) ≤ (i : Int) := by omega
    have j1 : (i : Int) < (j : Int) := by omega
    have j2 : (j : Int) ≤ (n : Int) := by omega
    have j3 : (n : Int) ≤ (c : Int) := by omega
    simp only [Nat.mul_one] at hA hcl HR
    go_enter Tryz.func192, Tryz.ntmps192
    go_wp2_with fail
    go_region_law (refine step_append_room rfl (.tmp 22) (.tmp 25) 223 rfl 220 i0 1 Tryz.underlying223 hi0 hz1' b 0 i c (by simp [Act.eval, Act.put]) A (n - j) (c - j) news (by simp [Act.eval, Act.put]) s1.out hsrc.out s2.out (by omega) s3.out ?_; rw [← hW.out])
    go_wp2
    go_ret
    obtain ⟨v', rfl, h1, h2, h3⟩ := HR.out
    exact ⟨_, rfl, h1, h2, h3⟩
theorem nodup_inj {α : Type} : ∀ {l : List α} {i j : Nat} (hn : l.Nodup) (hiB : i < l.length) (hj : j < l.length), l[i] = l[j] → i = j := by
  intro l i j hn hiB hj h
  rcases Nat.lt_trichotomy i j with q | q | q
  · exact absurd h ((List.pairwise_iff_getElem.1 hn) i j hiB hj q)
  · exact q
  · exact absurd h.symm ((List.pairwise_iff_getElem.1 hn) j i hj hiB q)
theorem info67 : (Tryz.prog.info? 229).map (fun i => i.size) = some 4 := by kernel_rfl
theorem rq_equal (w : World) (a b : Rq) : (Op.equalIn 10000 57 (.agg #[.int .i64 a.id, .int .i64 a.st, .int .i64 a.tt]) (.agg #[.int .i64 b.id, .int .i64 b.st, .int .i64 b.tt])).run Tryz.prog w = .ok (decide (a = b)) w := by
  obtain ⟨s, k, z⟩ := a
  obtain ⟨s', k', z'⟩ := b
  have hu : Tryz.prog.underlying 57 = some (.struct (Tryz.prog.fieldsOf 57)) := by kernel_rfl
  have hp : Tryz.prog.stoodInHeld 57 = false := by kernel_rfl
  rw [show (10000 : Nat) = 9998 + 1 + 1 from rfl, run_equalIn_struct w (9998 + 1) 57 _ _ hu hp]
  have hf : (Tryz.prog.fieldsOf 57).toList.map (fun f => (f.name == "_", f.type, f.offset)) = [(false, 3, 0), (false, 3, 1), (false, 3, 2)] := by kernel_rfl
  have p3 : ∀ (xs : Array Value) (j : Nat) (v : Value), xs[j]? = some v → (part 3 xs j).run Tryz.prog w = .ok v w := fun xs j v h => by
    have ag : (isAgg 3).run Tryz.prog w = .ok false w := by kernel_rfl
    simp [part, ag, h]
  obtain ⟨fs, hfs⟩ : ∃ fs, (Tryz.prog.fieldsOf 57).toList = fs := ⟨_, rfl⟩
  rw [hfs] at hf ⊢
  have hl3 : fs.length = 3 := by have := congrArg List.length hf; simpa using this
  match fs, hl3 with
  | [f0, f1, f2], _ =>
    simp only [List.map_cons, List.map_nil, List.cons.injEq, Prod.mk.injEq, and_true] at hf
    obtain ⟨⟨n0, t0, o0⟩, ⟨n1, t1, o1⟩, ⟨n2, t2, o2⟩⟩ := hf
    have m0 : f0.name ≠ "_" := by simpa using n0
    have m1 : f1.name ≠ "_" := by simpa using n1
    have m2 : f2.name ≠ "_" := by simpa using n2
    rw [Op.eqFields, if_pos m0, t0, o0]
    simp only [Sem.run_bind]
    rw [p3 _ 0 (.int .i64 s) rfl]
    simp only [Result.andThen_ok]
    rw [p3 _ 0 (.int .i64 s') rfl]
    simp only [Result.andThen_ok, run_equalIn_int w 9998 3 .i64 .i64 s s' Tryz.underlying3]
    by_cases h1 : s = s'
    · subst h1
      simp only [beq_self_eq_true, Bool.not_true, Bool.false_eq_true, if_false]
      rw [Op.eqFields, if_pos m1, t1, o1]
      simp only [Sem.run_bind]
      rw [p3 _ 1 (.int .i64 k) rfl]
      simp only [Result.andThen_ok]
      rw [p3 _ 1 (.int .i64 k') rfl]
      simp only [Result.andThen_ok, run_equalIn_int w 9998 3 .i64 .i64 k k' Tryz.underlying3]
      by_cases h2 : k = k'
      · subst h2
        simp only [beq_self_eq_true, Bool.not_true, Bool.false_eq_true, if_false]
        rw [Op.eqFields, if_pos m2, t2, o2]
        simp only [Sem.run_bind]
        rw [p3 _ 2 (.int .i64 z) rfl]
        simp only [Result.andThen_ok]
        rw [p3 _ 2 (.int .i64 z') rfl]
        simp only [Result.andThen_ok, run_equalIn_int w 9998 3 .i64 .i64 z z' Tryz.underlying3]
        by_cases h3 : z = z'
        · subst h3; simp [Op.eqFields]
        · simp [h3]
      · simp [h2]
    · simp [h1]
set_option maxRecDepth 100000 in
set_option maxHeartbeats 2000000 in
theorem indexP_any (a : Option Addr) (c n : Nat) (ms : List Nat) (d i : Nat) (w : World) (hn : ms.length = n) (hv : ptrE.Rd w (.slice a n c) ms) (hl : n ≤ 100000) (hd : ms[i]? = some d) (hnd : ms.Nodup) (hall : ∀ d ∈ ms, ∃ C, w.heap[d]? = some (.cells C 229)) :
    Calls Tryz.prog 191 #[.slice a n c, .pointer (some ⟨d, 0, none⟩)] w fun e w' => e = .returned (.int .i64 (i : Int)) ∧ w' = w := by
  have Hn := hide hn
  have Hv := hide hv
  have i0 : (n : Int) ≤ 100000 := by omega
  have hiB : i < n := by rw [← hn]; exact idx_lt hd
  have yes : Hid (∀ k : Nat, ms[k]? = some d → k = i) := hide (fun k h => by
    obtain ⟨h1, h2⟩ := List.getElem?_eq_some_iff.1 h
    obtain ⟨h3, h4⟩ := List.getElem?_eq_some_iff.1 hd
    exact nodup_inj hnd h1 h3 (h2.trans h4.symm))
  have Hd := hide hd
  obtain ⟨i67, hi67, hs67⟩ := Option.map_eq_some_iff.1 info67
  have hsz : i67.size ≠ 0 := by rw [hs67]; decide
  have eqs : ∀ d, (binOp .eql 220 (.pointer (some ⟨d, 0, none⟩)) (.pointer (some ⟨d, 0, none⟩))).run Tryz.prog w = .ok (.bool true) w := fun d => run_eql_ptr_same w _ Tryz.underlying220 hi67
  have eqo : Hid (∀ k p, ms[k]? = some p → d ≠ p → (binOp .eql 220 (.pointer (some ⟨d, 0, none⟩)) (.pointer (some ⟨p, 0, none⟩))).run Tryz.prog w = .ok (.bool false) w) := hide (fun k p hp hne => by
    obtain ⟨C, hC⟩ := hall d (List.mem_of_getElem? hd)
    obtain ⟨C', hC'⟩ := hall p (List.mem_of_getElem? hp)
    exact run_eql_ptr_other w Tryz.underlying220 hi67 hsz (fun e => hne (congrArg (fun a => a.block) e)) hC hC')
  clear hn hv hl hd hnd hall hi67 hs67 hsz
  go_enter Tryz.func191, Tryz.ntmps191
  go_wp2_with fail
  go_loopw [8] (fun v8 wr => ∃ k : Nat, wr = w ∧ v8 = .int .i64 k ∧ k ≤ i) (fun v8 _ => n - (intOf v8).toNat)
  case atStart => exact ⟨0, rfl, rfl, Nat.zero_le _⟩
  case round =>
    obtain ⟨k, rfl, rfl, hk⟩ := hrel
    have hlt : k < n := by omega
    obtain ⟨p, hp⟩ : ∃ p, ms[k]? = some p := ⟨_, List.getElem?_eq_getElem (by rw [Hn.out]; exact hlt)⟩
    obtain ⟨b, off, rfl, c0⟩ := ptr_at Hv.out k p hp
    have j0 : (0 : Int) ≤ (k : Int) := by omega
    have j1 : (k : Int) < (n : Int) := by omega
    have Hp := hide hp
    clear hp
    by_cases he : d = p
    · subst he
      have e1 := yes.out k Hp.out
      subst e1
      go_wp2_with fail
      go_ret
      exact ⟨rfl, rfl⟩
    · have hki : k < i := by
        rcases Nat.lt_or_ge k i with g | g
        · exact g
        · obtain rfl : k = i := by omega
          rw [Hd.out] at Hp
          exact absurd (Option.some.inj Hp.out) he
      have hbe := eqo.out k p Hp.out he
      go_wp2_with fail
      go_roundw
      case rel => exact ⟨k + 1, trivial, by go_num, by omega⟩
      case measure => simp [intOf]; omega
end Go.Proofs.YtocmngpoemfpkaaGreatDoor

namespace Go.Proofs.YtocmngpoemfpkaaGreatDoor
open Go.RowKit Go.Maps Go.ChangeMaps
set_option linter.unusedVariables false
def setT1 (x v : Int) (p : Nat × En) : Nat × En := if p.2.r.id = x then (p.1, ⟨p.2.r, v⟩) else p
theorem setT1_fst (x v : Int) (p : Nat × En) : (setT1 x v p).1 = p.1 := by unfold setT1; split <;> rfl
def setT (T : List (Nat × En)) (x v : Int) : List (Nat × En) := T.map (fun p => if p.2.r.id = x then (p.1, ⟨p.2.r, v⟩) else p)
theorem setT_all (T : List (Nat × En)) (x v : Int) : (setT T x v).map (·.2) = setE (T.map (·.2)) x v := by
  unfold setT setE
  rw [List.map_map, List.map_map]
  apply List.map_congr_left
  intro p _
  simp only [Function.comp]
  split <;> rfl
theorem setT_fst (T : List (Nat × En)) (x v : Int) : (setT T x v).map (·.1) = T.map (·.1) := by
  unfold setT
  rw [List.map_map]
  apply List.map_congr_left
  intro p _
  simp only [Function.comp]
  split <;> rfl
theorem setT_fn (T : List (Nat × En)) (x v y : Int) : fnT (setT T x v) y = (fnT T y).map (fun p => if p.2.r.id = x then (p.1, ⟨p.2.r, v⟩) else p) := by
  unfold fnT setT
  rw [List.find?_map]
  congr 2
  funext p
  simp only [Function.comp]
  split <;> rfl
theorem setT_kn (T : List (Nat × En)) (x v : Int) : kn (setT T x v) = kn T := by
  funext y
  unfold kn
  rw [setT_fn, Option.map_map]
  congr 1
  funext p
  simp only [Function.comp]
  split <;> rfl
theorem setT_at {T : List (Nat × En)} {x v : Int} {p : Nat × En} (h : fnT T x = some p) : fnT (setT T x v) x = some (p.1, ⟨p.2.r, v⟩) := by
  rw [setT_fn, h]
  have : p.2.r.id = x := by have := List.find?_some h; simpa using this
  simp [this]
theorem split_at {T : List (Nat × En)} {x : Int} {p : Nat × En} (hn : (T.map (·.2.r.id)).Nodup) (h : fnT T x = some p) : ∃ T1 T2, T = T1 ++ p :: T2 ∧ (∀ q ∈ T1, q.2.r.id ≠ x) ∧ (∀ q ∈ T2, q.2.r.id ≠ x) := by
  obtain ⟨T1, T2, rfl⟩ := List.append_of_mem (fnT_mem h)
  have hp : p.2.r.id = x := by have := List.find?_some h; simpa using this
  rw [List.map_append, List.map_cons, List.nodup_append] at hn
  obtain ⟨_, h2, h3⟩ := hn
  refine ⟨T1, T2, rfl, fun q hq e => ?_, fun q hq e => ?_⟩
  · exact h3 _ (List.mem_map.2 ⟨q, hq, rfl⟩) _ (List.mem_cons_self) (by rw [e, hp])
  · exact (List.nodup_cons.1 h2).1 (List.mem_map.2 ⟨q, hq, by rw [e, hp]⟩)
theorem setT_same {T : List (Nat × En)} {x v : Int} (h : ∀ q ∈ T, q.2.r.id ≠ x) : setT T x v = T := by
  unfold setT
  conv => rhs; rw [← List.map_id T]
  apply List.map_congr_left
  intro q hq
  rw [if_neg (h q hq)]; rfl
theorem setT_split {T1 T2 : List (Nat × En)} {p : Nat × En} {x v : Int} (hp : p.2.r.id = x) (h1 : ∀ q ∈ T1, q.2.r.id ≠ x) (h2 : ∀ q ∈ T2, q.2.r.id ≠ x) : setT (T1 ++ p :: T2) x v = T1 ++ (p.1, ⟨p.2.r, v⟩) :: T2 := by
  have e : setT (T1 ++ p :: T2) x v = setT T1 x v ++ (if p.2.r.id = x then (p.1, ⟨p.2.r, v⟩) else p) :: setT T2 x v := by simp [setT]
  rw [e, setT_same h1, setT_same h2, if_pos hp]
theorem opT_app (a b : List (Nat × En)) : opT (a ++ b) = opT a ++ opT b := by simp [opT]
theorem opT_cons (p : Nat × En) (b : List (Nat × En)) : opT (p :: b) = if p.2.en = 1 then p :: opT b else opT b := by
  unfold opT
  rw [List.filter_cons]
  by_cases h : p.2.en = 1 <;> simp [h]
theorem Lie.ids {T : List (Nat × En)} {S : Bk} (h : Lie T S) : (T.map (·.2.r.id)).Nodup := by
  have := h.1.nd
  rw [h.2.1, List.map_map] at this
  exact this
theorem Lie.set {T : List (Nat × En)} {S : Bk} (h : Lie T S) {x v : Int} (hv : v = 2 ∨ v = 3) (hx : S.sta x = 1) : Lie (setT T x v) ⟨setE S.all x v, S.done⟩ :=
  ⟨h.1.set hv hx _ (.inl rfl), by show setE S.all x v = _; rw [setT_all, h.2.1], by rw [setT_fst]; exact h.2.2⟩
theorem sv_set (S : Bk) (x v : Int) (s : Int) : S.sv s = Bk.sv ⟨setE S.all x v, S.done⟩ s := by
  unfold Bk.sv
  simp only [stn_set]
theorem cut_mid {α : Type} (A C : List α) (x : α) (n : Nat) (hn : n = A.length) : (A ++ x :: C).take n ++ (A ++ x :: C).drop (n + 1) = A ++ C := by
  subst hn
  simp
section
variable {w0 w : World} {g : Nat} {H : Hb} {S : Bk} {l : List It}
theorem fin_one (h : Its w0 (limbs w0.heap.size g H S ++ l) w) (hlie : Lie H.T S) {x v : Int} {p : Nat × En} (hT : fnT H.T x = some p) :
    Its w0 (.row ptrE w0.heap.size H.vo ((opT H.T).map (·.1)) :: .ents (setT H.T x v) :: .box g #[.map (some H.kb), H.vo, .map (some H.sb)] 226 :: .srv w0.heap.size H.sb S.done.length H.fs (Bk.sv ⟨setE S.all x v, S.done⟩) :: .mp H.kb (setE S.all x v).length (kn (setT H.T x v)) :: l) (w.setCell ⟨p.1, 3, none⟩ (.int .i64 v)) := by
  have hpx : p.2.r.id = x := by have := List.find?_some hT; simpa using this
  obtain ⟨T1, T2, eT, h1, h2⟩ := split_at hlie.ids hT
  have he : ∀ q ∈ H.T, w.heap[q.1]? = some (.cells (enC q.2) 229) := h.all (.ents H.T) (by simp [limbs])
  have hs := h.swap
  have hc := hs.chg (x' := .ents (setT H.T x v)) (w' := w.setCell ⟨p.1, 3, none⟩ (.int .i64 v)) (by
    intro q hq
    rw [eT, setT_split hpx h1 h2] at hq
    have hnd := hlie.2.2
    rw [eT, List.map_append, List.map_cons, List.nodup_append] at hnd
    have other : ∀ q ∈ H.T, q.1 ≠ p.1 → (w.setCell ⟨p.1, 3, none⟩ (.int .i64 v)).heap[q.1]? = some (.cells (enC q.2) 229) := fun q hq hne => by
      rw [Below.heap_setCell _ _ _ _ hne]; exact he q hq
    rcases List.mem_append.1 hq with hq | hq
    · exact other q (by rw [eT]; exact List.mem_append.2 (.inl hq)) (hnd.2.2 _ (List.mem_map.2 ⟨q, hq, rfl⟩) _ (List.mem_cons_self))
    · rcases List.mem_cons.1 hq with rfl | hq
      · show (w.setCell ⟨p.1, 3, none⟩ _).heap[p.1]? = _
        rw [heap_put (he p (fnT_mem hT))]; rfl
      · exact other q (by rw [eT]; exact List.mem_append.2 (.inr (List.mem_cons_of_mem _ hq))) (fun e => (List.nodup_cons.1 hnd.2.1).1 (List.mem_map.2 ⟨q, hq, e⟩)))
    (fun k hk => .inl (by
      obtain ⟨q, hq, rfl⟩ := hk
      have : q.1 ∈ (setT H.T x v).map (·.1) := List.mem_map.2 ⟨q, hq, rfl⟩
      rw [setT_fst] at this
      obtain ⟨q', hq', e⟩ := List.mem_map.1 this
      exact ⟨q', hq', e⟩))
    ((Frm.set w p.1 3 _).mono fun k _ e => ⟨p, fnT_mem hT, e.symm⟩)
  have e1 : Bk.sv ⟨setE S.all x v, S.done⟩ = S.sv := funext fun s => (sv_set S x v s).symm
  have e2 : (setE S.all x v).length = S.all.length := by simp [setE]
  rw [e1, e2, setT_kn]
  exact hc.swap
theorem fin_two {w1 w2 : World} {bs bs' : List Nat} {v' : Value} {y : It}
    (h : Its w0 (.row ptrE w0.heap.size H.vo bs :: y :: .box g #[.map (some H.kb), H.vo, .map (some H.sb)] 226 :: l) w1) (ho : ptrE.Own w2 w0.heap.size v' bs') (hg : w1.grownBy w2 H.vo.ownBlock) (hb : v'.ownBlock = H.vo.ownBlock ∨ v'.ownBlock = some w1.heap.size) :
    Its w0 (.row ptrE w0.heap.size v' bs' :: y :: .box g #[.map (some H.kb), v', .map (some H.sb)] 226 :: l) (w2.setCell ⟨g, 1, none⟩ v') ∧ w2.cell? ⟨g, 1, none⟩ = some H.vo ∧ ∀ i, w2.frozen? ⟨g, i, none⟩ = false := by
  have h1 := (h.grow ho hg hb).rot3
  have hbox : w2.heap[g]? = some (.cells #[.map (some H.kb), H.vo, .map (some H.sb)] 226) := h1.one
  refine ⟨?_, (cells_at hbox 1).1, fun i => (cells_at hbox i).2⟩
  refine (h1.chg (x' := .box g #[.map (some H.kb), v', .map (some H.sb)] 226) ?_ (fun k hk => .inl hk) (Frm.set w2 g 1 v')).rot3'
  show (w2.setCell ⟨g, 1, none⟩ v').heap[g]? = _
  rw [heap_put hbox]; rfl
set_option maxRecDepth 100000 in
set_option maxHeartbeats 2000000 in
theorem finish_any (h : Its w0 (.book w0.heap.size g H S :: l) w) {x v : Int} {p : Nat × En} (hT : fnT H.T x = some p) (hp : p.2.en = 1) (hv : v = 2 ∨ v = 3) :
    Calls Tryz.prog 144 #[.pointer (some ⟨g, 0, none⟩), .pointer (some ⟨p.1, 0, none⟩), .int .i64 v] w fun e w' => e = .returned (.tuple #[]) ∧ ∃ H', Its w0 (.book w0.heap.size g H' ⟨setE S.all x v, S.done⟩ :: l) w' ∧ fnT H'.T x = some (p.1, ⟨p.2.r, v⟩) := by
  obtain ⟨hb, hlie⟩ := h.bopen
  have hsta : S.sta x = 1 := by rw [Bk.sta_of (e := p.2) (by rw [hlie.fnd, hT]; rfl)]; exact hp
  have hpx : p.2.r.id = x := by have := List.find?_some hT; simpa using this
  have h1 := fin_one hb hlie (v := v) hT
  obtain ⟨T1, T2, eT, n1, n2⟩ := split_at hlie.ids hT
  have hfew : (opT H.T).length ≤ 1000 := by
    have := hlie.1.few
    rw [hlie.ops, List.length_map] at this
    omega
  obtain ⟨d0, d1, d2, d3, df⟩ := bk_ent h.one (fnT_mem hT)
  have hbox : (w.setCell ⟨p.1, 3, none⟩ (.int .i64 v)).heap[g]? = some (.cells #[.map (some H.kb), H.vo, .map (some H.sb)] 226) := h1.three
  have hrow := h1.one
  obtain ⟨a, c, ev⟩ := (bk_row h.one).rd.form
  have c1 : (w.setCell ⟨p.1, 3, none⟩ (.int .i64 v)).cell? ⟨g, 1, none⟩ = some H.vo := (cells_at hbox 1).1
  have ei : ((opT H.T).map (·.1))[(opT T1).length]? = some p.1 := by
    rw [eT, opT_app, opT_cons, if_pos hp, List.map_append, List.map_cons, List.getElem?_append_right (by simp)]
    simp
  have hnd : ((opT H.T).map (·.1)).Nodup := hlie.2.2.sublist (List.filter_sublist.map _)
  have hne1 : ¬ v = 1 := by rcases hv with rfl | rfl <;> decide
  have hcut : ((opT H.T).map (·.1)).take (opT T1).length ++ ((opT H.T).map (·.1)).drop ((opT T1).length + 1) = (opT (setT H.T x v)).map (·.1) := by
    rw [eT, setT_split hpx n1 n2, opT_app, opT_app, opT_cons, opT_cons, if_pos hp, if_neg hne1, List.map_append, List.map_append, List.map_cons]
    exact cut_mid _ _ _ _ (by simp)
  have hil : (opT T1).length < ((opT H.T).map (·.1)).length := idx_lt ei
  have hgp : g ≠ p.1 := fun e => by
    have h2 := bk_ents h.one p (fnT_mem hT)
    rw [← e, bk_box h.one] at h2
    simp at h2
  have c1' : w.cell? ⟨g, 1, none⟩ = some H.vo := (bk_cells h.one).2.1
  rw [ev] at c1 c1'
  have hr := hrow
  rw [ev] at hr
  have KI := hide (indexP_any a c _ _ p.1 (opT T1).length _ rfl (El.Own.rd hr) (by simp; omega) ei hnd (fun d hd => by
    obtain ⟨q, hq, rfl⟩ := List.mem_map.1 hd
    have hq' := h1.two (setT1 x v q) (List.mem_map.2 ⟨q, (List.mem_filter.1 hq).1, rfl⟩)
    rw [setT1_fst] at hq'
    exact ⟨_, hq'⟩))
  have KD := hide (delete_any hr (opT T1).length ((opT T1).length + 1) (by omega) (by omega) (by simp; omega))
  rw [hcut, show (((opT T1).length + 1 : Nat) : Int) = ((opT T1).length : Int) + 1 by omega] at KD
  have HR : Hid (∀ v' w2, ptrE.Own w2 w0.heap.size v' ((opT (setT H.T x v)).map (·.1)) → (w.setCell ⟨p.1, 3, none⟩ (.int .i64 v)).grownBy w2 H.vo.ownBlock → v'.ownBlock = H.vo.ownBlock → (∃ H', Its w0 (.book w0.heap.size g H' ⟨setE S.all x v, S.done⟩ :: l) (w2.setCell ⟨g, 1, none⟩ v') ∧ fnT H'.T x = some (p.1, ⟨p.2.r, v⟩)) ∧ w2.cell? ⟨g, 1, none⟩ = some H.vo ∧ ∀ i, w2.frozen? ⟨g, i, none⟩ = false) := hide (fun v' w2 ho hg hbk => by
    obtain ⟨k1, k2, k3⟩ := fin_two h1 ho hg (.inl hbk)
    exact ⟨⟨⟨H.kb, H.sb, v', H.fs, setT H.T x v⟩, Its.bshut (H := ⟨H.kb, H.sb, v', H.fs, setT H.T x v⟩) (S := ⟨setE S.all x v, S.done⟩) k1 (hlie.set hv hsta), setT_at hT⟩, k2, k3⟩)
  rw [ev] at HR
  obtain ⟨i, hiB⟩ : ∃ i, (opT T1).length = i := ⟨_, rfl⟩
  obtain ⟨n, hn⟩ : ∃ n, ((opT H.T).map (·.1)).length = n := ⟨_, rfl⟩
  rw [hn] at KI KD c1 c1' HR hil
  rw [hiB] at KI KD hil
  have hn1 : n ≤ 1000 := by rw [← hn]; simpa using hfew
  have j0 : (0 : Int) ≤ (i : Int) := by omega
  have j1 : (i : Int) ≤ 1000 := by omega
  have hpg : p.1 ≠ g := fun e => hgp e.symm
  obtain ⟨b, e⟩ := p
  simp only at *
  clear h hb hlie hsta hpx h1 eT n1 n2 hfew d0 d1 d2 hbox hrow ev ei hnd hcut hil hr hiB hn hn1 hT hp hv hne1
  go_enter Tryz.func144, Tryz.ntmps144
  go_upto_region 1 with fail
  generalize w.setCell ⟨b, 3, none⟩ (.int .i64 v) = W1 at *
  go_wp2_with (first
    | (go_at_call 191; refine KI.out.mono ?_; rintro e w1 ⟨rfl, rfl⟩)
    | (go_at_call 192; refine KD.out.mono ?_; rintro e w3 ⟨v3, rfl, L3, G3, O3⟩; obtain ⟨a3, n3, rfl⟩ := L3.rd.form; obtain ⟨t1, x4, x5⟩ := HR.out _ _ L3 G3 O3; have HT1 := hide t1; generalize (List.map (fun x => x.fst) (opT (setT H.T x v))).length = n4 at *; clear L3 G3 O3 t1))
  refine bodyPost_end (results_none rfl _ _ _) rfl ?_
  exact ⟨rfl, HT1.out⟩
end
end Go.Proofs.YtocmngpoemfpkaaGreatDoor

namespace Go.Proofs.YtocmngpoemfpkaaGreatDoor
open Go.RowKit Go.Maps Go.ChangeMaps
set_option linter.unusedVariables false
section
variable {w0 w : World} {g : Nat} {H : Hb} {S : Bk} {l : List It}
theorem lie_some {T : List (Nat × En)} (h : Lie T S) {x : Int} {p : Nat × En} (hT : fnT T x = some p) : fnd S.all x = some p.2 := by rw [h.fnd, hT]; rfl
theorem lie_none {T : List (Nat × En)} (h : Lie T S) {x : Int} (hT : fnT T x = none) : fnd S.all x = none := by rw [h.fnd, hT]; rfl
set_option maxRecDepth 100000 in
set_option maxHeartbeats 2000000 in
theorem cancel_any (h : Its w0 (.book w0.heap.size g H S :: l) w) {x : Int} (hx : I64 x) : Calls Tryz.prog 87 #[.pointer (some ⟨g, 0, none⟩), .int .i64 x] w fun e w' => e = .returned (.tuple #[.bool (S.caY x), .int .i64 (S.caC x)]) ∧ ∃ H', Its w0 (.book w0.heap.size g H' (S.ca x) :: l) w' := by
  have hlie := bk_lie h.one
  obtain ⟨c0, c1, c2, _⟩ := bk_cells h.one
  have hl := (bk_mp h.one).look hx
  have HI := hide h
  cases hT : fnT H.T x with
  | none =>
    have hf := lie_none hlie hT
    have e1 : S.caC x = 4 := by unfold Bk.caC; rw [hf]
    have e2 : S.caY x = false := by unfold Bk.caY Bk.sta; rw [hf]; rfl
    rw [Bk.ca_no e2, e1, e2]
    rw [kn_none hT] at hl
    simp only [Option.getD_none, Option.isSome_none] at hl
    clear h hf e1 e2 hT hlie hx
    go_enter Tryz.func87, Tryz.ntmps87
    go_wp2_with fail
    go_ret2
    exact ⟨rfl, _, HI.out⟩
  | some p =>
    have hf := lie_some hlie hT
    rw [kn_some hT] at hl
    simp only [Option.getD_some, Option.isSome_some] at hl
    obtain ⟨d0, d1, d2, d3, _⟩ := bk_ent h.one (fnT_mem hT)
    have hen := hlie.1.en p.2 (fnd_some hf).1
    have es : S.sta x = p.2.en := Bk.sta_of hf
    rcases hen with hen | hen | hen
    · have e1 : S.caC x = 0 := by unfold Bk.caC; rw [hf]; simp [hen]
      have e2 : S.caY x = true := by unfold Bk.caY; rw [es, hen]; rfl
      rw [Bk.ca_yes e2, e1, e2]
      have KF := hide (finish_any h hT hen (v := 3) (.inr rfl))
      rw [hen] at d3
      obtain ⟨b, e⟩ := p
      simp only at *
      clear h hf e1 e2 hT hlie hx hen es d0 d1 d2
      go_enter Tryz.func87, Tryz.ntmps87
      go_wp2_with (go_at_call 144; refine KF.out.mono ?_; rintro r w1 ⟨rfl, H1, h1, _⟩; have HI1 := hide h1; clear h1)
      go_ret2
      exact ⟨rfl, _, HI1.out⟩
    · have e1 : S.caC x = 140 := by unfold Bk.caC; rw [hf]; simp [hen]
      have e2 : S.caY x = false := by unfold Bk.caY; rw [es, hen]; rfl
      rw [Bk.ca_no e2, e1, e2]
      rw [hen] at d3
      obtain ⟨b, e⟩ := p
      simp only at *
      clear h hf e1 e2 hT hlie hx hen es d0 d1 d2
      go_enter Tryz.func87, Tryz.ntmps87
      go_wp2_with fail
      go_ret2
      exact ⟨rfl, _, HI.out⟩
    · have e1 : S.caC x = 0 := by unfold Bk.caC; rw [hf]; simp [hen]
      have e2 : S.caY x = false := by unfold Bk.caY; rw [es, hen]; rfl
      rw [Bk.ca_no e2, e1, e2]
      rw [hen] at d3
      obtain ⟨b, e⟩ := p
      simp only at *
      clear h hf e1 e2 hT hlie hx hen es d0 d1 d2
      go_enter Tryz.func87, Tryz.ntmps87
      go_wp2_with fail
      go_ret2
      exact ⟨rfl, _, HI.out⟩
end
theorem srv_app {w w1 : World} {B sb n : Nat} {fs : Int → Option Value} {sv : Int → List Int} (h : Srv w B sb n fs sv) (hBw : B ≤ w.heap.size) {s x : Int} {v' : Value} (ho : intE.Own w1 B v' (sv s ++ [x])) (hf : Frm (fun k => ((fs s).getD (.slice none 0 0)).ownBlock = some k) w w1)
    (hb : ∀ k, v'.ownBlock = some k → ((fs s).getD (.slice none 0 0)).ownBlock = some k ∨ w.heap.size ≤ k) (hs : I64 s) (hn : n ≤ 1000000) :
    ∃ w2, (Instr.mapUpdate 224 (.map (some sb)) (.int .i64 s) v').run Tryz.prog w1 = .ok () w2 ∧ Srv w2 B sb (n + 1) (fun y => if y = s then some v' else fs y) (fun y => if y = s then sv s ++ [x] else sv y) ∧ Frm (It.srv B sb n fs sv).f w w2 ∧
      ∀ k, (It.srv B sb (n + 1) (fun y => if y = s then some v' else fs y) (fun y => if y = s then sv s ++ [x] else sv y)).f k → (It.srv B sb n fs sv).f k ∨ w.heap.size ≤ k := by
  have own : ∀ k, ((fs s).getD (.slice none 0 0)).ownBlock = some k → ∃ v, fs s = some v ∧ v.ownBlock = some k := fun k hk => by
    cases q : fs s with
    | none => rw [q] at hk; cases hk
    | some v => rw [q] at hk; exact ⟨v, rfl, hk⟩
  have hsb : ((fs s).getD (.slice none 0 0)).ownBlock ≠ some sb := fun e => by
    obtain ⟨v, q, e⟩ := own _ e
    obtain ⟨cur, hc⟩ := own_type (h.row s v q) sb e
    exact h.mp.obj _ _ hc
  have hm1 : Mpi w1 sb n fs := h.mp.keep (hf.block sb h.mp.lt hsb)
  obtain ⟨w2, hr, hm2, hf2⟩ := hm1.put Tryz.underlying224 hs v' hn
  have hv1 : v'.ownBlock ≠ some sb := fun e => by
    obtain ⟨cur, hc⟩ := own_type ho sb e
    exact hm1.obj _ _ hc
  have stay : ∀ t u, t ≠ s → fs t = some u → ∀ k, u.ownBlock = some k → w2.heap[k]? = w.heap[k]? := fun t u ht hu k hk => by
    have k1 := (h.row t u hu).lt k hk
    have k2 : k ≠ sb := fun e => by
      subst e
      obtain ⟨cur, hc⟩ := own_type (h.row t u hu) k hk
      exact h.mp.obj _ _ hc
    rw [hf2.block k (Nat.lt_of_lt_of_le k1 hf.size) k2, hf.block k k1 (fun e => by
      obtain ⟨v, q, e⟩ := own _ e
      exact h.ap t s u v k ht hu q hk e)]
  refine ⟨w2, hr, ⟨hm2, ?_, ?_, ?_⟩, ?_, ?_⟩
  · intro t u hu
    by_cases e : t = s
    · subst e
      simp only [if_true] at hu ⊢
      cases hu
      exact own_stay ho fun k hk _ => hf2.block k (ho.lt k hk) (fun e => hv1 (e ▸ hk))
    · simp only [if_neg e] at hu ⊢
      exact own_stay (h.row t u hu) fun k hk _ => stay t u e hu k hk
  · intro t hu
    by_cases e : t = s
    · simp [e] at hu
    · simp only [if_neg e] at hu ⊢
      exact h.no t hu
  · intro t t' u u' k hne hu hu' hk hk'
    have keyI : ∀ t u, t ≠ s → fs t = some u → u.ownBlock = some k → v'.ownBlock = some k → False := fun t u ht hu h1 h2 => by
      rcases hb k h2 with q | q
      · obtain ⟨v, q1, q2⟩ := own _ q
        exact h.ap t s u v k ht hu q1 h1 q2
      · have := (h.row t u hu).lt k h1
        omega
    by_cases e : t = s
    · subst e
      simp only [if_true, if_neg hne.symm] at hu hu'
      cases hu
      exact keyI t' u' hne.symm hu' hk' hk
    · simp only [if_neg e] at hu
      by_cases e' : t' = s
      · simp only [if_pos e'] at hu'
        cases hu'
        exact keyI t u e hu hk hk'
      · simp only [if_neg e'] at hu'
        exact h.ap t t' u u' k hne hu hu' hk hk'
  · refine (hf.mono (f' := (It.srv B sb n fs sv).f) fun k _ e => .inr ?_).trans' hf2 (fun k _ e => .inl e)
    obtain ⟨v, q, e⟩ := own _ e
    exact ⟨s, v, q, e⟩
  · rintro k (e | ⟨t, u, hu, hk⟩)
    · exact .inl (.inl e)
    · by_cases e : t = s
      · simp only [if_pos e] at hu
        cases hu
        rcases hb k hk with q | q
        · obtain ⟨v, q1, q2⟩ := own _ q
          exact .inl (.inr ⟨s, v, q1, q2⟩)
        · exact .inr q
      · simp only [if_neg e] at hu
        exact .inl (.inr ⟨t, u, hu, hk⟩)
theorem sv_se {S : Bk} {x : Int} {e : En} (h : fnd S.all x = some e) (s : Int) : Bk.sv ⟨setE S.all x 2, S.done ++ [x]⟩ s = if s = e.r.st then Bk.sv ⟨setE S.all x 2, S.done⟩ e.r.st ++ [x] else Bk.sv ⟨setE S.all x 2, S.done⟩ s := by
  have e1 : stn S.all x = e.r.st := by unfold stn; rw [h]
  unfold Bk.sv
  simp only [stn_set]
  rw [List.filter_append, List.filter_cons, e1]
  by_cases q : s = e.r.st
  · subst q; simp
  · have : (e.r.st == s) = false := beq_eq_false_iff_ne.2 (fun h => q h.symm)
    simp [q, this]
end Go.Proofs.YtocmngpoemfpkaaGreatDoor

namespace Go.Proofs.YtocmngpoemfpkaaGreatDoor
open Go.RowKit Go.Maps Go.ChangeMaps
set_option linter.unusedVariables false
section
variable {w0 w : World} {g : Nat} {H : Hb} {S : Bk} {l : List It}
theorem serve_end {W w1 : World} {x : Int} {e : En} {v' : Value} (h : Its w0 (.book w0.heap.size g H ⟨setE S.all x 2, S.done⟩ :: l) W) (hok : Bk.Ok ⟨setE S.all x 2, S.done ++ [x]⟩) (hf : fnd S.all x = some e) (hd : S.done.length ≤ 1000000) (hiB : I64 e.r.st)
    (ho : intE.Own w1 w0.heap.size v' (Bk.sv ⟨setE S.all x 2, S.done⟩ e.r.st ++ [x])) (hfr : Frm (fun k => ((H.fs e.r.st).getD (.slice none 0 0)).ownBlock = some k) W w1)
    (hb : ∀ k, v'.ownBlock = some k → ((H.fs e.r.st).getD (.slice none 0 0)).ownBlock = some k ∨ W.heap.size ≤ k) :
    ∃ w2, (Instr.mapUpdate 224 (.map (some H.sb)) (.int .i64 e.r.st) v').run Tryz.prog w1 = .ok () w2 ∧ ∃ H', Its w0 (.book w0.heap.size g H' ⟨setE S.all x 2, S.done ++ [x]⟩ :: l) w2 := by
  obtain ⟨hl, hlie⟩ := h.bopen
  obtain ⟨w2, h1, h2, h3, h4⟩ := srv_app (bk_srv h.one) h.size ho hfr hb hiB hd
  refine ⟨w2, h1, ⟨H.kb, H.sb, H.vo, fun y => if y = e.r.st then some v' else H.fs y, H.T⟩, ?_⟩
  have h5 := (hl.rot4.chg (x' := .srv w0.heap.size H.sb (S.done.length + 1) (fun y => if y = e.r.st then some v' else H.fs y) (fun y => if y = e.r.st then Bk.sv ⟨setE S.all x 2, S.done⟩ e.r.st ++ [x] else Bk.sv ⟨setE S.all x 2, S.done⟩ y)) h2 h4 h3).rot4'
  have e1 : (fun y => if y = e.r.st then Bk.sv ⟨setE S.all x 2, S.done⟩ e.r.st ++ [x] else Bk.sv ⟨setE S.all x 2, S.done⟩ y) = Bk.sv ⟨setE S.all x 2, S.done ++ [x]⟩ := funext fun y => (sv_se hf y).symm
  have e2 : S.done.length + 1 = (S.done ++ [x]).length := by simp
  rw [e1, e2] at h5
  exact Its.bshut (H := ⟨H.kb, H.sb, H.vo, fun y => if y = e.r.st then some v' else H.fs y, H.T⟩) (S := ⟨setE S.all x 2, S.done ++ [x]⟩) h5 ⟨hok, hlie.2.1, hlie.2.2⟩
theorem fst_some {x : Int} {e : En} (hf : fnd S.all x = some e) (he : e.en = 1) : ∃ r, fst S.all e.r.st = some r ∧ r.st = e.r.st := by
  have hm : e.r ∈ ops S.all := ops_mem.2 ⟨e, (fnd_some hf).1, he, rfl⟩
  cases q : fst S.all e.r.st with
  | none => exact absurd (List.find?_eq_none.1 q e.r hm) (by simp)
  | some r => exact ⟨r, rfl, by have := List.find?_some q; simpa using this⟩
set_option maxRecDepth 100000 in
set_option maxHeartbeats 4000000 in
theorem serve_any (h : Its w0 (.book w0.heap.size g H S :: l) w) {x : Int} (hx : I64 x) (hd : S.done.length ≤ 10000) : Calls Tryz.prog 171 #[.pointer (some ⟨g, 0, none⟩), .int .i64 x] w fun e w' => e = .returned (.int .i64 (S.seC x)) ∧ ∃ H', Its w0 (.book w0.heap.size g H' (S.se x) :: l) w' := by
  have hlie := bk_lie h.one
  obtain ⟨c0, c1, c2, _⟩ := bk_cells h.one
  have hl := (bk_mp h.one).look hx
  have HI := hide h
  cases hT : fnT H.T x with
  | none =>
    have hf := lie_none hlie hT
    have e1 : S.seC x = 4 := by unfold Bk.seC; rw [hf]
    rw [Bk.se_no (by rw [e1]; decide), e1]
    rw [kn_none hT] at hl
    simp only [Option.getD_none, Option.isSome_none] at hl
    clear h hf e1 hT hlie hx
    go_enter Tryz.func171, Tryz.ntmps171
    go_wp2_with fail
    go_ret
    exact ⟨rfl, _, HI.out⟩
  | some p =>
    have hf := lie_some hlie hT
    rw [kn_some hT] at hl
    simp only [Option.getD_some, Option.isSome_some] at hl
    obtain ⟨d0, d1, d2, d3, _⟩ := bk_ent h.one (fnT_mem hT)
    by_cases hen : p.2.en = 1
    · obtain ⟨r0, hr0, hst⟩ := fst_some hf hen
      have K1 := hide (firstB_any h.one p.2.r.st)
      rw [hr0] at K1
      have hheap := bk_ents h.one p (fnT_mem hT)
      have hseC : S.seC x = if r0 = p.2.r then 0 else 110 := by
        unfold Bk.seC
        rw [hf]
        simp only [if_pos hen, hr0, Option.some.injEq]
      have HC : Hid (∀ W, Below w.heap.size w W → (∀ o q, (((W.alloc o).drewN q).heap[p.1]? = some (.cells (enC p.2) 229))) ∧ ∀ o q, Its w0 (.book w0.heap.size g H S :: l) ((W.alloc o).drewN q)) := hide (fun W hb => by
        have hx2 : Its w0 (.book w0.heap.size g H S :: l) W := h.keep hb
        exact ⟨fun o q => bk_ents ((hx2.alloc o).drew q).one p (fnT_mem hT), fun o q => (hx2.alloc o).drew q⟩)
      rw [hen] at d3
      by_cases hr : r0 = p.2.r
      · rw [if_pos hr] at hseC
        rw [Bk.se_yes hseC, hseC]
        have hok : Bk.Ok ⟨setE S.all x 2, S.done ++ [x]⟩ := hlie.1.set (.inl rfl) (by rw [Bk.sta_of hf]; exact hen) _ (.inr ⟨rfl, rfl⟩)
        have hiB : I64 p.2.r.st := by
          obtain ⟨⟨q1, q2, _⟩, _⟩ := hlie.1.rg p.2 (fnd_some hf).1
          unfold I64; omega
        have KF : Hid (∀ W, Its w0 (.book w0.heap.size g H S :: l) W → Calls Tryz.prog 144 #[.pointer (some ⟨g, 0, none⟩), .pointer (some ⟨p.1, 0, none⟩), .int .i64 2] W fun e w' => e = .returned (.tuple #[]) ∧ ∃ H', Its w0 (.book w0.heap.size g H' ⟨setE S.all x 2, S.done⟩ :: l) w' ∧ fnT H'.T x = some (p.1, ⟨p.2.r, 2⟩)) := hide (fun W hW => finish_any hW hT hen (v := 2) (.inl rfl))
        have HE : Hid (∀ (H : Hb) (W w1 : World) (v' : Value), Its w0 (.book w0.heap.size g H ⟨setE S.all x 2, S.done⟩ :: l) W → intE.Own w1 w0.heap.size v' (Bk.sv ⟨setE S.all x 2, S.done⟩ p.2.r.st ++ [x]) → Frm (fun k => ((H.fs p.2.r.st).getD (.slice none 0 0)).ownBlock = some k) W w1 → (∀ k, v'.ownBlock = some k → ((H.fs p.2.r.st).getD (.slice none 0 0)).ownBlock = some k ∨ W.heap.size ≤ k) →
            ∃ w2, (Instr.mapUpdate 224 (.map (some H.sb)) (.int .i64 p.2.r.st) v').run Tryz.prog w1 = .ok () w2 ∧ ∃ H', Its w0 (.book w0.heap.size g H' ⟨setE S.all x 2, S.done ++ [x]⟩ :: l) w2) := hide (fun H W w1 v' hI ho hfr hb => serve_end hI hok hf (by omega) hiB ho hfr hb)
        have HN : Hid ((Bk.sv ⟨setE S.all x 2, S.done⟩ p.2.r.st).length + [x].length ≤ 1000000) := hide (by
          have : (Bk.sv ⟨setE S.all x 2, S.done⟩ p.2.r.st).length ≤ S.done.length := List.length_filter_le _ _
          simp only [List.length_cons, List.length_nil]; omega)
        have Hi := hide hiB
        obtain ⟨b, ⟨⟨i, s, t⟩, en⟩⟩ := p
        subst hr
        simp only at *
        have heq := fun W => rq_equal W (⟨i, s, t⟩ : Rq) ⟨i, s, t⟩
        simp only [decide_true] at heq
        simp only [rqV, Option.isSome_some] at K1
        clear h hlie hx hd hf hseC hT hen hr0 hst hheap hok hiB
        go_enter Tryz.func171, Tryz.ntmps171
        go_upto_region 7 with (go_at_call 204; refine K1.out.mono ?_; rintro e w1 ⟨rfl, hb⟩; have HB1 := hide hb; clear hb)
        generalize hO : w1.alloc (.cells #[.int .i64 i, .int .i64 s, .int .i64 t] 57) = W2 at *
        have HO := hide hO
        have HT2 : Hid (∀ q, (W2.drewN q).heap[b]? = some (.cells #[.int .i64 i, .int .i64 s, .int .i64 t, .int .i64 en] 229)) := hide (fun q => by rw [← HO.out]; exact (HC.out w1 HB1.out).1 _ q)
        have HI2 : Hid (∀ q, Its w0 (.book w0.heap.size g H S :: l) (W2.drewN q)) := hide (fun q => by rw [← HO.out]; exact (HC.out w1 HB1.out).2 _ q)
        have hx2 : W2.heap[w1.heap.size]? = some (.cells #[.int .i64 i, .int .i64 s, .int .i64 t] 57) := by rw [← hO]; exact heap_new _ _
        obtain ⟨x0, _⟩ := cells_at hx2 0
        obtain ⟨x1, _⟩ := cells_at hx2 1
        obtain ⟨x2, _⟩ := cells_at hx2 2
        have x0 : W2.cell? ⟨w1.heap.size, 0, none⟩ = some (.int .i64 i) := (cells_at hx2 0).1
        have x1 : W2.cell? ⟨w1.heap.size, 1, none⟩ = some (.int .i64 s) := (cells_at hx2 1).1
        have x2 : W2.cell? ⟨w1.heap.size, 2, none⟩ = some (.int .i64 t) := (cells_at hx2 2).1
        have y0 : W2.cell? ⟨b, 0, none⟩ = some (.int .i64 i) := (cells_at (HT2.out 0) 0).1
        have y1 : W2.cell? ⟨b, 1, none⟩ = some (.int .i64 s) := (cells_at (HT2.out 0) 1).1
        have y2 : W2.cell? ⟨b, 2, none⟩ = some (.int .i64 t) := (cells_at (HT2.out 0) 2).1
        clear hx2 hO c0 c1 c2 d0 d1 d2 d3 hl
        go_quiet (fail)
        go_upto_region 10 with (go_at_call 144; refine (KF.out _ (HI2.out _)).mono ?_; rintro e w3 ⟨rfl, H3, h3, hT3⟩; have HI3 := hide h3; have HT3 := hide hT3; clear h3 hT3)
        obtain ⟨v3, hv3⟩ : ∃ v3, (H3.fs s).getD (.slice none 0 0) = v3 := ⟨_, rfl⟩
        have HV3 := hide hv3
        have hsrv := bk_srv HI3.out.one
        have HV : Hid (intE.Own w3 w0.heap.size v3 (Bk.sv ⟨setE S.all x 2, S.done⟩ s)) := hide (by
          rw [← hv3]
          cases q : H3.fs s with
          | none => rw [hsrv.no s q]; exact El.Own.nil _ _ _
          | some u => exact hsrv.row s u q)
        obtain ⟨SS, hSS⟩ : ∃ SS : World → Prop, SS = fun W => W.heap[g]? = w3.heap[g]? ∧ W.heap[b]? = w3.heap[b]? ∧ W.heap[H3.sb]? = w3.heap[H3.sb]? := ⟨_, rfl⟩
        have hgb : w3.heap[g]? = some (.cells #[.map (some H3.kb), H3.vo, .map (some H3.sb)] 226) := bk_box HI3.out.one
        have hbb : w3.heap[b]? = some (.cells #[.int .i64 i, .int .i64 s, .int .i64 t, .int .i64 2] 229) := bk_ents HI3.out.one _ (fnT_mem HT3.out)
        have s1 : ∀ W, SS W → W.cell? ⟨g, 2, none⟩ = some (.map (some H3.sb)) := fun W hW => by
          rw [hSS] at hW
          exact (cells_at (hW.1.trans hgb) 2).1
        have s2 : ∀ W, SS W → W.cell? ⟨b, 1, none⟩ = some (.int .i64 s) := fun W hW => by
          rw [hSS] at hW
          exact (cells_at (hW.2.1.trans hbb) 1).1
        have s3 : ∀ W, SS W → (Instr.lookup 224 (.map (some H3.sb)) (.int .i64 s) false).run Tryz.prog W = .ok v3 W := fun W hW => by
          rw [hSS] at hW
          rw [← hv3]
          exact (hsrv.mp.keep hW.2.2).look59 Hi.out
        have hS0 : SS w3.drew := by rw [hSS]; exact ⟨rfl, rfl, rfl⟩
        have hS1 : SS (w3.drew.alloc (.cells #[.int .i64 x] 3)) := by
          have hb := below_new w3.drew (.cells #[.int .i64 x] 3)
          rw [hSS]
          exact ⟨hb.block g (heap_lt hgb), hb.block b (heap_lt hbb), hb.block _ hsrv.mp.lt⟩
        have hno : v3.ownBlock ≠ some g ∧ v3.ownBlock ≠ some b ∧ v3.ownBlock ≠ some H3.sb := ⟨zown_ne HV.out hgb (by decide), zown_ne HV.out hbb (by decide), fun e => by
          obtain ⟨cur, hc⟩ := own_type HV.out _ e
          exact hsrv.mp.obj _ _ hc⟩
        have HS2 : Hid (∀ W, (w3.drew.alloc (.cells #[.int .i64 x] 3)).grownBy W v3.ownBlock → SS W) := hide (fun W hg => by
          have hS1' := hS1
          rw [hSS] at hS1' ⊢
          have hsz : (w3.drew.alloc (.cells #[.int .i64 x] 3)).heap.size = w3.heap.size + 1 := by simp
          exact ⟨(hg.block g (by rw [hsz]; have := heap_lt hgb; omega) (fun e => hno.1 e.symm)).trans hS1'.1, (hg.block b (by rw [hsz]; have := heap_lt hbb; omega) (fun e => hno.2.1 e.symm)).trans hS1'.2.1, (hg.block _ (by rw [hsz]; have := hsrv.mp.lt; omega) (fun e => hno.2.2 e.symm)).trans hS1'.2.2⟩)
        have HB4 : Hid (Below w0.heap.size w0 (w3.drew.alloc (.cells #[.int .i64 x] 3))) := hide ((HI3.out.drew 1).alloc _).bel
        have HV4 : Hid (intE.Own (w3.drew.alloc (.cells #[.int .i64 x] 3)) w0.heap.size v3 (Bk.sv ⟨setE S.all x 2, S.done⟩ s)) := hide (own_stay HV.out fun k hk _ => (below_new w3.drew _).block k (HV.out.lt k hk))
        have HR4 : Hid (intE.Rd (w3.drew.alloc (.cells #[.int .i64 x] 3)) (.slice (some ⟨w3.heap.size, 0, none⟩) 1 1) [x]) := hide (int_new w3.drew x _ rfl)
        have HEE : Hid (∀ v' W, intE.Own W w0.heap.size v' (Bk.sv ⟨setE S.all x 2, S.done⟩ s ++ [x]) → (w3.drew.alloc (.cells #[.int .i64 x] 3)).grownBy W v3.ownBlock → (v'.ownBlock = v3.ownBlock ∨ v'.ownBlock = some (w3.drew.alloc (.cells #[.int .i64 x] 3)).heap.size) → ∃ w2, (Instr.mapUpdate 224 (.map (some H3.sb)) (.int .i64 s) v').run Tryz.prog W = .ok () w2 ∧ ∃ H', Its w0 (.book w0.heap.size g H' ⟨setE S.all x 2, S.done ++ [x]⟩ :: l) w2) := hide (fun v' W ho hg hb => by
          refine HE.out H3 w3 W v' HI3.out ho ?_ ?_
          · rw [HV3.out]
            exact (Frm.of_below (f := fun k => v3.ownBlock = some k) ((below_drew w3 1).alloc (Nat.le_refl _) (.cells #[.int .i64 x] 3))).trans (Frm.of_grown hg)
          · rw [HV3.out]
            intro k hk
            rcases hb with q | q
            · exact .inl (q ▸ hk)
            · rw [q] at hk
              cases hk
              exact .inr (by simp))
        clear hsrv hgb hbb hno hv3 hSS HI2 HT2 HI3 HT3 HO HB1 x0 x1 x2 y0 y1 y2
        refine wp_region_E SS 22 (by kernel_rfl) ?_
        refine wpAnyE_take (i := 0) (v := .pointer (some ⟨g, 0, none⟩)) rfl (by kernel_rfl) (by kernel_rfl) (by kernel_rfl) (by kernel_rfl) (fun _ _ _ h => h) (Or.inl ⟨by rfl, fun W' hW => by go_simp⟩) hS0 ?_
        refine wpAnyE_take (i := 1) (v := .pointer (some ⟨g, 0, none⟩)) rfl (by kernel_rfl) (by kernel_rfl) (by kernel_rfl) (by kernel_rfl) (fun _ _ _ h => h) (Or.inl ⟨by rfl, fun W' hW => by go_simp⟩) hS0 ?_
        refine wpAnyE_take (i := 2) (v := .pointer (some ⟨g, 2, none⟩)) rfl (by kernel_rfl) (by kernel_rfl) (by kernel_rfl) (by kernel_rfl) (fun _ _ _ h => h) (Or.inl ⟨by rfl, fun W' hW => by go_simp⟩) hS0 ?_
        refine wpAnyE_take (i := 3) (v := .map (some H3.sb)) rfl (by kernel_rfl) (by kernel_rfl) (by kernel_rfl) (by kernel_rfl) (fun _ _ _ h => h) (Or.inl ⟨by rfl, fun W' hW => by have z0 := s1 W' hW; go_simp⟩) hS0 ?_
        refine wpAnyE_take (i := 4) (v := .pointer (some ⟨b, 0, none⟩)) rfl (by kernel_rfl) (by kernel_rfl) (by kernel_rfl) (by kernel_rfl) (fun _ _ _ h => h) (Or.inl ⟨by rfl, fun W' hW => by go_simp⟩) hS0 ?_
        refine wpAnyE_take (i := 5) (v := .pointer (some ⟨b, 0, none⟩)) rfl (by kernel_rfl) (by kernel_rfl) (by kernel_rfl) (by kernel_rfl) (fun _ _ _ h => h) (Or.inl ⟨by rfl, fun W' hW => by go_simp⟩) hS0 ?_
        refine wpAnyE_take (i := 6) (v := .pointer (some ⟨b, 0, none⟩)) rfl (by kernel_rfl) (by kernel_rfl) (by kernel_rfl) (by kernel_rfl) (fun _ _ _ h => h) (Or.inl ⟨by rfl, fun W' hW => by go_simp⟩) hS0 ?_
        refine wpAnyE_take (i := 7) (v := .pointer (some ⟨b, 1, none⟩)) rfl (by kernel_rfl) (by kernel_rfl) (by kernel_rfl) (by kernel_rfl) (fun _ _ _ h => h) (Or.inl ⟨by rfl, fun W' hW => by go_simp⟩) hS0 ?_
        refine wpAnyE_take (i := 8) (v := .int .i64 s) rfl (by kernel_rfl) (by kernel_rfl) (by kernel_rfl) (by kernel_rfl) (fun _ _ _ h => h) (Or.inl ⟨by rfl, fun W' hW => by have z0 := s2 W' hW; go_simp⟩) hS0 ?_
        refine wpAnyE_take (i := 9) (v := .pointer (some ⟨g, 0, none⟩)) rfl (by kernel_rfl) (by kernel_rfl) (by kernel_rfl) (by kernel_rfl) (fun _ _ _ h => h) (Or.inl ⟨by rfl, fun W' hW => by go_simp⟩) hS0 ?_
        refine wpAnyE_take (i := 10) (v := .pointer (some ⟨g, 0, none⟩)) rfl (by kernel_rfl) (by kernel_rfl) (by kernel_rfl) (by kernel_rfl) (fun _ _ _ h => h) (Or.inl ⟨by rfl, fun W' hW => by go_simp⟩) hS0 ?_
        refine wpAnyE_take (i := 11) (v := .pointer (some ⟨g, 2, none⟩)) rfl (by kernel_rfl) (by kernel_rfl) (by kernel_rfl) (by kernel_rfl) (fun _ _ _ h => h) (Or.inl ⟨by rfl, fun W' hW => by go_simp⟩) hS0 ?_
        refine wpAnyE_take (i := 12) (v := .map (some H3.sb)) rfl (by kernel_rfl) (by kernel_rfl) (by kernel_rfl) (by kernel_rfl) (fun _ _ _ h => h) (Or.inl ⟨by rfl, fun W' hW => by have z0 := s1 W' hW; go_simp⟩) hS0 ?_
        refine wpAnyE_take (i := 13) (v := .pointer (some ⟨b, 0, none⟩)) rfl (by kernel_rfl) (by kernel_rfl) (by kernel_rfl) (by kernel_rfl) (fun _ _ _ h => h) (Or.inl ⟨by rfl, fun W' hW => by go_simp⟩) hS0 ?_
        refine wpAnyE_take (i := 14) (v := .pointer (some ⟨b, 0, none⟩)) rfl (by kernel_rfl) (by kernel_rfl) (by kernel_rfl) (by kernel_rfl) (fun _ _ _ h => h) (Or.inl ⟨by rfl, fun W' hW => by go_simp⟩) hS0 ?_
        refine wpAnyE_take (i := 15) (v := .pointer (some ⟨b, 0, none⟩)) rfl (by kernel_rfl) (by kernel_rfl) (by kernel_rfl) (by kernel_rfl) (fun _ _ _ h => h) (Or.inl ⟨by rfl, fun W' hW => by go_simp⟩) hS0 ?_
        refine wpAnyE_take (i := 16) (v := .pointer (some ⟨b, 1, none⟩)) rfl (by kernel_rfl) (by kernel_rfl) (by kernel_rfl) (by kernel_rfl) (fun _ _ _ h => h) (Or.inl ⟨by rfl, fun W' hW => by go_simp⟩) hS0 ?_
        refine wpAnyE_take (i := 17) (v := .int .i64 s) rfl (by kernel_rfl) (by kernel_rfl) (by kernel_rfl) (by kernel_rfl) (fun _ _ _ h => h) (Or.inl ⟨by rfl, fun W' hW => by have z0 := s2 W' hW; go_simp⟩) hS0 ?_
        refine wpAnyE_take (i := 18) (v := v3) rfl (by kernel_rfl) (by kernel_rfl) (by kernel_rfl) (by kernel_rfl) (fun _ _ _ h => h) (Or.inl ⟨by rfl, fun W' hW => by have z0 := s3 W' hW; go_simp⟩) hS0 ?_
        refine wpAnyE_take (i := 19) (v := .int .i64 x) rfl (by kernel_rfl) (by kernel_rfl) (by kernel_rfl) (by kernel_rfl) (fun _ _ _ h => h) (Or.inl ⟨by rfl, fun W' hW => by go_simp⟩) hS0 ?_
        refine wpAnyE_ready (rs := [20]) (by kernel_rfl) (by simp) ?_
        refine AllReadyE.cons rfl (fun K hK => ?_) AllReadyE.nil
        go_simp
        refine hK.out _ _ (fun _ => hS1) ?_
        clear hK K
        refine wpAnyE_ready (rs := [21]) (by kernel_rfl) (by simp) ?_
        refine AllReadyE.cons rfl (fun K hK => ?_) AllReadyE.nil
        refine intE.step (w0 := w0) HB4.out rfl _ _ rfl _ _ rfl rfl _ [x] HV4.out HR4.out HN.out ?_
        intro v5 W5 ho5 hg5 hs5 hb5
        obtain ⟨W6, hput, H6, h6⟩ := HEE.out v5 W5 ho5 hg5 hs5
        have hS5 := HS2.out W5 hg5
        have HI6 := hide h6
        refine hK.out _ _ (fun _ => hS5) ?_
        clear hK K ho5 hg5 hs5 hb5 h6 HE HEE
        refine wpAnyE_ready (rs := [22]) (by kernel_rfl) (by simp) ?_
        refine AllReadyE.cons rfl (fun K hK => ?_) AllReadyE.nil
        go_simp
        refine hK.out _ _ (fun h => absurd rfl h) ?_
        clear hK K
        refine wpAnyE_done (by kernel_rfl) ?_ _
        go_wp2_with fail
        go_ret
        exact ⟨rfl, _, HI6.out⟩
      · rw [if_neg hr] at hseC
        rw [Bk.se_no (by rw [hseC]; decide), hseC]
        obtain ⟨b, ⟨⟨i, s, t⟩, en⟩⟩ := p
        obtain ⟨i', s', t'⟩ := r0
        simp only at *
        have heq := fun W => rq_equal W (⟨i', s', t'⟩ : Rq) ⟨i, s, t⟩
        rw [decide_eq_false hr] at heq
        simp only [rqV, Option.isSome_some] at K1
        clear h hlie hx hd hf hseC hT hen hr0 hst hheap hr
        go_enter Tryz.func171, Tryz.ntmps171
        go_upto_region 7 with (go_at_call 204; refine K1.out.mono ?_; rintro e w1 ⟨rfl, hb⟩; have HB1 := hide hb; clear hb)
        generalize hO : w1.alloc (.cells #[.int .i64 i', .int .i64 s', .int .i64 t'] 57) = W2 at *
        have HO := hide hO
        have HT2 : Hid (∀ q, (W2.drewN q).heap[b]? = some (.cells #[.int .i64 i, .int .i64 s, .int .i64 t, .int .i64 en] 229)) := hide (fun q => by rw [← HO.out]; exact (HC.out w1 HB1.out).1 _ q)
        have HI2 : Hid (∀ q, Its w0 (.book w0.heap.size g H S :: l) (W2.drewN q)) := hide (fun q => by rw [← HO.out]; exact (HC.out w1 HB1.out).2 _ q)
        have hx2 : W2.heap[w1.heap.size]? = some (.cells #[.int .i64 i', .int .i64 s', .int .i64 t'] 57) := by rw [← hO]; exact heap_new _ _
        have x0 : W2.cell? ⟨w1.heap.size, 0, none⟩ = some (.int .i64 i') := (cells_at hx2 0).1
        have x1 : W2.cell? ⟨w1.heap.size, 1, none⟩ = some (.int .i64 s') := (cells_at hx2 1).1
        have x2 : W2.cell? ⟨w1.heap.size, 2, none⟩ = some (.int .i64 t') := (cells_at hx2 2).1
        have y0 : W2.cell? ⟨b, 0, none⟩ = some (.int .i64 i) := (cells_at (HT2.out 0) 0).1
        have y1 : W2.cell? ⟨b, 1, none⟩ = some (.int .i64 s) := (cells_at (HT2.out 0) 1).1
        have y2 : W2.cell? ⟨b, 2, none⟩ = some (.int .i64 t) := (cells_at (HT2.out 0) 2).1
        clear hx2 hO c0 c1 c2 d0 d1 d2 d3 hl
        go_quiet (fail)
        go_wp2_with fail
        go_ret
        exact ⟨rfl, _, HI2.out _⟩
    · have e1 : S.seC x = 140 := by unfold Bk.seC; rw [hf]; simp [hen]
      rw [Bk.se_no (by rw [e1]; decide), e1]
      obtain ⟨b, e⟩ := p
      simp only at *
      have hbe : (e.en != 1) = true := bne_iff_ne.2 hen
      clear h hf e1 hT hlie hx d0 d1 d2 hen
      go_enter Tryz.func171, Tryz.ntmps171
      go_wp2_with fail
      go_ret
      exact ⟨rfl, _, HI.out⟩
end
end Go.Proofs.YtocmngpoemfpkaaGreatDoor
