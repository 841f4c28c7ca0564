/- New, State, first with both closures, request, First, Wanted. -/
import Derived.Test.YtfmpipihjnpimaaBka
namespace Go.Proofs.Ytfmpipihjnpimaa
open Go.RowKit Go.Maps Go.ChangeMaps
set_option linter.unusedVariables false

theorem It.dr (x : It) {w : World} (h : x.P w) (q : Nat) : x.P (w.drewN q) := x.st h fun _ _ => rfl
theorem It.kept (x : It) {w w' : World} (h : x.P w) (hb : Below w.heap.size w w') : x.P w' := x.st h fun k hk => hb.block k (x.lt h k hk)

theorem new_its (w0 w : World) (l : List It) (h : Its w0 l w) : Its w0 (.book w0.heap.size (w.heap.size + 2) ⟨w.heap.size, w.heap.size + 1, .slice none 0 0, fun _ => none, []⟩ Bk.new :: l) (((w.alloc (.map #[] 0)).alloc (.map #[] 0)).alloc (.cells #[.map (some w.heap.size), .slice none 0 0, .map (some (w.heap.size + 1))] 62)) := by
  have h2 : Its w0 (.mp w.heap.size 0 (kn []) :: l) (w.alloc (.map #[] 0)) := h.new (x := .mp w.heap.size 0 (kn [])) (Mp.made w) (fun k hk => by cases hk; exact Nat.le_refl _) (below_new _ _)
  have e1 : (w.alloc (.map #[] 0)).heap.size = w.heap.size + 1 := by simp
  have h3 : Its w0 (.srv w0.heap.size (w.heap.size + 1) 0 (fun _ => none) Bk.new.sv :: .mp w.heap.size 0 (kn []) :: l) ((w.alloc (.map #[] 0)).alloc (.map #[] 0)) := by
    refine h2.new (x := .srv w0.heap.size (w.heap.size + 1) 0 (fun _ => none) Bk.new.sv) ⟨?_, fun s v q => absurd q (by simp), fun s _ => rfl, fun s t v u k _ q => absurd q (by simp)⟩ (fun k hk => ?_) (below_new _ _)
    · rw [← e1]; exact Mp.made _
    · rcases hk with rfl | ⟨s, v, q, _⟩
      · omega
      · cases q
  have e2 : ((w.alloc (.map #[] 0)).alloc (.map #[] 0)).heap.size = w.heap.size + 2 := by simp
  have h4 : Its w0 (.box (w.heap.size + 2) #[.map (some w.heap.size), .slice none 0 0, .map (some (w.heap.size + 1))] 62 :: .srv w0.heap.size (w.heap.size + 1) 0 (fun _ => none) Bk.new.sv :: .mp w.heap.size 0 (kn []) :: l) (((w.alloc (.map #[] 0)).alloc (.map #[] 0)).alloc (.cells #[.map (some w.heap.size), .slice none 0 0, .map (some (w.heap.size + 1))] 62)) := by
    refine h3.new (x := .box (w.heap.size + 2) _ 62) ?_ (fun k hk => ?_) (below_new _ _)
    · show _ = _
      rw [← e2]; exact heap_new _ _
    · cases hk; omega
  have h5 := h4.new (x := .ents []) (by intro p hp; cases hp) (fun k hk => by obtain ⟨p, hp, _⟩ := hk; cases hp) (Below.refl _ _)
  have h6 := h5.empty ptrE
  exact h6.bshut (S := Bk.new) (H := ⟨w.heap.size, w.heap.size + 1, .slice none 0 0, fun _ => none, []⟩) (B := w0.heap.size) (g := w.heap.size + 2) ⟨Bk.new_ok, rfl, .nil⟩

set_option maxHeartbeats 1000000 in
theorem new_any (w0 w : World) (l : List It) (h : Its w0 l w) : Calls Try.prog 8 #[] w fun e w' => ∃ g H, e = .returned (.pointer (some ⟨g, 0, none⟩)) ∧ Its w0 (.book w0.heap.size g H Bk.new :: l) w' := by
  have HN := hide (new_its w0 w l h)
  have hk : ∀ t W, (Instr.makeMap t none).run Try.prog W = .ok (.map (some W.heap.size)) (W.alloc (.map #[] 0)) := fun t W => run_makeMap t W
  clear h
  go_enter Try.func8, Try.ntmps8
  go_wp2_with fail
  exact bodyPost_ret (v := .pointer (some ⟨w.heap.size + 2, 0, none⟩)) (by simp [results, Try.results8, go_sem]) rfl ⟨_, _, rfl, HN.out⟩

theorem kn_none {T : List (Nat × En)} {x : Int} (h : fnT T x = none) : kn T x = none := by unfold kn; rw [h]; rfl
theorem kn_some {T : List (Nat × En)} {x : Int} {p : Nat × En} (h : fnT T x = some p) : kn T x = some (.pointer (some ⟨p.1, 0, none⟩)) := by unfold kn; rw [h]; rfl
theorem fnT_mem {T : List (Nat × En)} {x : Int} {p : Nat × En} (h : fnT T x = some p) : p ∈ T := List.mem_of_find?_eq_some h
theorem Lie.fnd {T : List (Nat × En)} {S : Bk} (h : Lie T S) (x : Int) : fnd S.all x = (fnT T x).map (·.2) := by rw [h.2.1]; exact fnT_fnd x
theorem Lie.ops {T : List (Nat × En)} {S : Bk} (h : Lie T S) : ops S.all = (opT T).map (·.2.r) := by rw [h.2.1]; exact opT_ops T

set_option maxHeartbeats 1000000 in
theorem state_any {w : World} {B g : Nat} {H : Hb} {S : Bk} (h : (It.book B g H S).P w) {x : Int} (hx : I64 x) : Calls Try.prog 16 #[.pointer (some ⟨g, 0, none⟩), .int .i64 x] w fun e w' => e = .returned (.int .i64 (S.sta x)) ∧ w' = w := by
  obtain ⟨c0, c1, c2, _⟩ := bk_cells h
  have hl := (bk_mp h).look hx
  have hf := (bk_lie h).fnd x
  have e0 : S.sta x = ((fnT H.T x).map (·.2.en)).getD 0 := by
    unfold Bk.sta
    rw [hf]
    cases fnT H.T x <;> rfl
  rw [e0]
  cases hT : fnT H.T x with
  | none =>
    rw [kn_none hT] at hl
    simp only [Option.getD_none, Option.isSome_none] at hl
    clear h hf e0 hT
    go_enter Try.func16, Try.ntmps16
    go_wp2_with fail
    go_ret
    exact ⟨rfl, rfl⟩
  | some p =>
    rw [kn_some hT] at hl
    simp only [Option.getD_some, Option.isSome_some] at hl
    obtain ⟨d0, d1, d2, d3, _⟩ := bk_ent h (fnT_mem hT)
    obtain ⟨b, e⟩ := p
    clear h hf e0 hT
    go_enter Try.func16, Try.ntmps16
    go_wp2_with fail
    go_ret
    exact ⟨rfl, rfl⟩

/-- a request by value; none: zeros -/
def rqV : Option Rq → Value
  | some r => .agg #[.int .i64 r.id, .int .i64 r.st, .int .i64 r.tt]
  | none => .agg #[.int .i64 0, .int .i64 0, .int .i64 0]
def ptV : Option (Nat × En) → Value
  | some p => .pointer (some ⟨p.1, 0, none⟩)
  | none => .pointer none

set_option maxHeartbeats 1000000 in
theorem request_no (w : World) : Calls Try.prog 33 #[.pointer none, .bool false] w fun e w' => e = .returned (.tuple #[rqV none, .bool false]) ∧ Below w.heap.size w w' := by
  have hB : Hid (∀ o, Below w.heap.size w (w.alloc o)) := hide (fun o => below_new w o)
  go_enter Try.func33, Try.ntmps33
  go_wp2_with fail
  exact bodyPost_ret (v := .tuple #[rqV none, .bool false]) (by simp [results, Try.results33, go_sem, rqV]) rfl ⟨rfl, hB.out _⟩
set_option maxHeartbeats 1000000 in
theorem request_yes (w : World) (b : Nat) (e : En) (h : w.heap[b]? = some (.cells (enC e) 67)) : Calls Try.prog 33 #[.pointer (some ⟨b, 0, none⟩), .bool true] w fun r w' => r = .returned (.tuple #[rqV (some e.r), .bool true]) ∧ Below w.heap.size w w' := by
  have hB : Hid (∀ o, Below w.heap.size w (w.alloc o)) := hide (fun o => below_new w o)
  have h' : ∀ o, (w.alloc o).heap[b]? = some (.cells (enC e) 67) := fun o => by rw [(below_new w o).block b (heap_lt h)]; exact h
  have d0 : ∀ o, (w.alloc o).cell? ⟨b, 0, none⟩ = some (.int .i64 e.r.id) := fun o => (cells_at (h' o) 0).1
  have d1 : ∀ o, (w.alloc o).cell? ⟨b, 1, none⟩ = some (.int .i64 e.r.st) := fun o => (cells_at (h' o) 1).1
  have d2 : ∀ o, (w.alloc o).cell? ⟨b, 2, none⟩ = some (.int .i64 e.r.tt) := fun o => (cells_at (h' o) 2).1
  clear h h'
  go_enter Try.func33, Try.ntmps33
  go_wp2_with fail
  exact bodyPost_ret (v := .tuple #[rqV (some e.r), .bool true]) (by simp [results, Try.results33, go_sem, rqV]) rfl ⟨rfl, hB.out _⟩

set_option maxHeartbeats 1000000 in
theorem clo35_any (w : World) (b k0 : Nat) (e : En) (s : Int) (h : w.heap[b]? = some (.cells (enC e) 67)) (hk : w.cell? ⟨k0, 0, none⟩ = some (.int .i64 s)) : Calls Try.prog 35 #[.pointer (some ⟨b, 0, none⟩), .pointer (some ⟨k0, 0, none⟩)] w fun r w' => r = .returned (.bool (e.r.st == s)) ∧ ∃ q, w' = w.drewN q := by
  have d1 : w.cell? ⟨b, 1, none⟩ = some (.int .i64 e.r.st) := (cells_at h 1).1
  clear h
  go_enter Try.func35, Try.ntmps35
  go_upto_region 1 with fail
  go_quiet (fail)
  go_wp2_with fail
  go_ret
  exact ⟨rfl, _, rfl⟩

set_option maxRecDepth 100000 in
set_option maxHeartbeats 2000000 in
theorem first35_any (a : Option Addr) (n c k0 : Nat) (gs : List (Nat × En)) (s : Int) (w : World) (hn : gs.length = n) (hv : ptrE.Rd w (.slice a n c) (gs.map (·.1))) (hl : n ≤ 1000) (he : ∀ p ∈ gs, w.heap[p.1]? = some (.cells (enC p.2) 67)) (hk : w.cell? ⟨k0, 0, none⟩ = some (.int .i64 s)) :
    Calls Try.prog 34 #[.slice a n c, .func (.func 35) #[] #[.pointer (some ⟨k0, 0, none⟩)]] w fun r w' => r = .returned (.tuple #[ptV (gs.find? (fun p => p.2.r.st == s)), .bool (gs.find? (fun p => p.2.r.st == s)).isSome]) ∧ ∃ q, w' = w.drewN q := by
  have yes : Hid (∀ (k : Nat) (p : Nat × En), gs[k]? = some p → (p.2.r.st == s) = true → (∀ j d, j < k → gs[j]? = some d → (d.2.r.st == s) = false) → gs.find? (fun p => p.2.r.st == s) = some p) := hide (fun k p h1 h2 h3 => by
    rw [List.find?_eq_some_iff_getElem]
    obtain ⟨hlt, h4⟩ := List.getElem?_eq_some_iff.1 h1
    exact ⟨h2, k, hlt, h4, fun j hj => by rw [h3 j _ hj (List.getElem?_eq_getElem (by omega))]; rfl⟩)
  have no : Hid ((∀ j d, j < n → gs[j]? = some d → (d.2.r.st == s) = false) → gs.find? (fun p => p.2.r.st == s) = none) := hide (fun h => by
    rw [List.find?_eq_none]
    intro p hp
    obtain ⟨j, hj⟩ := List.getElem?_of_mem hp
    rw [h j p (by rw [← hn]; exact idx_lt hj) hj]; simp)
  have KC : Hid (∀ (j : Nat) (p : Nat × En) (q : Nat), gs[j]? = some p → Calls Try.prog 35 #[.pointer (some ⟨p.1, 0, none⟩), .pointer (some ⟨k0, 0, none⟩)] (w.drewN q) fun r w' => r = .returned (.bool (p.2.r.st == s)) ∧ ∃ q, w' = w.drewN q) := hide (fun j p q hp => by
    refine (clo35_any (w.drewN q) p.1 k0 p.2 s (he p (List.mem_of_getElem? hp)) hk).mono ?_
    rintro r w' ⟨rfl, q', rfl⟩
    exact ⟨rfl, q + q', by simp⟩)
  generalize gs.find? (fun p => p.2.r.st == s) = res at *
  have Hn := hide hn
  have HV := hide hv
  have i0 : (n : Int) ≤ 1000 := by omega
  clear hn hv hl he hk
  go_enter Try.func34, Try.ntmps34
  go_wp2_with fail
  go_loopw [11] (fun v11 wr => ∃ k q : Nat, k ≤ n ∧ v11 = .int .i64 k ∧ wr = w.drewN q ∧ Hid (∀ j d, j < k → gs[j]? = some d → (d.2.r.st == s) = false)) (fun v11 _ => n - (intOf v11).toNat)
  case atStart => exact ⟨0, 0, by omega, rfl, rfl, hide (fun j q h => by omega)⟩
  case round =>
    obtain ⟨k, q, hk, rfl, rfl, HX⟩ := hrel
    by_cases hlt : k < n
    · obtain ⟨p, hp⟩ : ∃ p, gs[k]? = some p := ⟨_, List.getElem?_eq_getElem (by rw [Hn.out]; exact hlt)⟩
      obtain ⟨b, off, rfl, c0⟩ := ptr_at HV.out k p.1 (by rw [List.getElem?_map, hp]; rfl)
      have K := hide (KC.out k p q hp)
      have j0 : (0 : Int) ≤ (k : Int) := by omega
      have j1 : (k : Int) < (n : Int) := by omega
      have Hp := hide hp
      clear hp
      cases hb : (p.2.r.st == s) with
      | true =>
        have e1 := yes.out k p Hp.out hb HX.out
        subst e1
        rw [hb] at K
        clear hb
        obtain ⟨g, e⟩ := p
        go_wp2_with (go_at_call 35; refine K.out.mono ?_; rintro r w1 ⟨rfl, q1, rfl⟩)
        go_ret2
        exact ⟨rfl, _, rfl⟩
      | false =>
        have HX1 : Hid (∀ j d, j < k + 1 → gs[j]? = some d → (d.2.r.st == s) = false) := hide (fun j d hj hd => by
          rcases Nat.lt_or_ge j k with g | g
          · exact HX.out j d g hd
          · obtain rfl : j = k := by omega
            rw [Hp.out] at hd; cases hd; exact hb)
        rw [hb] at K
        clear hb
        go_wp2_with (go_at_call 35; refine K.out.mono ?_; rintro r w1 ⟨rfl, q1, rfl⟩)
        go_roundw
        case rel => exact ⟨k + 1, _, by omega, by go_num, rfl, HX1⟩
        case measure => simp [intOf]; omega
    · obtain rfl : k = n := by omega
      have j1 : ¬ (k : Int) < (k : Int) := by omega
      have e1 := no.out HX.out
      subst e1
      go_wp2_with fail
      go_ret2
      exact ⟨rfl, _, rfl⟩

set_option maxHeartbeats 1000000 in
theorem clo36_any (w : World) (b k0 : Nat) (e : En) (s : Int) (h : w.heap[b]? = some (.cells (enC e) 67)) (hk : w.cell? ⟨k0, 0, none⟩ = some (.int .i64 s)) : Calls Try.prog 36 #[.pointer (some ⟨b, 0, none⟩), .pointer (some ⟨k0, 0, none⟩)] w fun r w' => r = .returned (.bool (e.r.tt == s)) ∧ ∃ q, w' = w.drewN q := by
  have d1 : w.cell? ⟨b, 2, none⟩ = some (.int .i64 e.r.tt) := (cells_at h 2).1
  clear h
  go_enter Try.func36, Try.ntmps36
  go_upto_region 1 with fail
  go_quiet (fail)
  go_wp2_with fail
  go_ret
  exact ⟨rfl, _, rfl⟩

set_option maxRecDepth 100000 in
set_option maxHeartbeats 2000000 in
theorem first36_any (a : Option Addr) (n c k0 : Nat) (gs : List (Nat × En)) (s : Int) (w : World) (hn : gs.length = n) (hv : ptrE.Rd w (.slice a n c) (gs.map (·.1))) (hl : n ≤ 1000) (he : ∀ p ∈ gs, w.heap[p.1]? = some (.cells (enC p.2) 67)) (hk : w.cell? ⟨k0, 0, none⟩ = some (.int .i64 s)) :
    Calls Try.prog 34 #[.slice a n c, .func (.func 36) #[] #[.pointer (some ⟨k0, 0, none⟩)]] w fun r w' => r = .returned (.tuple #[ptV (gs.find? (fun p => p.2.r.tt == s)), .bool (gs.find? (fun p => p.2.r.tt == s)).isSome]) ∧ ∃ q, w' = w.drewN q := by
  have yes : Hid (∀ (k : Nat) (p : Nat × En), gs[k]? = some p → (p.2.r.tt == s) = true → (∀ j d, j < k → gs[j]? = some d → (d.2.r.tt == s) = false) → gs.find? (fun p => p.2.r.tt == s) = some p) := hide (fun k p h1 h2 h3 => by
    rw [List.find?_eq_some_iff_getElem]
    obtain ⟨hlt, h4⟩ := List.getElem?_eq_some_iff.1 h1
    exact ⟨h2, k, hlt, h4, fun j hj => by rw [h3 j _ hj (List.getElem?_eq_getElem (by omega))]; rfl⟩)
  have no : Hid ((∀ j d, j < n → gs[j]? = some d → (d.2.r.tt == s) = false) → gs.find? (fun p => p.2.r.tt == s) = none) := hide (fun h => by
    rw [List.find?_eq_none]
    intro p hp
    obtain ⟨j, hj⟩ := List.getElem?_of_mem hp
    rw [h j p (by rw [← hn]; exact idx_lt hj) hj]; simp)
  have KC : Hid (∀ (j : Nat) (p : Nat × En) (q : Nat), gs[j]? = some p → Calls Try.prog 36 #[.pointer (some ⟨p.1, 0, none⟩), .pointer (some ⟨k0, 0, none⟩)] (w.drewN q) fun r w' => r = .returned (.bool (p.2.r.tt == s)) ∧ ∃ q, w' = w.drewN q) := hide (fun j p q hp => by
    refine (clo36_any (w.drewN q) p.1 k0 p.2 s (he p (List.mem_of_getElem? hp)) hk).mono ?_
    rintro r w' ⟨rfl, q', rfl⟩
    exact ⟨rfl, q + q', by simp⟩)
  generalize gs.find? (fun p => p.2.r.tt == s) = res at *
  have Hn := hide hn
  have HV := hide hv
  have i0 : (n : Int) ≤ 1000 := by omega
  clear hn hv hl he hk
  go_enter Try.func34, Try.ntmps34
  go_wp2_with fail
  go_loopw [11] (fun v11 wr => ∃ k q : Nat, k ≤ n ∧ v11 = .int .i64 k ∧ wr = w.drewN q ∧ Hid (∀ j d, j < k → gs[j]? = some d → (d.2.r.tt == s) = false)) (fun v11 _ => n - (intOf v11).toNat)
  case atStart => exact ⟨0, 0, by omega, rfl, rfl, hide (fun j q h => by omega)⟩
  case round =>
    obtain ⟨k, q, hk, rfl, rfl, HX⟩ := hrel
    by_cases hlt : k < n
    · obtain ⟨p, hp⟩ : ∃ p, gs[k]? = some p := ⟨_, List.getElem?_eq_getElem (by rw [Hn.out]; exact hlt)⟩
      obtain ⟨b, off, rfl, c0⟩ := ptr_at HV.out k p.1 (by rw [List.getElem?_map, hp]; rfl)
      have K := hide (KC.out k p q hp)
      have j0 : (0 : Int) ≤ (k : Int) := by omega
      have j1 : (k : Int) < (n : Int) := by omega
      have Hp := hide hp
      clear hp
      cases hb : (p.2.r.tt == s) with
      | true =>
        have e1 := yes.out k p Hp.out hb HX.out
        subst e1
        rw [hb] at K
        clear hb
        obtain ⟨g, e⟩ := p
        go_wp2_with (go_at_call 36; refine K.out.mono ?_; rintro r w1 ⟨rfl, q1, rfl⟩)
        go_ret2
        exact ⟨rfl, _, rfl⟩
      | false =>
        have HX1 : Hid (∀ j d, j < k + 1 → gs[j]? = some d → (d.2.r.tt == s) = false) := hide (fun j d hj hd => by
          rcases Nat.lt_or_ge j k with g | g
          · exact HX.out j d g hd
          · obtain rfl : j = k := by omega
            rw [Hp.out] at hd; cases hd; exact hb)
        rw [hb] at K
        clear hb
        go_wp2_with (go_at_call 36; refine K.out.mono ?_; rintro r w1 ⟨rfl, q1, rfl⟩)
        go_roundw
        case rel => exact ⟨k + 1, _, by omega, by go_num, rfl, HX1⟩
        case measure => simp [intOf]; omega
    · obtain rfl : k = n := by omega
      have j1 : ¬ (k : Int) < (k : Int) := by omega
      have e1 := no.out HX.out
      subst e1
      go_wp2_with fail
      go_ret2
      exact ⟨rfl, _, rfl⟩

theorem request_any (w : World) (o : Option (Nat × En)) (h : ∀ p, o = some p → w.heap[p.1]? = some (.cells (enC p.2) 67)) : Calls Try.prog 33 #[ptV o, .bool o.isSome] w fun e w' => e = .returned (.tuple #[rqV (o.map (·.2.r)), .bool o.isSome]) ∧ Below w.heap.size w w' := by
  cases o with
  | none => exact request_no w
  | some p => exact request_yes w p.1 p.2 (h p rfl)
theorem rqV_form (o : Option Rq) : ∃ x y z : Int, rqV o = .agg #[.int .i64 x, .int .i64 y, .int .i64 z] := by
  cases o with
  | none => exact ⟨0, 0, 0, rfl⟩
  | some r => exact ⟨_, _, _, rfl⟩
/-- a box of three cells written anew -/
theorem put3 {w : World} {b : Nat} {x y z : Value} {t : TypeId} (h : w.heap[b]? = some (.cells #[x, y, z] t)) (u v s : Value) : (((w.setCell ⟨b, 0, none⟩ u).setCell ⟨b, 1, none⟩ v).setCell ⟨b, 2, none⟩ s).heap[b]? = some (.cells #[u, v, s] t) := by
  rw [heap_put (heap_put (heap_put h u) v) s]
  rfl

set_option maxRecDepth 100000 in
set_option maxHeartbeats 2000000 in
theorem firstB_any {w : World} {B g : Nat} {H : Hb} {S : Bk} (h : (It.book B g H S).P w) (s : Int) : Calls Try.prog 22 #[.pointer (some ⟨g, 0, none⟩), .int .i64 s] w fun e w' => e = .returned (.tuple #[rqV (fst S.all s), .bool (fst S.all s).isSome]) ∧ Below w.heap.size w w' := by
  have hT := bk_lie h
  have ef : fst S.all s = ((opT H.T).find? (fun p => p.2.r.st == s)).map (·.2.r) := by
    unfold fst
    rw [hT.ops, List.find?_map]
    rfl
  have hfew : (opT H.T).length ≤ 1000 := by
    have := hT.1.few
    rw [hT.ops, List.length_map] at this
    omega
  have hB0 : Below w.heap.size w ((w.alloc (.cells #[.int .i64 s] 3)).alloc (.cells #[.int .i64 0, .int .i64 0, .int .i64 0] 31)) := (below_new w _).alloc (by simp) _
  have h2 := (It.book B g H S).kept h hB0
  have hk : ((w.alloc (.cells #[.int .i64 s] 3)).alloc (.cells #[.int .i64 0, .int .i64 0, .int .i64 0] 31)).cell? ⟨w.heap.size, 0, none⟩ = some (.int .i64 s) := by
    have : ((w.alloc (.cells #[.int .i64 s] 3)).alloc (.cells #[.int .i64 0, .int .i64 0, .int .i64 0] 31)).heap[w.heap.size]? = some (.cells #[.int .i64 s] 3) := by
      rw [Below.heap_alloc _ _ _ (by simp)]; exact heap_new w _
    exact (cells_at this 0).1
  obtain ⟨a, c, ev⟩ := (bk_row h).rd.form
  obtain ⟨c0, c1, c2, cf⟩ := bk_cells h2
  rw [ev] at c1
  have hrow := (bk_row h2).rd
  rw [ev] at hrow
  have hsz : ((w.alloc (.cells #[.int .i64 s] 3)).alloc (.cells #[.int .i64 0, .int .i64 0, .int .i64 0] 31)).heap.size = w.heap.size + 2 := by simp
  rw [List.length_map] at hrow c1
  have KF := hide (first35_any a _ c w.heap.size (opT H.T) s _ rfl hrow hfew (fun p hp => bk_ents h2 p (List.mem_filter.1 hp).1) hk)
  have HE : ∀ p, (opT H.T).find? (fun p => p.2.r.st == s) = some p → ((w.alloc (.cells #[.int .i64 s] 3)).alloc (.cells #[.int .i64 0, .int .i64 0, .int .i64 0] 31)).heap[p.1]? = some (.cells (enC p.2) 67) := fun p hp => bk_ents h2 p (List.mem_filter.1 (List.mem_of_find?_eq_some hp)).1
  have KR : Hid (∀ q, Calls Try.prog 33 #[ptV ((opT H.T).find? (fun p => p.2.r.st == s)), .bool ((opT H.T).find? (fun p => p.2.r.st == s)).isSome] (((w.alloc (.cells #[.int .i64 s] 3)).alloc (.cells #[.int .i64 0, .int .i64 0, .int .i64 0] 31)).drewN q) fun e w' => e = .returned (.tuple #[rqV (fst S.all s), .bool (fst S.all s).isSome]) ∧ Below (w.heap.size + 2) ((w.alloc (.cells #[.int .i64 s] 3)).alloc (.cells #[.int .i64 0, .int .i64 0, .int .i64 0] 31)) w') := hide (fun q => by
    refine (request_any (((w.alloc (.cells #[.int .i64 s] 3)).alloc (.cells #[.int .i64 0, .int .i64 0, .int .i64 0] 31)).drewN q) _ (fun p hp => HE p hp)).mono ?_
    rintro e w' ⟨rfl, hb⟩
    rw [show (((w.alloc (.cells #[.int .i64 s] 3)).alloc (.cells #[.int .i64 0, .int .i64 0, .int .i64 0] 31)).drewN q).heap.size = w.heap.size + 2 from hsz] at hb
    rw [ef]
    exact ⟨by rw [Option.isSome_map], ⟨hb.os, hb.tape, hb.output, hb.size, hb.block⟩⟩)
  have HS : Hid (∀ w', Below (w.heap.size + 2) ((w.alloc (.cells #[.int .i64 s] 3)).alloc (.cells #[.int .i64 0, .int .i64 0, .int .i64 0] 31)) w' → w'.heap[w.heap.size + 1]? = some (.cells #[.int .i64 0, .int .i64 0, .int .i64 0] 31) ∧ ∀ u v t, Below w.heap.size w (((w'.setCell ⟨w.heap.size + 1, 0, none⟩ u).setCell ⟨w.heap.size + 1, 1, none⟩ v).setCell ⟨w.heap.size + 1, 2, none⟩ t)) := hide (fun w' hb => ⟨by
    rw [hb.block _ (by omega)]
    rw [show w.heap.size + 1 = (w.alloc (.cells #[.int .i64 s] 3)).heap.size by simp]
    exact heap_new _ _, fun u v t => by
      have hb2 : Below w.heap.size w w' := ⟨hb.os.trans hB0.os, hb.tape.trans hB0.tape, hb.output.trans hB0.output, Nat.le_trans hB0.size hb.size, fun k hk => (hb.block k (by omega)).trans (hB0.block k hk)⟩
      exact ((hb2.setCell (by simp) _).setCell (by simp) _).setCell (by simp) _⟩)
  obtain ⟨x, y, z, exyz⟩ := rqV_form (fst S.all s)
  rw [exyz] at KR ⊢
  generalize (fst S.all s).isSome = bb at *
  clear exyz ef HE
  generalize ((opT H.T).find? (fun p => p.2.r.st == s)).isSome = b2 at *
  generalize ptV ((opT H.T).find? (fun p => p.2.r.st == s)) = pv at *
  generalize (opT H.T).length = n at *
  clear h h2 hT hfew hB0 hk ev c0 c2 cf hrow hsz
  go_enter Try.func22, Try.ntmps22
  go_wp2_with (first
    | (go_at_call 34; refine KF.out.mono ?_; rintro e w1 ⟨rfl, q1, rfl⟩)
    | (go_at_call 33; refine (KR.out _).mono ?_; rintro e w2 ⟨rfl, hb⟩; obtain ⟨hx, hb'⟩ := HS.out _ hb; have HB := hide hb'; clear hb hb'; obtain ⟨x0, f0⟩ := cells_at hx 0; obtain ⟨x1, f1⟩ := cells_at hx 1; obtain ⟨x2, f2⟩ := cells_at hx 2; have HX := hide hx; clear hx))
  have h9 := put3 HX.out (.int .i64 x) (.int .i64 y) (.int .i64 z)
  obtain ⟨y0, _⟩ := cells_at h9 0
  obtain ⟨y1, _⟩ := cells_at h9 1
  obtain ⟨y2, _⟩ := cells_at h9 2
  exact bodyPost_ret (v := .tuple #[.agg #[.int .i64 x, .int .i64 y, .int .i64 z], .bool bb]) (by simp [results, Try.results22, go_sem, y0, y1, y2]) rfl ⟨rfl, HB.out _ _ _⟩

set_option maxRecDepth 100000 in
set_option maxHeartbeats 2000000 in
theorem wanted_any {w : World} {B g : Nat} {H : Hb} {S : Bk} (h : (It.book B g H S).P w) (s : Int) : Calls Try.prog 24 #[.pointer (some ⟨g, 0, none⟩), .int .i64 s] w fun e w' => e = .returned (.tuple #[rqV (wnt S.all s), .bool (wnt S.all s).isSome]) ∧ Below w.heap.size w w' := by
  have hT := bk_lie h
  have ef : wnt S.all s = ((opT H.T).find? (fun p => p.2.r.tt == s)).map (·.2.r) := by
    unfold wnt
    rw [hT.ops, List.find?_map]
    rfl
  have hfew : (opT H.T).length ≤ 1000 := by
    have := hT.1.few
    rw [hT.ops, List.length_map] at this
    omega
  have hB0 : Below w.heap.size w ((w.alloc (.cells #[.int .i64 s] 3)).alloc (.cells #[.int .i64 0, .int .i64 0, .int .i64 0] 31)) := (below_new w _).alloc (by simp) _
  have h2 := (It.book B g H S).kept h hB0
  have hk : ((w.alloc (.cells #[.int .i64 s] 3)).alloc (.cells #[.int .i64 0, .int .i64 0, .int .i64 0] 31)).cell? ⟨w.heap.size, 0, none⟩ = some (.int .i64 s) := by
    have : ((w.alloc (.cells #[.int .i64 s] 3)).alloc (.cells #[.int .i64 0, .int .i64 0, .int .i64 0] 31)).heap[w.heap.size]? = some (.cells #[.int .i64 s] 3) := by
      rw [Below.heap_alloc _ _ _ (by simp)]; exact heap_new w _
    exact (cells_at this 0).1
  obtain ⟨a, c, ev⟩ := (bk_row h).rd.form
  obtain ⟨c0, c1, c2, cf⟩ := bk_cells h2
  rw [ev] at c1
  have hrow := (bk_row h2).rd
  rw [ev] at hrow
  have hsz : ((w.alloc (.cells #[.int .i64 s] 3)).alloc (.cells #[.int .i64 0, .int .i64 0, .int .i64 0] 31)).heap.size = w.heap.size + 2 := by simp
  rw [List.length_map] at hrow c1
  have KF := hide (first36_any a _ c w.heap.size (opT H.T) s _ rfl hrow hfew (fun p hp => bk_ents h2 p (List.mem_filter.1 hp).1) hk)
  have HE : ∀ p, (opT H.T).find? (fun p => p.2.r.tt == s) = some p → ((w.alloc (.cells #[.int .i64 s] 3)).alloc (.cells #[.int .i64 0, .int .i64 0, .int .i64 0] 31)).heap[p.1]? = some (.cells (enC p.2) 67) := fun p hp => bk_ents h2 p (List.mem_filter.1 (List.mem_of_find?_eq_some hp)).1
  have KR : Hid (∀ q, Calls Try.prog 33 #[ptV ((opT H.T).find? (fun p => p.2.r.tt == s)), .bool ((opT H.T).find? (fun p => p.2.r.tt == s)).isSome] (((w.alloc (.cells #[.int .i64 s] 3)).alloc (.cells #[.int .i64 0, .int .i64 0, .int .i64 0] 31)).drewN q) fun e w' => e = .returned (.tuple #[rqV (wnt S.all s), .bool (wnt S.all s).isSome]) ∧ Below (w.heap.size + 2) ((w.alloc (.cells #[.int .i64 s] 3)).alloc (.cells #[.int .i64 0, .int .i64 0, .int .i64 0] 31)) w') := hide (fun q => by
    refine (request_any (((w.alloc (.cells #[.int .i64 s] 3)).alloc (.cells #[.int .i64 0, .int .i64 0, .int .i64 0] 31)).drewN q) _ (fun p hp => HE p hp)).mono ?_
    rintro e w' ⟨rfl, hb⟩
    rw [show (((w.alloc (.cells #[.int .i64 s] 3)).alloc (.cells #[.int .i64 0, .int .i64 0, .int .i64 0] 31)).drewN q).heap.size = w.heap.size + 2 from hsz] at hb
    rw [ef]
    exact ⟨by rw [Option.isSome_map], ⟨hb.os, hb.tape, hb.output, hb.size, hb.block⟩⟩)
  have HS : Hid (∀ w', Below (w.heap.size + 2) ((w.alloc (.cells #[.int .i64 s] 3)).alloc (.cells #[.int .i64 0, .int .i64 0, .int .i64 0] 31)) w' → w'.heap[w.heap.size + 1]? = some (.cells #[.int .i64 0, .int .i64 0, .int .i64 0] 31) ∧ ∀ u v t, Below w.heap.size w (((w'.setCell ⟨w.heap.size + 1, 0, none⟩ u).setCell ⟨w.heap.size + 1, 1, none⟩ v).setCell ⟨w.heap.size + 1, 2, none⟩ t)) := hide (fun w' hb => ⟨by
    rw [hb.block _ (by omega)]
    rw [show w.heap.size + 1 = (w.alloc (.cells #[.int .i64 s] 3)).heap.size by simp]
    exact heap_new _ _, fun u v t => by
      have hb2 : Below w.heap.size w w' := ⟨hb.os.trans hB0.os, hb.tape.trans hB0.tape, hb.output.trans hB0.output, Nat.le_trans hB0.size hb.size, fun k hk => (hb.block k (by omega)).trans (hB0.block k hk)⟩
      exact ((hb2.setCell (by simp) _).setCell (by simp) _).setCell (by simp) _⟩)
  obtain ⟨x, y, z, exyz⟩ := rqV_form (wnt S.all s)
  rw [exyz] at KR ⊢
  generalize (wnt S.all s).isSome = bb at *
  clear exyz ef HE
  generalize ((opT H.T).find? (fun p => p.2.r.tt == s)).isSome = b2 at *
  generalize ptV ((opT H.T).find? (fun p => p.2.r.tt == s)) = pv at *
  generalize (opT H.T).length = n at *
  clear h h2 hT hfew hB0 hk ev c0 c2 cf hrow hsz
  go_enter Try.func24, Try.ntmps24
  go_wp2_with (first
    | (go_at_call 34; refine KF.out.mono ?_; rintro e w1 ⟨rfl, q1, rfl⟩)
    | (go_at_call 33; refine (KR.out _).mono ?_; rintro e w2 ⟨rfl, hb⟩; obtain ⟨hx, hb'⟩ := HS.out _ hb; have HB := hide hb'; clear hb hb'; obtain ⟨x0, f0⟩ := cells_at hx 0; obtain ⟨x1, f1⟩ := cells_at hx 1; obtain ⟨x2, f2⟩ := cells_at hx 2; have HX := hide hx; clear hx))
  have h9 := put3 HX.out (.int .i64 x) (.int .i64 y) (.int .i64 z)
  obtain ⟨y0, _⟩ := cells_at h9 0
  obtain ⟨y1, _⟩ := cells_at h9 1
  obtain ⟨y2, _⟩ := cells_at h9 2
  exact bodyPost_ret (v := .tuple #[.agg #[.int .i64 x, .int .i64 y, .int .i64 z], .bool bb]) (by simp [results, Try.results24, go_sem, y0, y1, y2]) rfl ⟨rfl, HB.out _ _ _⟩
end Go.Proofs.Ytfmpipihjnpimaa
