/- The walk of ZoneSafe. -/
import Derived.Test.YtmmkfcmbmecleaaZaw
import Derived.Test.YtmmkfcmbmecleaaZhb
namespace Go.Proofs.Ytmmkfcmbmecleaa.zoneSafe
open Go.ChangeShapes Go.WideShapes Go.ChangeAt Go.RowKit
set_option linter.unusedVariables false

/-- behind the first loop: each holds zones ahead of z -/
def L1 (hs : List Hl) (z : Nat) : Prop := ∀ p ∈ hs, p.has.length ≤ z ∧ ∀ x ∈ p.has, 0 ≤ x ∧ x < (z : Int)
/-- in the second: those ahead of i want above all that they hold -/
def L2 (hs : List Hl) (i : Nat) : Prop := ∀ (j : Nat) (p : Hl), hs[j]? = some p → p.has.length ≤ 8 ∧ (∀ x ∈ p.has, 0 ≤ x ∧ x < 8) ∧ (j < i → p.want = -1 ∨ (0 ≤ p.want ∧ p.want < 8 ∧ ∀ x ∈ p.has, x < p.want))
theorem L1.step {hs : List Hl} {z k : Nat} {p : Hl} (h : L1 hs z) (hp : hs[k]? = some p) : L1 (hs.set k ⟨p.has ++ [(z : Int)], p.want⟩) (z + 1) := fun q hq => by
  rcases List.mem_or_eq_of_mem_set hq with hq | rfl
  · obtain ⟨h1, h2⟩ := h q hq
    exact ⟨by omega, fun x hx => by have := h2 x hx; omega⟩
  · obtain ⟨h1, h2⟩ := h p (List.mem_of_getElem? hp)
    refine ⟨by simp; omega, fun x hx => ?_⟩
    rcases List.mem_append.1 hx with hx | hx
    · have := h2 x hx; omega
    · simp at hx; subst hx; omega
theorem L1.skip {hs : List Hl} {z : Nat} (h : L1 hs z) : L1 hs (z + 1) := fun q hq => by
  obtain ⟨h1, h2⟩ := h q hq
  exact ⟨by omega, fun x hx => by have := h2 x hx; omega⟩
theorem L1.start (n : Nat) : L1 (List.replicate n ⟨[], 0⟩) 0 := fun q hq => by
  rw [List.mem_replicate] at hq
  rw [hq.2]
  exact ⟨by simp, fun x hx => by simp at hx⟩
theorem L1.done {hs : List Hl} (h : L1 hs 8) : L2 hs 0 := fun j p hp => by
  obtain ⟨h1, h2⟩ := h p (List.mem_of_getElem? hp)
  exact ⟨h1, h2, fun h => by omega⟩
theorem L2.step {hs : List Hl} {i : Nat} {p : Hl} {x : Int} (h : L2 hs i) (hp : hs[i]? = some p) (hx : x = -1 ∨ (0 ≤ x ∧ x < 8 ∧ ∀ y ∈ p.has, y < x)) : L2 (hs.set i ⟨p.has, x⟩) (i + 1) := fun j q hq => by
  rw [List.getElem?_set] at hq
  by_cases e : i = j
  · subst e
    rw [if_pos rfl, if_pos (idx_lt hp)] at hq
    cases hq
    obtain ⟨h1, h2, _⟩ := h i p hp
    exact ⟨h1, h2, fun _ => hx⟩
  · rw [if_neg e] at hq
    obtain ⟨h1, h2, h3⟩ := h j q hq
    exact ⟨h1, h2, fun hj => h3 (by omega)⟩
theorem L2.free {hs : List Hl} {n : Nat} (hn : hs.length = n) (h : L2 hs n) : hs.all okH = true ∧ Free hs ∧ ∀ p ∈ hs, p.has.length ≤ 30 := by
  have key : ∀ p ∈ hs, p.has.length ≤ 8 ∧ (∀ x ∈ p.has, 0 ≤ x ∧ x < 8) ∧ (p.want = -1 ∨ (0 ≤ p.want ∧ p.want < 8 ∧ ∀ x ∈ p.has, x < p.want)) := fun p hp => by
    obtain ⟨j, hj⟩ := List.getElem?_of_mem hp
    obtain ⟨h1, h2, h3⟩ := h j p hj
    exact ⟨h1, h2, h3 (by have := idx_lt hj; omega)⟩
  refine ⟨List.all_eq_true.2 fun p hp => ?_, fun i _ => safe_rise (fun p hp => ?_) (fun p hp z hz => ?_) i, fun p hp => by have := (key p hp).1; omega⟩
  · obtain ⟨_, h2, h3⟩ := key p hp
    unfold okH
    rw [Bool.and_eq_true]
    exact ⟨List.all_eq_true.2 fun z hz => decide_eq_true (h2 z hz), decide_eq_true (by omega)⟩
  · have := (key p hp).2.2; omega
  · rcases (key p hp).2.2 with h | ⟨_, _, h⟩
    · exact .inl (by omega)
    · exact .inr (h z hz)

theorem stuck_free {a : Option Addr} {c n : Nat} {hs : List Hl} {W : World} (hn : hs.length = n) (hv : Hds hvE W (.slice a n c) hs) (hl : n ≤ 100000) (hb : ∀ p ∈ hs, p.has.length ≤ 30) (h : hs.length ≤ 40 ∧ hs.all okH = true) (hf : Free hs) :
    Calls Try.prog 24 #[.slice a n c] W fun e w' => e = .returned (.tuple #[.slice none 0 0, .int .i64 0]) ∧ Below W.heap.size W w' :=
  (stuck_any a c n hs W hn hv hl hb).mono (by
    rintro e w' ⟨⟨u, x, rfl, hp⟩, hb'⟩
    unfold SP at hp
    rw [if_pos h] at hp
    obtain ⟨rfl, hp⟩ := hp
    rcases hp with ⟨rfl, _⟩ | ⟨_, _, _, _, _, _, hr⟩
    · exact ⟨rfl, hb'⟩
    · exact absurd hf hr.stuck)
theorem tmod_nat (x : Int) (n : Nat) (hx : 0 ≤ x) (hn : 0 < n) : ∃ k : Nat, x.tmod (n : Int) = (k : Int) ∧ k < n := by
  rw [Int.tmod_eq_emod_of_nonneg hx]
  have h1 := Int.emod_nonneg x (by omega : (n : Int) ≠ 0)
  have h2 := Int.emod_lt_of_pos x (by omega : (0 : Int) < n)
  exact ⟨(x % (n : Int)).toNat, by omega, by omega⟩

set_option maxRecDepth 100000 in
set_option maxHeartbeats 8000000 in
theorem walk (x0 x1 x2 x3 x4 x5 x6 x7 : Int) (a : Option Addr) (n c : Nat) (zs : List Int) (w : World) (hn : zs.length = n) (hv : intE.Rd w (.slice a n c) zs) :
    Calls Try.prog 7 #[.agg #[.int .i64 x0, .int .i64 x1, .int .i64 x2, .int .i64 x3, .int .i64 x4, .int .i64 x5, .int .i64 x6, .int .i64 x7], .slice a n c] w fun e w' => e = .returned (.bool true) ∧ Below w.heap.size w w' := by
  obtain ⟨w0, rfl⟩ : ∃ w0, w0 = w := ⟨_, rfl⟩
  obtain ⟨f, e0, e1, e2, e3, e4, e5, e6, e7⟩ : ∃ f : Nat → Int, f 0 = x0 ∧ f 1 = x1 ∧ f 2 = x2 ∧ f 3 = x3 ∧ f 4 = x4 ∧ f 5 = x5 ∧ f 6 = x6 ∧ f 7 = x7 :=
    ⟨fun k => match k with | 0 => x0 | 1 => x1 | 2 => x2 | 3 => x3 | 4 => x4 | 5 => x5 | 6 => x6 | _ => x7, rfl, rfl, rfl, rfl, rfl, rfl, rfl, rfl⟩
  have HI : Hid (∀ k : Nat, k < 8 → ∀ w, (Instr.index 60 (.agg #[.int .i64 x0, .int .i64 x1, .int .i64 x2, .int .i64 x3, .int .i64 x4, .int .i64 x5, .int .i64 x6, .int .i64 x7]) (.int .i64 (k : Int))).run Try.prog w = .ok (.int .i64 (f k)) w) := hide (fun k hk w => by rw [← e0, ← e1, ← e2, ← e3, ← e4, ← e5, ← e6, ← e7]; exact index8i f k hk w)
  clear e0 e1 e2 e3 e4 e5 e6 e7
  have hB0 : Below w0.heap.size w0 (w0.alloc (.cells #[.int .i64 x0, .int .i64 x1, .int .i64 x2, .int .i64 x3, .int .i64 x4, .int .i64 x5, .int .i64 x6, .int .i64 x7] 60)) := (Below.refl _ _).alloc (Nat.le_refl _) _
  have hbx := heap_new w0 (.cells #[.int .i64 x0, .int .i64 x1, .int .i64 x2, .int .i64 x3, .int .i64 x4, .int .i64 x5, .int .i64 x6, .int .i64 x7] 60)
  have Hcell : Hid (∀ W, Below (w0.alloc (.cells #[.int .i64 x0, .int .i64 x1, .int .i64 x2, .int .i64 x3, .int .i64 x4, .int .i64 x5, .int .i64 x6, .int .i64 x7] 60)).heap.size (w0.alloc (.cells #[.int .i64 x0, .int .i64 x1, .int .i64 x2, .int .i64 x3, .int .i64 x4, .int .i64 x5, .int .i64 x6, .int .i64 x7] 60)) W → W.heap[w0.heap.size]? = some (.cells #[.int .i64 x0, .int .i64 x1, .int .i64 x2, .int .i64 x3, .int .i64 x4, .int .i64 x5, .int .i64 x6, .int .i64 x7] 60)) := hide (fun W hb => by rw [hb.block _ (heap_lt hbx)]; exact hbx)
  have HB0 := hide hB0
  have KA := hide awake_any
  have HR : Hid (∀ W, Below w0.heap.size w0 W → intE.Rd W (.slice a n c) zs) := hide (fun W hb => hv.keep hb)
  have Hn := hide hn
  clear hB0 hbx hv hn
  by_cases hl : n ≤ 40
  · have g1 : ¬ ((n : Int) > 40) := by omega
    have i0 : (n : Int) ≤ 40 := by omega
    have KM : Hid (∀ W : World, ∃ w', (Instr.makeSlice 52 (.int .i64 (n : Int)) (.int .i64 (n : Int))).run Try.prog W = .ok (.slice (some ⟨W.heap.size, 0, none⟩) n n) w' ∧ hvE.Own w' W.heap.size (.slice (some ⟨W.heap.size, 0, none⟩) n n) (List.replicate n ⟨none, 0, 0, 0⟩) ∧ Below W.heap.size W w') := hide (fun W => made_holders W n (by omega))
    go_enter Try.func7, Try.ntmps7
    go_upto_region 3 with (go_at_call 9; refine (KA.out _).mono ?_; rintro e W1 ⟨rfl, hb1⟩; have HB1 := hide hb1; have HB := hide (HB0.out.trans (hb1.mono HB0.out.size)); clear hb1)
    obtain ⟨W2, hm, hown, hbm⟩ := KM.out W1
    have hbx := Hcell.out W1 HB1.out
    have hbx2 : W2.heap[w0.heap.size]? = some (.cells #[.int .i64 x0, .int .i64 x1, .int .i64 x2, .int .i64 x3, .int .i64 x4, .int .i64 x5, .int .i64 x6, .int .i64 x7] 60) := by rw [hbm.block _ (heap_lt hbx)]; exact hbx
    have cc := fun z => (cells_at hbx2 z).1
    have d0 := cc 0
    have d1 := cc 1
    have d2 := cc 2
    have d3 := cc 3
    have d4 := cc 4
    have d5 := cc 5
    have d6 := cc 6
    have d7 := cc 7
    simp only [List.getElem?_toArray, List.getElem?_cons_zero, List.getElem?_cons_succ] at d0 d1 d2 d3 d4 d5 d6 d7
    have HBm : Hid (Below w0.heap.size w0 W2) := hide (HB.out.trans (hbm.mono HB.out.size))
    have HS : Hid (Hb w0 W2 W1.heap.size n (List.replicate n ⟨none, 0, 0, 0⟩) (List.replicate n ⟨[], 0⟩)) := hide (Hb.start w0 W2 W1.heap.size n HBm.out (hown.mono HB.out.size))
    obtain ⟨g, hg⟩ : ∃ g, W1.heap.size = g := ⟨_, rfl⟩
    rw [hg] at hm HS
    clear cc hbx hbx2 hown hbm hg
    go_upto_region 5 with fail
    clear d0 d1 d2 d3 d4 d5 d6 d7 hm
    go_loopw [27] (fun v27 wr => ∃ (z : Nat) (vs : List Hv) (hs : List Hl), v27 = .int .i64 z ∧ z ≤ 8 ∧ Hid (Hb w0 wr g n vs hs) ∧ Hid (L1 hs z)) (fun v27 _ => 8 - (intOf v27).toNat)
    case atStart => exact ⟨0, _, _, rfl, Nat.zero_le _, HS, hide (L1.start n)⟩
    case round =>
      clear HS HBm HB HB1
      obtain ⟨z, vs, hs, rfl, hz, HS, HL⟩ := hrel
      by_cases hz8 : z < 8
      · have q := HI.out z hz8
        have z0 : (0 : Int) ≤ (z : Int) := by omega
        have z1 : (z : Int) < 8 := by omega
        generalize f z = o at *
        by_cases hn0 : 0 < n
        · have n0 : (n : Int) > 0 := by omega
          by_cases ho : o ≥ 0
          · obtain ⟨k, hk, hkn⟩ := tmod_nat o n ho hn0
            have k0 : (0 : Int) ≤ (k : Int) := by omega
            have k1 : (k : Int) < (n : Int) := by omega
            have i3 : ¬ ((n : Int) = 0) := by omega
            have i4 : ¬ (n = 0) := by omega
            have i5 : ((n : Int) == 0) = false := beq_eq_false_iff_ne.2 i3
            have hwz : IntKind.i64.wrap (k : Int) = (k : Int) := i64_small _ (by omega) (by omega)
            obtain ⟨p, hp⟩ : ∃ p, hs[k]? = some p := ⟨_, List.getElem?_eq_getElem (by rw [HS.out.hlen]; exact hkn)⟩
            obtain ⟨v, hv, hvl, c0, c1, _, _, hov⟩ := HS.out.at k p hp
            have hlen8 := (HL.out p (List.mem_of_getElem? hp)).1
            have HL1 := hide (L1.step HL.out hp)
            have Hp := hide hp
            have Hv := hide hv
            have Hvl := hide hvl
            have Hov := hide hov
            have Hl2 : Hid (p.has.length + [(z : Int)].length ≤ 1000000) := hide (by simp; omega)
            obtain ⟨m, hm⟩ : ∃ m, p.has.length = m := ⟨_, rfl⟩
            rw [hm] at c0 Hov Hvl
            have Hba : Hid (∀ (o : Obj), Below wr.heap.size wr (wr.alloc o)) := hide (fun o => (Below.refl _ _).alloc (Nat.le_refl _) o)
            have Hla : Hid (∀ (o : Obj), Hb w0 (wr.alloc o) g n vs hs) := hide (fun o => HS.out.keep (Hba.out o))
            have Hgr : Hid (∀ W : World, World.grownBy (wr.alloc (.cells #[.int .i64 (z : Int)] 3)) W (Value.slice v.a m v.c).ownBlock → World.grownBy (wr.alloc (.cells #[.int .i64 (z : Int)] 3)) W (Value.slice v.a v.l v.c).ownBlock) := hide (fun W h => by rw [Hvl.out]; exact h)
            have Hcl : Hid (∀ W : World, W.cell? ⟨g, k * 2, none⟩ = some (.slice v.a v.l v.c) → W.cell? ⟨g, k * 2, none⟩ = some (.slice v.a m v.c)) := hide (fun W h => by rw [h, Hvl.out])
            obtain ⟨va, vl, vc, vw⟩ := v
            simp only at c0 Hov Hgr Hcl Hv
            clear hp hv hvl hov hlen8 hm
            go_wp2_with (at_builtin; refine intE.wp (w0 := w0) (Hla.out _).bel (by rfl) _ _ rfl _ _ rfl rfl p.has [(z : Int)] (Hov.out.keep (Hba.out _)) (int_new wr _ _ rfl) Hl2.out ?_; intro v1 w2 ho2 hg2 hs2 hb2; obtain ⟨pa, pl, pc, rfl⟩ : ∃ a l c, v1 = .slice a l c := (by obtain ⟨a, c, h⟩ := ho2.rd.form; exact ⟨_, _, _, h⟩); obtain ⟨⟨y0, y1⟩, hF⟩ := (Hla.out _).app Hp.out Hv.out ho2 (Hgr.out _ hg2) (by rcases hs2 with h | h; exact .inl (by rw [h]; cases va <;> rfl); exact .inr h); have HF := hide hF; have y2 := Hcl.out _ y0; clear ho2 hg2 hs2 hb2 hF y0)
            go_roundw
            case rel => exact ⟨z + 1, _, _, by go_num, by omega, HF, HL1⟩
            case measure => simp [intOf]; omega
          · have HL1 := hide (L1.skip HL.out)
            have ho' : ¬ (0 ≤ o) := ho
            go_wp2_with fail
            go_roundw
            case rel => exact ⟨z + 1, _, _, by go_num, by omega, HS, HL1⟩
            case measure => simp [intOf]; omega
        · obtain rfl : n = 0 := by omega
          have HL1 := hide (L1.skip HL.out)
          go_wp2_with fail
          go_roundw
          case rel => exact ⟨z + 1, _, _, by go_num, by omega, HS, HL1⟩
          case measure => simp [intOf]; omega
      · obtain rfl : z = 8 := by omega
        have HL2 := hide HL.out.done
        clear HI
        have KF : Hid (∀ (W : World) (hs : List Hl), hs.length = n → Hds hvE W (.slice (some ⟨g, 0, none⟩) n n) hs → L2 hs n → Calls Try.prog 24 #[.slice (some ⟨g, 0, none⟩) n n] W fun e w' => e = .returned (.tuple #[.slice none 0 0, .int .i64 0]) ∧ Below W.heap.size W w') := hide (fun W hs h1 h2 h3 => by
          obtain ⟨q1, q2, q3⟩ := L2.free h1 h3
          exact stuck_free h1 h2 (by omega) q3 ⟨by omega, q1⟩ q2)
        go_upto_region 12 with fail
        go_loopw [57] (fun v57 wr => ∃ (i : Nat) (vs : List Hv) (hs : List Hl), v57 = .int .i64 i ∧ i ≤ n ∧ Hid (Hb w0 wr g n vs hs) ∧ Hid (L2 hs i)) (fun v57 _ => n - (intOf v57).toNat)
        case atStart => exact ⟨0, _, _, rfl, Nat.zero_le _, HS, HL2⟩
        case round =>
          clear HS HL HL2 hz hz8
          obtain ⟨i, vs, hs, rfl, hi, HS, HL⟩ := hrel
          by_cases hlt : i < n
          · obtain ⟨p, hp⟩ : ∃ p, hs[i]? = some p := ⟨_, List.getElem?_eq_getElem (by rw [HS.out.hlen]; exact hlt)⟩
            obtain ⟨y, hy⟩ : ∃ y, zs[i]? = some y := ⟨_, List.getElem?_eq_getElem (by rw [Hn.out]; exact hlt)⟩
            obtain ⟨v, hv, _, c0, _, c1, f1, hov⟩ := HS.out.at i p hp
            have hz8 := (HL.out i p hp).2.1
            have hl8 := (HL.out i p hp).1
            have Hz8 := hide hz8
            have g0 : (0 : Int) ≤ (i : Int) := by omega
            have g1 : (i : Int) < (n : Int) := by omega
            have Hw1 := hide (HS.out.want hp hv (-1))
            have Hv1 : Hid ((hs.set i ⟨p.has, -1⟩)[i]? = some ⟨p.has, -1⟩) := hide (by rw [List.getElem?_set, if_pos rfl, if_pos (idx_lt hp)])
            have Hv2 : Hid ((vs.set i ⟨v.a, v.l, v.c, -1⟩)[i]? = some ⟨v.a, v.l, v.c, -1⟩) := hide (by rw [List.getElem?_set, if_pos rfl, if_pos (idx_lt hv)])
            have HLn : Hid (∀ x : Int, (x = -1 ∨ (0 ≤ x ∧ x < 8 ∧ ∀ y ∈ p.has, y < x)) → L2 (hs.set i ⟨p.has, x⟩) (i + 1)) := hide (fun x hx => HL.out.step hp hx)
            have Hov := hide hov
            have Hy := hide hy
            obtain ⟨m, hm⟩ : ∃ m, p.has.length = m := ⟨_, rfl⟩
            rw [hm] at c0 Hov
            have Hm := hide hm
            have m8 : (m : Int) ≤ 8 := by omega
            clear hp hy hv hov hz8 hl8 hm HS HL
            obtain ⟨wA, hwA⟩ : ∃ W, W = wr := ⟨_, rfl⟩
            subst hwA
            go_upto_region 16 with fail
            go_loopw [10, 66] (fun v10 v66 wr => ∃ (j : Nat) (L : Int), v66 = .int .i64 j ∧ j ≤ m ∧ v10 = .int .i64 L ∧ wr = wA ∧ 0 ≤ L ∧ L ≤ 8 ∧ Hid (∀ x ∈ p.has.take j, x < L)) (fun _ v66 _ => m - (intOf v66).toNat)
            case atStart => exact ⟨0, 0, rfl, Nat.zero_le _, rfl, rfl, by omega, by omega, hide (fun x hx => by simp at hx)⟩
            case round =>
              obtain ⟨j, L, rfl, hj, rfl, hw, hL0, hL8, HX⟩ := hrel
              have hw' := hw.symm
              clear hw
              subst hw'
              by_cases hjl : j < m
              · obtain ⟨x, hx⟩ : ∃ x, p.has[j]? = some x := ⟨_, List.getElem?_eq_getElem (by rw [Hm.out]; exact hjl)⟩
                obtain ⟨b2, off2, hva, e0⟩ := int_at Hov.out.rd j x hx
                rw [hva] at c0 ⊢
                have hx8 := Hz8.out x (List.mem_of_getElem? hx)
                have q0 : (0 : Int) ≤ (j : Int) := by omega
                have q1 : (j : Int) < (m : Int) := by omega
                have HX1 : ∀ L' : Int, L ≤ L' → x < L' → Hid (∀ y ∈ p.has.take (j + 1), y < L') := fun L' h1 h2 => hide (fun y hy => by
                  rw [List.take_add_one, hx] at hy
                  rcases List.mem_append.1 hy with h | h
                  · have := HX.out y h; omega
                  · simp at h; omega)
                by_cases hmx : x + 1 > L
                · have HX2 := HX1 (x + 1) (by omega) (by omega)
                  clear hx HX1 hva
                  go_wp2_with fail
                  go_roundw
                  case rel => exact ⟨j + 1, x + 1, by go_num, by omega, rfl, trivial, by omega, by omega, HX2⟩
                  case measure => simp [intOf]; omega
                · have HX2 := HX1 L (by omega) (by omega)
                  clear hx HX1 hva
                  go_wp2_with fail
                  go_roundw
                  case rel => exact ⟨j + 1, L, by go_num, by omega, rfl, trivial, by omega, by omega, HX2⟩
                  case measure => simp [intOf]; omega
              · obtain rfl : j = m := by omega
                have q1 : ¬ (j : Int) < (j : Int) := by omega
                have HXf : Hid (∀ x ∈ p.has, x < L) := hide (fun x hx => HX.out x (by rw [← Hm.out, List.take_length]; exact hx))
                go_upto_region 21 with fail
                obtain ⟨w1, hw1⟩ : ∃ W, wA.setCell ⟨g, i * 2 + 1, none⟩ (.int .i64 (-1)) = W := ⟨_, rfl⟩
                rw [hw1] at Hw1
                rw [hw1]
                clear hw1 c0 c1 f1 Hov
                obtain ⟨v2, hv2, _, _, _, d1, f2, _⟩ := Hw1.out.at i _ Hv1.out
                obtain ⟨b3, off3, hva, e3⟩ := int_at (HR.out _ Hw1.out.bel) i y Hy.out
                subst hva
                have hset : ∀ x : Int, (hs.set i ⟨p.has, -1⟩).set i ⟨p.has, x⟩ = hs.set i ⟨p.has, x⟩ := fun x => List.set_set ..
                have Hw2 : Hid (∀ x : Int, Hb w0 (w1.setCell ⟨g, i * 2 + 1, none⟩ (.int .i64 x)) g n ((vs.set i ⟨v.a, v.l, v.c, -1⟩).set i ⟨v.a, v.l, v.c, x⟩) (hs.set i ⟨p.has, x⟩)) := hide (fun x => by rw [← hset x]; exact Hw1.out.want Hv1.out Hv2.out x)
                have HL1 := hide (HLn.out (-1) (.inl rfl))
                clear hset hv2
                simp only at d1
                by_cases hL : L < 8
                · by_cases hy0 : y ≥ 0
                  · obtain ⟨d, hd⟩ : ∃ d : Nat, 8 - L = (d : Int) := ⟨(8 - L).toNat, by omega⟩
                    obtain ⟨t, ht, ht8⟩ := tmod_nat y d hy0 (by omega)
                    have HL3 := hide (HLn.out (L + t) (.inr ⟨by omega, by omega, fun x hx => by have := HXf.out x hx; omega⟩))
                    have ht' : y.tmod (8 - L) = (t : Int) := by rw [hd]; exact ht
                    have i3 : ¬ (8 - L = 0) := by omega
                    have i5 : ((8 - L) == 0) = false := beq_eq_false_iff_ne.2 i3
                    have hwz : IntKind.i64.wrap (t : Int) = (t : Int) := i64_small _ (by omega) (by omega)
                    have hwl : IntKind.i64.wrap (8 - L) = 8 - L := i64_small _ (by omega) (by omega)
                    have t0 : (0 : Int) ≤ (t : Int) := by omega
                    have t8 : L + (t : Int) < 8 := by omega
                    clear hd ht ht8
                    go_wp2_with fail
                    go_roundw
                    case rel => exact ⟨i + 1, _, _, by go_num, by omega, hide (Hw2.out _), HL3⟩
                    case measure => simp [intOf]; omega
                  · go_wp2_with fail
                    go_roundw
                    case rel => exact ⟨i + 1, _, _, by go_num, by omega, Hw1, HL1⟩
                    case measure => simp [intOf]; omega
                · go_wp2_with fail
                  go_roundw
                  case rel => exact ⟨i + 1, _, _, by go_num, by omega, Hw1, HL1⟩
                  case measure => simp [intOf]; omega
          · obtain rfl : i = n := by omega
            have g1 : ¬ (i : Int) < (i : Int) := by omega
            have KF1 := hide (KF.out wr hs HS.out.hlen HS.out.hds HL.out)
            go_wp2_with (go_at_call 24; refine (KF1.out).mono ?_; rintro e W6 ⟨rfl, hb6⟩; have HB6 := hide (HS.out.bel.trans (hb6.mono HS.out.bel.size)); clear hb6)
            go_ret
            exact ⟨rfl, HB6.out⟩
  · have g1 : ((n : Int) > 40) := by omega
    clear hl
    go_enter Try.func7, Try.ntmps7
    go_upto_region 2 with (go_at_call 9; refine (KA.out _).mono ?_; rintro e W1 ⟨rfl, hb1⟩; have HB := hide (HB0.out.trans (hb1.mono HB0.out.size)); clear hb1)
    go_wp2_with (go_at_call 9; refine (KA.out _).mono ?_; rintro e W2 ⟨rfl, hb2⟩; have HB2 := hide (HB.out.trans (hb2.mono HB.out.size)); clear hb2)
    go_ret
    exact ⟨rfl, HB2.out⟩
end Go.Proofs.Ytmmkfcmbmecleaa.zoneSafe
