/- The document's Between: lengths told anew till nothing changes. -/
import Derived.Test.YtmkjpdmhplldjaaLng
namespace Go.Proofs.Ytmkjpdmhplldjaa
open Go.RowKit
set_option linter.unusedVariables false

theorem rd_heap {α : Type} {E : El Try.prog α} {w W : World} {v : Value} {xs : List α} (h : E.Rd w v xs) (e : W.heap = w.heap) : E.Rd W v xs := by
  rcases h with h | ⟨x, cap, h1, h2⟩
  · exact .inl h
  · refine .inr ⟨x, cap, h1, fun n hn => ?_⟩
    rw [← h2 n hn]
    unfold World.cell?
    rw [e]
theorem own_heap {α : Type} {E : El Try.prog α} {w W : World} {B : Nat} {v : Value} {xs : List α} (h : E.Own w B v xs) (e : W.heap = w.heap) : E.Own W B v xs := by
  obtain ⟨h0, h⟩ := h
  refine ⟨h0, ?_⟩
  rcases h with h | ⟨g, cap, cur, h1, h2, h3, h4⟩
  · exact .inl h
  · exact .inr ⟨g, cap, cur, h1, h2, by rw [e]; exact h3, h4⟩

/-- what stands in a block -/
def rdl (w : World) (g n : Nat) : List Int := (List.range n).map (fun i => match w.cell? ⟨g, i, none⟩ with | some (.int _ x) => x | _ => 0)
theorem rdl_own {w : World} {B g n : Nat} {l : List Int} (h : intE.Own w B (.slice (some ⟨g, 0, none⟩) n n) l) (hl : l.length = n) : rdl w g n = l := by
  apply List.ext_getElem?
  intro i
  rcases Nat.lt_or_ge i n with hi | hi
  · have hc := (h.at1 (Value.int .i64) (fun _ => rfl) rfl i _ (va_at l i (by omega))).1
    rw [va_at l i (by omega)]
    simp [rdl, hi, hc]
  · rw [List.getElem?_eq_none (by simp [rdl, hi]), List.getElem?_eq_none (by omega)]
def boolN : Value → Nat
  | .bool true => 1
  | _ => 0
/-- an edge is done, or needn't be -/
def Dn (ns : List Nd) (cl : List Bool) (es : List Ed) (s : Nat) (l : List Int) (j : Nat) : Prop := ∀ u v : Nat, cl[j]? = some false → es[j]? = some ((u : Int), (v : Int)) → (u = s ∨ Tk ns u) → 0 ≤ va l u → Don l u v
/-- how a pass stands: nothing changed and all edges so far are done, or something has grown less -/
def Ps (ns : List Nd) (cl : List Bool) (es : List Ed) (s n : Nat) (l0 l : List Int) (fl : Bool) (i : Nat) : Prop := (fl = false ∧ l = l0 ∧ ∀ j, j < i → Dn ns cl es s l j) ∨ (fl = true ∧ sm (wt n) l < sm (wt n) l0)
theorem Ps.same {ns : List Nd} {cl : List Bool} {es : List Ed} {s n : Nat} {l0 l : List Int} {fl : Bool} {i : Nat} (h : Ps ns cl es s n l0 l fl i) (hd : Dn ns cl es s l i) : Ps ns cl es s n l0 l fl (i + 1) := by
  rcases h with ⟨h1, h2, h3⟩ | h
  · refine .inl ⟨h1, h2, fun j hj => ?_⟩
    rcases Nat.lt_or_ge j i with h' | h'
    · exact h3 j h'
    · obtain rfl : j = i := by omega
      exact hd
  · exact .inr h
theorem Ps.less {ns : List Nd} {cl : List Bool} {es : List Ed} {s n : Nat} {l0 l l' : List Int} {fl : Bool} {i : Nat} (h : Ps ns cl es s n l0 l fl i) (hd : sm (wt n) l' < sm (wt n) l) (k : Nat) : Ps ns cl es s n l0 l' true k := by
  rcases h with ⟨h1, h2, h3⟩ | ⟨_, h⟩
  · subst h2; exact .inr ⟨rfl, hd⟩
  · exact .inr ⟨rfl, by omega⟩

theorem below_heap {B : Nat} {w W W' : World} (h : Below B w W) (e : W'.heap = W.heap) (e1 : W'.os = W.os) (e2 : W'.tape = W.tape) (e3 : W'.output = W.output) : Below B w W' :=
  ⟨by rw [e1]; exact h.os, by rw [e2]; exact h.tape, by rw [e3]; exact h.output, by rw [e]; exact h.size, by rw [e]; exact h.block⟩

set_option maxRecDepth 100000 in
set_option maxHeartbeats 8000000 in
theorem between_any (a a' aM : Option Addr) (c c' cM n m k0 s : Nat) (ns : List Nd) (es : List Ed) (ms : List Int) (w : World) (hn : ns.length = n) (hm : es.length = m) (hk0 : ms.length = k0) (hv : ndE.Rd w (.slice a n c) ns) (hu : edE.Rd w (.slice a' m c') es) (hM : intE.Rd w (.slice aM k0 cM) ms) (hn4 : n ≤ 1000) (hm4 : m ≤ 1000) (hk4 : k0 ≤ 100000) (hs : s < n) (hE : inB n es) :
    Calls Try.prog 50 #[.agg #[.slice a n c, .slice a' m c'], .slice aM k0 cM, .int .i64 (s : Int)] w fun e w' => (∃ g l, e = .returned (.slice (some ⟨g, 0, none⟩) n n) ∧ intE.Own w' w.heap.size (.slice (some ⟨g, 0, none⟩) n n) l ∧ Far (Eg es (clo m ms) 0) (Tk ns) s n l) ∧ Below w.heap.size w w' := by
  obtain ⟨W0, hW0⟩ : ∃ W0, w.alloc (.cells #[.slice a n c, .slice a' m c'] 25) = W0 := ⟨_, rfl⟩
  have bA : Below w.heap.size w W0 := by rw [← hW0]; exact (Below.refl _ _).alloc (Nat.le_refl _) _
  have hbox : W0.heap[w.heap.size]? = some (.cells #[.slice a n c, .slice a' m c'] 25) := by rw [← hW0]; exact heap_new _ _
  have d0 := (cells_at hbox 0).1
  simp at d0
  have HBOX := hide hbox
  obtain ⟨W1, hmk, ho1, hb1, hs1⟩ := made_ints W0 n (by omega)
  have HA := hide bA
  have Hb := hide hb1
  have Ho := hide ho1
  have HRN : Hid (∀ W, Below W0.heap.size W0 W → ndE.Rd W (.slice a n c) ns) := hide (fun W h => hv.keep (bA.trans (h.mono bA.size)))
  have HRE : Hid (∀ W, Below W0.heap.size W0 W → edE.Rd W (.slice a' m c') es) := hide (fun W h => hu.keep (bA.trans (h.mono bA.size)))
  have HRM : Hid (∀ W, Below W0.heap.size W0 W → intE.Rd W (.slice aM k0 cM) ms) := hide (fun W h => hM.keep (bA.trans (h.mono bA.size)))
  have Hn := hide hn
  have Hm := hide hm
  have Hk0 := hide hk0
  have Hk4 := hide hk4
  have HE := hide hE
  have Hs := hide hs
  have Hn40 := hide hn4
  have HW0 := hide hW0
  have i0 : (n : Int) ≤ 1000 := by omega
  have i1 : (m : Int) ≤ 1000 := by omega
  have s0 : (0 : Int) ≤ (s : Int) := by omega
  have s1 : (s : Int) < (n : Int) := by omega
  obtain ⟨g, hg⟩ : ∃ g, W0.heap.size = g := ⟨_, rfl⟩
  rw [hg] at hmk
  have Ho' : Hid (intE.Own W1 W0.heap.size (.slice (some ⟨g, 0, none⟩) n n) (List.replicate n 0)) := by rw [← hg]; exact Ho
  have Hg : Hid (W0.heap.size ≤ g) := hide (by omega)
  clear hv hu hM hn hm hk0 hk4 hn4 hm4 hs hE hbox bA hW0 ho1 hb1 hs1 hg Ho
  go_enter Try.func50, Try.ntmps50
  go_upto_region 1 with fail
  rw [HW0.out]
  clear HW0
  go_wp2_with fail
  go_loopw [19] (fun v19 wr => ∃ (k : Nat) (l : List Int), k ≤ n ∧ v19 = .int .i64 k ∧ Hid (intE.Own wr W0.heap.size (.slice (some ⟨g, 0, none⟩) n n) l) ∧ Hid (l.length = n ∧ ∀ i : Nat, i < k → l[i]? = some (-1)) ∧ Hid (Below W0.heap.size W0 wr)) (fun v19 _ => n - (intOf v19).toNat)
  case atStart => exact ⟨0, _, by omega, rfl, Ho', hide ⟨by simp, fun i hi => by omega⟩, Hb⟩
  case round =>
    obtain ⟨k, l, hk, rfl, HO, HX, HB⟩ := hrel
    by_cases hlt : k < n
    · obtain ⟨y0, f0⟩ := HO.out.at1 (Value.int .i64) (fun _ => rfl) rfl k _ (List.getElem?_eq_getElem (by rw [HX.out.1]; exact hlt))
      generalize l[k]'(by rw [HX.out.1]; exact hlt) = old at y0
      have j0 : (0 : Int) ≤ (k : Int) := by omega
      have j1 : (k : Int) < (n : Int) := by omega
      have HO1 : Hid (intE.Own (wr.setCell ⟨g, k, none⟩ (.int .i64 (-1))) W0.heap.size (.slice (some ⟨g, 0, none⟩) n n) (l.set k (-1))) := hide (HO.out.set (Value.int .i64) (fun _ => rfl) rfl k (-1))
      have HB1 : Hid (Below W0.heap.size W0 (wr.setCell ⟨g, k, none⟩ (.int .i64 (-1)))) := hide (HB.out.setCell (p := ⟨g, k, none⟩) Hg.out _)
      have HX1 : Hid ((l.set k (-1)).length = n ∧ ∀ i : Nat, i < k + 1 → (l.set k (-1))[i]? = some (-1)) := hide ⟨by rw [List.length_set]; exact HX.out.1, fun i hi => by
        rw [List.getElem?_set]
        by_cases e : k = i
        · rw [if_pos e, if_pos (by rw [HX.out.1]; exact hlt)]
        · rw [if_neg e]; exact HX.out.2 i (by omega)⟩
      go_wp2_with fail
      go_roundw
      case rel => exact ⟨k + 1, _, by omega, by go_num, HO1, HX1, HB1⟩
      case measure => simp [intOf]; omega
    · obtain rfl : k = n := by omega
      have j1 : ¬ (k : Int) < (k : Int) := by omega
      have hrep : l = List.replicate k (-1) := by
        apply List.ext_getElem?
        intro i
        rcases Nat.lt_or_ge i k with h | h
        · rw [HX.out.2 i h, List.getElem?_replicate, if_pos h]
        · rw [List.getElem?_eq_none (by rw [HX.out.1]; exact h), List.getElem?_eq_none (by simpa using h)]
      subst hrep
      obtain ⟨n, rfl⟩ : ∃ n', n' = k := ⟨_, rfl⟩
      obtain ⟨y0, f0⟩ := HO.out.at1 (Value.int .i64) (fun _ => rfl) rfl s (-1) (by rw [List.getElem?_replicate, if_pos Hs.out])
      have HO1 : Hid (intE.Own (wr.setCell ⟨g, s, none⟩ (.int .i64 0)) W0.heap.size (.slice (some ⟨g, 0, none⟩) n n) ((List.replicate n (-1)).set s 0)) := hide (HO.out.set (Value.int .i64) (fun _ => rfl) rfl s 0)
      have HB1 : Hid (Below W0.heap.size W0 (wr.setCell ⟨g, s, none⟩ (.int .i64 0))) := hide (HB.out.setCell (p := ⟨g, s, none⟩) Hg.out _)
      have HF1 : Hid (Fnd (Eg es (clo m ms) 0) (Tk ns) s n ((List.replicate n (-1)).set s 0) ∧ Low ((List.replicate n (-1)).set s 0)) := hide ⟨Fnd.start n Hs.out, low_start n Hs.out⟩
      go_wp2_with fail
      go_loopw [9] (fun v9 wr => ∃ (l : List Int) (fl : Bool), v9 = .bool fl ∧ Hid (intE.Own wr W0.heap.size (.slice (some ⟨g, 0, none⟩) n n) l) ∧ Hid (Below W0.heap.size W0 wr) ∧ Hid (Fnd (Eg es (clo m ms) 0) (Tk ns) s n l ∧ Low l) ∧ Hid (fl = false → ∀ j, j < m → Dn ns (clo m ms) es s l j)) (fun v9 wr => 2 * sm (wt n) (rdl wr g n) + boolN v9)
      case atStart => exact ⟨_, true, rfl, HO1, HB1, HF1, hide (fun h => by cases h)⟩
      case round =>
        clear HO HX HB HO1 HB1 HF1 y0 f0
        obtain ⟨l0, fl0, rfl, HO0, HB0, HF0, HD0⟩ := hrel
        obtain ⟨wA, hwA⟩ : ∃ W, W = wr := ⟨_, rfl⟩
        subst hwA
        have HR0 := hide (rdl_own HO0.out HF0.out.1.len)
        obtain ⟨d2, d3⟩ := layc HBOX.out HB0.out
        cases fl0 with
        | true =>
          go_wp2_with fail
          go_loopw [9, 33] (fun v9 v33 wr => ∃ (i : Nat) (l : List Int) (fl : Bool), i ≤ m ∧ v33 = .int .i64 i ∧ v9 = .bool fl ∧ Hid (intE.Own wr W0.heap.size (.slice (some ⟨g, 0, none⟩) n n) l) ∧ Hid (Below W0.heap.size W0 wr) ∧ Hid (Fnd (Eg es (clo m ms) 0) (Tk ns) s n l ∧ Low l) ∧ Hid (Ps ns (clo m ms) es s n l0 l fl i)) (fun _ v33 _ => m - (intOf v33).toNat)
          case atStart => exact ⟨0, l0, false, by omega, rfl, rfl, HO0, HB0, HF0, hide (.inl ⟨rfl, rfl, fun j hj => by omega⟩)⟩
          case round =>
            clear d2 d3
            obtain ⟨i, l, fl, hi, rfl, rfl, HO, HB, HF, HP⟩ := hrel
            by_cases hlt : i < m
            · obtain ⟨p, hp⟩ : ∃ p, es[i]? = some p := ⟨_, List.getElem?_eq_getElem (by rw [Hm.out]; exact hlt)⟩
              obtain ⟨y, z⟩ := p
              have hpb := HE.out _ (List.mem_of_getElem? hp)
              simp only at hpb
              obtain ⟨y', hy⟩ := Int.eq_ofNat_of_zero_le hpb.1
              obtain ⟨z', hz⟩ := Int.eq_ofNat_of_zero_le hpb.2.2.1
              subst hy
              subst hz
              obtain ⟨bE, offE, rfl, e0, e1⟩ := ed_at (HRE.out wr HB.out) i _ hp
              simp only at e0 e1
              obtain ⟨d2, d3⟩ := layc HBOX.out HB.out
              have j0 : (0 : Int) ≤ (i : Int) := by omega
              have j1 : (i : Int) < (m : Int) := by omega
              have Hp := hide hp
              have yn : (y' : Int) < (n : Int) := hpb.2.1
              have zn : (z' : Int) < (n : Int) := hpb.2.2.2
              have y0 : (0 : Int) ≤ (y' : Int) := hpb.1
              have z0 : (0 : Int) ≤ (z' : Int) := hpb.2.2.1
              obtain ⟨p, hpn⟩ : ∃ p, ns[y']? = some p := ⟨_, List.getElem?_eq_getElem (by rw [Hn.out]; omega)⟩
              obtain ⟨bN, offN, haN, _, cK, _⟩ := nd_at (HRN.out wr HB.out) y' p hpn
              have Hkd := hide (kind_at hpn)
              subst haN
              obtain ⟨cy, _⟩ := HO.out.at1 (Value.int .i64) (fun _ => rfl) rfl y' _ (va_at l y' (by rw [HF.out.1.len]; omega))
              obtain ⟨cz, fz⟩ := HO.out.at1 (Value.int .i64) (fun _ => rfl) rfl z' _ (va_at l z' (by rw [HF.out.1.len]; omega))
              obtain ⟨dy, hdy⟩ : ∃ d, va l y' = d := ⟨_, rfl⟩
              obtain ⟨dz, hdz⟩ : ∃ d, va l z' = d := ⟨_, rfl⟩
              rw [hdy] at cy
              rw [hdz] at cz
              have HdY := hide hdy
              have HdZ := hide hdz
              have Hzn := hide zn
              have hbd : Hid (-1 ≤ dy ∧ dy ≤ 1000) := hide ⟨by rw [← hdy]; exact HF.out.1.low y', by
                have h1 := HF.out.2 y'
                have h2 := cn_le l
                rw [HF.out.1.len] at h2
                rw [hdy] at h1
                omega⟩
              have hw1 : IntKind.i64.wrap (dy + 1) = dy + 1 := i64_small _ (by have := hbd.out; omega) (by have := hbd.out; omega)
              have K22 : Hid (∀ W d, W.heap = wr.heap → Calls Try.prog 45 #[.slice aM k0 cM, .int .i64 d] W fun e w' => e = .returned (.bool (decide (d ∉ ms))) ∧ w' = W) := hide (fun W d h => open_any aM cM k0 ms d W Hk0.out (rd_heap (HRM.out wr HB.out) h) Hk4.out)
              have ci : ((i : Int) + 1) = ((i + 1 : Nat) : Int) := by omega
              clear hp hpb hpn hdy hdz
              by_cases hy0 : dy < 0
              · have hyd : decide (dy < 0) = true := decide_eq_true hy0
                have Hps := hide (HP.out.same (fun u v hc he hT hu => by
                  rw [Hp.out] at he
                  simp only [Option.some.injEq, Prod.mk.injEq] at he
                  have e1 : u = y' := by omega
                  subst e1
                  rw [HdY.out] at hu
                  omega))
                clear HP ci
                go_upto_region 14 with fail
                go_quiet (fail)
                go_wp2_with fail
                go_roundw
                case rel => exact ⟨i + 1, l, fl, by omega, by go_num, rfl, hide (own_heap HO.out rfl), hide (below_heap HB.out rfl rfl rfl rfl), HF, Hps⟩
                case measure => simp [intOf]; omega
              · have hyd : decide (dy < 0) = false := decide_eq_false hy0
                by_cases hys : y' = s
                · have HT : Hid (y' = s ∨ Tk ns y') := hide (.inl hys)
                  have hne : ((y' : Int) != (s : Int)) = false := by rw [hys]; exact bne_self_eq_false _
                  clear hys ci
                  by_cases hop : ((i : Int) + 1) ∈ ms
                  · have top : decide (((i : Int) + 1) ∉ ms) = false := decide_eq_false (fun h => h hop)
                    have Hps := hide (HP.out.same (fun u v hc he hT hu => by
                      rw [clo_at m ms i hlt, decide_eq_true (show ((i + 1 : Nat) : Int) ∈ ms from hop)] at hc; cases hc))
                    clear hop HP
                    go_upto_region 14 with fail
                    go_quiet (fail)
                    go_wp2_with (go_at_call 45; refine (K22.out _ ((i : Int) + 1) (by rfl)).mono ?_; rintro e W2 ⟨rfl, rfl⟩; rw [top])
                    go_roundw
                    case rel => exact ⟨i + 1, l, fl, by omega, by go_num, rfl, hide (own_heap HO.out rfl), hide (below_heap HB.out rfl rfl rfl rfl), HF, Hps⟩
                    case measure => simp [intOf]; omega
                  · have top : decide (((i : Int) + 1) ∉ ms) = true := decide_eq_true hop
                    have HEg : Hid (Eg es (clo m ms) 0 y' z') := hide ⟨i, by rw [clo_at m ms i hlt, decide_eq_false (show ¬ ((i + 1 : Nat) : Int) ∈ ms from hop)], by rw [Hp.out]; rfl⟩
                    clear hop
                    by_cases hch : dz < 0 ∨ dy + 1 < dz
                    · have L2 := low_set HF.out.1 HF.out.2 y' z' (by rw [HdY.out]; omega) (by have := Hzn.out; omega) (by rw [HdY.out, HdZ.out]; exact hch)
                      have F2 := HF.out.1.set y' z' (by rw [HdY.out]; omega) HT.out HEg.out (by have := Hzn.out; omega) (fun e => by
                        have hz0 := HF.out.1.zero
                        rw [← e, HdZ.out] at hz0
                        omega)
                      rw [HdY.out] at L2 F2
                      have HF2 := hide (And.intro F2 L2.1)
                      have Hps := hide (HP.out.less L2.2 (i + 1))
                      clear L2 F2 HP
                      rcases Classical.em (dz < 0) with hzn | hzn
                      · have hzd : decide (dz < 0) = true := decide_eq_true hzn
                        clear hch
                        go_upto_region 14 with fail
                        go_quiet (fail)
                        go_upto_region 16 with (go_at_call 45; refine (K22.out _ ((i : Int) + 1) (by rfl)).mono ?_; rintro e W2 ⟨rfl, rfl⟩; rw [top])
                        go_quiet (fail)
                        go_wp2_with fail
                        go_roundw
                        case rel => exact ⟨i + 1, _, true, by omega, by go_num, rfl, hide ((own_heap HO.out rfl).set (Value.int .i64) (fun _ => rfl) rfl z' (dy + 1)), hide (Below.setCell (p := ⟨g, z', none⟩) (below_heap HB.out (by rfl) (by rfl) (by rfl) (by rfl)) Hg.out _), HF2, Hps⟩
                        case measure => simp [intOf]; omega
                      · have hlt2 : dy + 1 < dz := hch.elim (fun h => absurd h hzn) id
                        have hzd : decide (dz < 0) = false := decide_eq_false hzn
                        have hld : decide (dy + 1 < dz) = true := decide_eq_true hlt2
                        clear hch
                        go_upto_region 14 with fail
                        go_quiet (fail)
                        go_upto_region 16 with (go_at_call 45; refine (K22.out _ ((i : Int) + 1) (by rfl)).mono ?_; rintro e W2 ⟨rfl, rfl⟩; rw [top])
                        go_quiet (fail)
                        go_wp2_with fail
                        go_roundw
                        case rel => exact ⟨i + 1, _, true, by omega, by go_num, rfl, hide ((own_heap HO.out rfl).set (Value.int .i64) (fun _ => rfl) rfl z' (dy + 1)), hide (Below.setCell (p := ⟨g, z', none⟩) (below_heap HB.out (by rfl) (by rfl) (by rfl) (by rfl)) Hg.out _), HF2, Hps⟩
                        case measure => simp [intOf]; omega
                    · have hzn : ¬ dz < 0 := fun h => hch (.inl h)
                      have hle : ¬ dy + 1 < dz := fun h => hch (.inr h)
                      have hzd : decide (dz < 0) = false := decide_eq_false hzn
                      have hld : decide (dy + 1 < dz) = false := decide_eq_false hle
                      have Hps := hide (HP.out.same (fun u v hc he hT hu => by
                        rw [Hp.out] at he
                        simp only [Option.some.injEq, Prod.mk.injEq] at he
                        have e1 : u = y' := by omega
                        have e2 : v = z' := by omega
                        subst e1
                        subst e2
                        unfold Don
                        rw [HdY.out, HdZ.out]
                        omega))
                      clear hch HP
                      go_upto_region 14 with fail
                      go_quiet (fail)
                      go_upto_region 16 with (go_at_call 45; refine (K22.out _ ((i : Int) + 1) (by rfl)).mono ?_; rintro e W2 ⟨rfl, rfl⟩; rw [top])
                      go_quiet (fail)
                      go_wp2_with fail
                      go_roundw
                      case rel => exact ⟨i + 1, l, fl, by omega, by go_num, rfl, hide (own_heap HO.out rfl), hide (below_heap HB.out rfl rfl rfl rfl), HF, Hps⟩
                      case measure => simp [intOf]; omega
                · have hne : ((y' : Int) != (s : Int)) = true := bne_iff_ne.2 (by omega)
                  by_cases hkd : p.kind = 1
                  · have HT : Hid (y' = s ∨ Tk ns y') := hide (.inr (by unfold Tk; rw [Hkd.out]; exact hkd))
                    have hkb : (p.kind != 1) = false := by rw [hkd]; rfl
                    clear hys hkd ci
                    by_cases hop : ((i : Int) + 1) ∈ ms
                    · have top : decide (((i : Int) + 1) ∉ ms) = false := decide_eq_false (fun h => h hop)
                      have Hps := hide (HP.out.same (fun u v hc he hT hu => by
                        rw [clo_at m ms i hlt, decide_eq_true (show ((i + 1 : Nat) : Int) ∈ ms from hop)] at hc; cases hc))
                      clear hop HP
                      go_upto_region 14 with fail
                      go_quiet (fail)
                      go_wp2_with (go_at_call 45; refine (K22.out _ ((i : Int) + 1) (by rfl)).mono ?_; rintro e W2 ⟨rfl, rfl⟩; rw [top])
                      go_roundw
                      case rel => exact ⟨i + 1, l, fl, by omega, by go_num, rfl, hide (own_heap HO.out rfl), hide (below_heap HB.out rfl rfl rfl rfl), HF, Hps⟩
                      case measure => simp [intOf]; omega
                    · have top : decide (((i : Int) + 1) ∉ ms) = true := decide_eq_true hop
                      have HEg : Hid (Eg es (clo m ms) 0 y' z') := hide ⟨i, by rw [clo_at m ms i hlt, decide_eq_false (show ¬ ((i + 1 : Nat) : Int) ∈ ms from hop)], by rw [Hp.out]; rfl⟩
                      clear hop
                      by_cases hch : dz < 0 ∨ dy + 1 < dz
                      · have L2 := low_set HF.out.1 HF.out.2 y' z' (by rw [HdY.out]; omega) (by have := Hzn.out; omega) (by rw [HdY.out, HdZ.out]; exact hch)
                        have F2 := HF.out.1.set y' z' (by rw [HdY.out]; omega) HT.out HEg.out (by have := Hzn.out; omega) (fun e => by
                          have hz0 := HF.out.1.zero
                          rw [← e, HdZ.out] at hz0
                          omega)
                        rw [HdY.out] at L2 F2
                        have HF2 := hide (And.intro F2 L2.1)
                        have Hps := hide (HP.out.less L2.2 (i + 1))
                        clear L2 F2 HP
                        rcases Classical.em (dz < 0) with hzn | hzn
                        · have hzd : decide (dz < 0) = true := decide_eq_true hzn
                          clear hch
                          go_upto_region 14 with fail
                          go_quiet (fail)
                          go_upto_region 16 with (go_at_call 45; refine (K22.out _ ((i : Int) + 1) (by rfl)).mono ?_; rintro e W2 ⟨rfl, rfl⟩; rw [top])
                          go_quiet (fail)
                          go_wp2_with fail
                          go_roundw
                          case rel => exact ⟨i + 1, _, true, by omega, by go_num, rfl, hide ((own_heap HO.out rfl).set (Value.int .i64) (fun _ => rfl) rfl z' (dy + 1)), hide (Below.setCell (p := ⟨g, z', none⟩) (below_heap HB.out (by rfl) (by rfl) (by rfl) (by rfl)) Hg.out _), HF2, Hps⟩
                          case measure => simp [intOf]; omega
                        · have hlt2 : dy + 1 < dz := hch.elim (fun h => absurd h hzn) id
                          have hzd : decide (dz < 0) = false := decide_eq_false hzn
                          have hld : decide (dy + 1 < dz) = true := decide_eq_true hlt2
                          clear hch
                          go_upto_region 14 with fail
                          go_quiet (fail)
                          go_upto_region 16 with (go_at_call 45; refine (K22.out _ ((i : Int) + 1) (by rfl)).mono ?_; rintro e W2 ⟨rfl, rfl⟩; rw [top])
                          go_quiet (fail)
                          go_wp2_with fail
                          go_roundw
                          case rel => exact ⟨i + 1, _, true, by omega, by go_num, rfl, hide ((own_heap HO.out rfl).set (Value.int .i64) (fun _ => rfl) rfl z' (dy + 1)), hide (Below.setCell (p := ⟨g, z', none⟩) (below_heap HB.out (by rfl) (by rfl) (by rfl) (by rfl)) Hg.out _), HF2, Hps⟩
                          case measure => simp [intOf]; omega
                      · have hzn : ¬ dz < 0 := fun h => hch (.inl h)
                        have hle : ¬ dy + 1 < dz := fun h => hch (.inr h)
                        have hzd : decide (dz < 0) = false := decide_eq_false hzn
                        have hld : decide (dy + 1 < dz) = false := decide_eq_false hle
                        have Hps := hide (HP.out.same (fun u v hc he hT hu => by
                          rw [Hp.out] at he
                          simp only [Option.some.injEq, Prod.mk.injEq] at he
                          have e1 : u = y' := by omega
                          have e2 : v = z' := by omega
                          subst e1
                          subst e2
                          unfold Don
                          rw [HdY.out, HdZ.out]
                          omega))
                        clear hch HP
                        go_upto_region 14 with fail
                        go_quiet (fail)
                        go_upto_region 16 with (go_at_call 45; refine (K22.out _ ((i : Int) + 1) (by rfl)).mono ?_; rintro e W2 ⟨rfl, rfl⟩; rw [top])
                        go_quiet (fail)
                        go_wp2_with fail
                        go_roundw
                        case rel => exact ⟨i + 1, l, fl, by omega, by go_num, rfl, hide (own_heap HO.out rfl), hide (below_heap HB.out rfl rfl rfl rfl), HF, Hps⟩
                        case measure => simp [intOf]; omega
                  · have hkb : (p.kind != 1) = true := bne_iff_ne.2 hkd
                    have Hps := hide (HP.out.same (fun u v hc he hT hu => by
                      rw [Hp.out] at he
                      simp only [Option.some.injEq, Prod.mk.injEq] at he
                      have e1 : u = y' := by omega
                      subst e1
                      exact absurd hT (fun h => h.elim hys (fun h => hkd (by unfold Tk at h; rw [Hkd.out] at h; exact h)))))
                    clear HP hys hkd ci
                    go_upto_region 14 with fail
                    go_quiet (fail)
                    go_wp2_with fail
                    go_roundw
                    case rel => exact ⟨i + 1, l, fl, by omega, by go_num, rfl, hide (own_heap HO.out rfl), hide (below_heap HB.out rfl rfl rfl rfl), HF, Hps⟩
                    case measure => simp [intOf]; omega
            · obtain rfl : i = m := by omega
              have j1 : ¬ (i : Int) < (i : Int) := by omega
              have HR1 := hide (rdl_own HO.out HF.out.1.len)
              have HD1 : Hid (fl = false → ∀ j, j < i → Dn ns (clo i ms) es s l j) := hide (fun h => by
                rcases HP.out with ⟨_, _, h3⟩ | ⟨h1, _⟩
                · exact h3
                · rw [h] at h1; cases h1)
              have HM : Hid (2 * sm (wt n) l + boolN (.bool fl) < 2 * sm (wt n) l0 + boolN (.bool true)) := hide (by
                rcases HP.out with ⟨h1, h2, _⟩ | ⟨h1, h2⟩
                · subst h1; subst h2; simp [boolN]
                · subst h1; simp only [boolN]; omega)
              go_wp2_with fail
              go_roundw
              case rel => exact ⟨l, fl, rfl, HO, HB, HF, HD1⟩
              case measure =>
                have h1 := HM.out
                rw [← HR1.out, ← HR0.out] at h1
                first | exact h1 | simpa using h1
        | false =>
          have HFar : Hid (Far (Eg es (clo m ms) 0) (Tk ns) s n l0) := hide (HF0.out.1.far (fun u v hEg hT hu => by
            obtain ⟨j, h1, h2⟩ := hEg
            have hj : j < m := by
              rcases Nat.lt_or_ge j es.length with h' | h'
              · rw [Hm.out] at h'; exact h'
              · rw [List.getElem?_eq_none h'] at h2; cases h2
            exact HD0.out rfl j hj u v h1 h2 hT hu))
          go_wp2_with fail
          go_ret
          exact ⟨⟨g, rfl, l0, HO0.out.mono HA.out.size, HFar.out⟩, HA.out.trans (HB0.out.mono HA.out.size)⟩
end Go.Proofs.Ytmkjpdmhplldjaa
