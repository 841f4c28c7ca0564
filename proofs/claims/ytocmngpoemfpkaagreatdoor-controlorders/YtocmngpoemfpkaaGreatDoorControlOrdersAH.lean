/- ControlOrders: texts Lng. -/
import Derived.Test.YtocmngpoemfpkaaGreatDoorControlOrdersAG
import Derived.WalkMore
namespace Go.Proofs.YtocmngpoemfpkaaGreatDoor
open Go.RowKit
set_option linter.unusedVariables false
def Eg (es : List Ed) (cl : List Bool) (near : Nat) (u v : Nat) : Prop := ∃ i : Nat, cl[i]? = some false ∧ es[i]? = some (if near = 0 then ((u : Int), (v : Int)) else ((v : Int), (u : Int)))
def Tk (ns : List Nd) (u : Nat) : Prop := kindAt ns (u : Int) = 1
def inB (n : Nat) (es : List Ed) : Prop := ∀ e ∈ es, 0 ≤ e.1 ∧ e.1 < (n : Int) ∧ 0 ≤ e.2 ∧ e.2 < (n : Int)
def ints (q : List Nat) : List Int := q.map Int.ofNat
theorem ints_len (q : List Nat) : (ints q).length = q.length := by simp [ints]
theorem ints_app (q : List Nat) (v : Nat) : ints (q ++ [v]) = ints q ++ [(v : Int)] := by simp [ints]
theorem ints_at (q : List Nat) (k v : Nat) (h : q[k]? = some v) : (ints q)[k]? = some (v : Int) := by simp [ints, h]
structure LS (W0 : World) (g n : Nat) (W : World) (vq : Value) (l : List Int) (q : List Nat) : Prop where
  far : intE.Own W W0.heap.size (.slice (some ⟨g, 0, none⟩) n n) l
  que : intE.Own W W0.heap.size vq (ints q)
  sep : Sep vq (.slice (some ⟨g, 0, none⟩) n n)
  bel : Below W0.heap.size W0 W
theorem LS.keep {W0 W W' : World} {g n : Nat} {vq : Value} {l : List Int} {q : List Nat} (h : LS W0 g n W vq l q) (hb : Below W.heap.size W W') : LS W0 g n W' vq l q :=
  ⟨h.far.keep hb, h.que.keep hb, h.sep, h.bel.trans (hb.mono h.bel.size)⟩
theorem LS.alloc {W0 W : World} {g n : Nat} {vq : Value} {l : List Int} {q : List Nat} (h : LS W0 g n W vq l q) (o : Obj) : LS W0 g n (W.alloc o) vq l q :=
  h.keep ((Below.refl _ _).alloc (Nat.le_refl _) _)
theorem LS.set {W0 W : World} {g n : Nat} {vq : Value} {l : List Int} {q : List Nat} (h : LS W0 g n W vq l q) (i : Nat) (x : Int) : LS W0 g n (W.setCell ⟨g, i, none⟩ (.int .i64 x)) vq (l.set i x) q :=
  ⟨h.far.set (Value.int .i64) (fun _ => rfl) rfl i x, own_set_other h.que (fun e => h.sep g e rfl), h.sep, h.bel.setCell (p := ⟨g, i, none⟩) (h.far.ge g rfl) _⟩
theorem LS.app {W0 W W' : World} {g n v : Nat} {vq vq' : Value} {l : List Int} {q : List Nat} (h : LS W0 g n W vq l q) (ho : intE.Own W' W0.heap.size vq' (ints q ++ [(v : Int)])) (hg : W.grownBy W' vq.ownBlock) (hv : vq'.ownBlock = vq.ownBlock ∨ vq'.ownBlock = some W.heap.size) (hb : Below W0.heap.size W0 W') : LS W0 g n W' vq' l (q ++ [v]) :=
  ⟨El.Own.kept h.sep h.far hg, by rw [ints_app]; exact ho, El.Own.sep h.sep h.far hv, hb⟩
theorem LS.at {W0 W : World} {g n : Nat} {vq : Value} {l : List Int} {q : List Nat} (h : LS W0 g n W vq l q) (v : Nat) (hv : v < l.length) : W.cell? ⟨g, v, none⟩ = some (.int .i64 (va l v)) ∧ W.frozen? ⟨g, v, none⟩ = false :=
  h.far.at1 (Value.int .i64) (fun _ => rfl) rfl v _ (va_at l v hv)
theorem kind_at {ns : List Nd} {i : Nat} {p : Nd} (h : ns[i]? = some p) : kindAt ns (i : Int) = p.kind := by simp [kindAt, h]
theorem i64_small (x : Int) (h0 : -1 ≤ x) (h1 : x ≤ 1000000) : IntKind.i64.wrap x = x := by unfold IntKind.wrap; simp [IntKind.bits, IntKind.signed]; omega
theorem layc {w W0 W1 : World} {vN vE : Value} (hbox : W0.heap[w.heap.size]? = some (.cells #[vN, vE] 25)) (hb : Below W0.heap.size W0 W1) : W1.cell? ⟨w.heap.size, 0, none⟩ = some vN ∧ W1.cell? ⟨w.heap.size, 1, none⟩ = some vE := by
  rw [hb.cell (p := ⟨w.heap.size, 0, none⟩) (heap_lt hbox), hb.cell (p := ⟨w.heap.size, 1, none⟩) (heap_lt hbox)]
  exact ⟨(cells_at hbox 0).1, (cells_at hbox 1).1⟩
theorem dst_le {E : Nat → Nat → Prop} {T : Nat → Prop} {s n k v : Nat} {l : List Int} {q : List Nat} (h : Que T E s n l q k) (hv : v ∈ q) (hn : n ≤ 1000) : va l v ≤ 100000 := by
  obtain ⟨i, hi⟩ := List.getElem?_of_mem hv
  have := h.idx i v hi
  have := h.size
  have : i < q.length := by
    rcases Nat.lt_or_ge i q.length with h' | h'
    · exact h'
    · rw [List.getElem?_eq_none h'] at hi; cases hi
  omega
set_option maxRecDepth 100000 in
set_option maxHeartbeats 8000000 in
theorem lengths_from (a a' aC : Option Addr) (c c' cC n m s : Nat) (ns : List Nd) (es : List Ed) (cl : List Bool) (w : World) (hn : ns.length = n) (hm : es.length = m) (hc : cl.length = m) (hv : ndE.Rd w (.slice a n c) ns) (hu : edE.Rd w (.slice a' m c') es) (hC : boolE.Rd w (.slice aC m cC) cl) (hn4 : n ≤ 1000) (hm4 : m ≤ 1000) (hs : s < n) (hE : inB n es) :
    Calls Tryz.prog 97 #[.agg #[.slice a n c, .slice a' m c'], .slice aC m cC, .int .i64 (s : Int), .int .i64 0] w fun e w' => (∃ g l, e = .returned (.slice (some ⟨g, 0, none⟩) n n) ∧ intE.Own w' w.heap.size (.slice (some ⟨g, 0, none⟩) n n) l ∧ Far (Eg es cl 0) (Tk ns) s n l) ∧ Below w.heap.size w w' := by
  obtain ⟨W0, hW0⟩ : ∃ W0, w.alloc (.cells #[.slice a n c, .slice a' m c'] 25) = W0 := ⟨_, rfl⟩
  have bA : Below w.heap.size w W0 := by rw [← hW0]; exact (Below.refl _ _).alloc (Nat.le_refl _) _
  have hbox : W0.heap[w.heap.size]? = some (.cells #[.slice a n c, .slice a' m c'] 25) := by rw [← hW0]; exact heap_new _ _
  have d0 := (cells_at hbox 0).1
  simp at d0
  have HBOX := hide hbox
  obtain ⟨W1, hmk, ho1, hb1, hs1⟩ := made_ints W0 n (by omega)
  have HA := hide bA
  have Hb := hide hb1
  have Ho := hide ho1
  have HRN : Hid (∀ W, Below W0.heap.size W0 W → ndE.Rd W (.slice a n c) ns) := hide (fun W h => hv.keep (bA.trans (h.mono bA.size)))
  have HRE : Hid (∀ W, Below W0.heap.size W0 W → edE.Rd W (.slice a' m c') es) := hide (fun W h => hu.keep (bA.trans (h.mono bA.size)))
  have HRC : Hid (∀ W, Below W0.heap.size W0 W → boolE.Rd W (.slice aC m cC) cl) := hide (fun W h => hC.keep (bA.trans (h.mono bA.size)))
  have Hn := hide hn
  have Hm := hide hm
  have Hcl := hide hc
  have HE := hide hE
  have Hs := hide hs
  have Hn40 := hide hn4
  have HW0 := hide hW0
  have K25 := hide (fun i W => w_isPlace_any a a' n c m c' i W)
  have i0 : (n : Int) ≤ 1000 := by omega
  have i1 : (m : Int) ≤ 1000 := by omega
  have s0 : (0 : Int) ≤ (s : Int) := by omega
  have s1 : (s : Int) < (n : Int) := by omega
  obtain ⟨g, hg⟩ : ∃ g, W0.heap.size = g := ⟨_, rfl⟩
  rw [hg] at hmk
  have Ho' : Hid (intE.Own W1 W0.heap.size (.slice (some ⟨g, 0, none⟩) n n) (List.replicate n 0)) := by rw [← hg]; exact Ho
  have Hg : Hid (W0.heap.size ≤ g) := hide (by omega)
  clear hv hu hC hn hm hc hn4 hm4 hs hE hbox bA hW0 ho1 hb1 hs1 hg Ho
  go_enter Tryz.func97, Tryz.ntmps97
  go_wp2_with fail
  rw [HW0.out]
  clear HW0
  go_step3
  go_wp2_with fail
  go_loopw [23] (fun v23 wr => ∃ (k : Nat) (l : List Int), k ≤ n ∧ v23 = .int .i64 k ∧ Hid (intE.Own wr W0.heap.size (.slice (some ⟨g, 0, none⟩) n n) l) ∧ Hid (l.length = n ∧ ∀ i : Nat, i < k → l[i]? = some (-1)) ∧ Hid (Below W0.heap.size W0 wr)) (fun v23 _ => n - (intOf v23).toNat)
  case atStart => exact ⟨0, _, by omega, rfl, Ho', hide ⟨by simp, fun i hi => by omega⟩, Hb⟩
  case round =>
    obtain ⟨k, l, hk, rfl, HO, HX, HB⟩ := hrel
    by_cases hlt : k < n
    · obtain ⟨y0, f0⟩ := HO.out.at1 (Value.int .i64) (fun _ => rfl) rfl k _ (List.getElem?_eq_getElem (by rw [HX.out.1]; exact hlt))
      generalize l[k]'(by rw [HX.out.1]; exact hlt) = old at y0
      have j0 : (0 : Int) ≤ (k : Int) := by omega
      have j1 : (k : Int) < (n : Int) := by omega
      have HO1 : Hid (intE.Own (wr.setCell ⟨g, k, none⟩ (.int .i64 (-1))) W0.heap.size (.slice (some ⟨g, 0, none⟩) n n) (l.set k (-1))) := hide (HO.out.set (Value.int .i64) (fun _ => rfl) rfl k (-1))
      have HB1 : Hid (Below W0.heap.size W0 (wr.setCell ⟨g, k, none⟩ (.int .i64 (-1)))) := hide (HB.out.setCell (p := ⟨g, k, none⟩) Hg.out _)
      have HX1 : Hid ((l.set k (-1)).length = n ∧ ∀ i : Nat, i < k + 1 → (l.set k (-1))[i]? = some (-1)) := hide ⟨by rw [List.length_set]; exact HX.out.1, fun i hi => by
        rw [List.getElem?_set]
        by_cases e : k = i
        · rw [if_pos e, if_pos (by rw [HX.out.1]; exact hlt)]
        · rw [if_neg e]; exact HX.out.2 i (by omega)⟩
      go_wp2_with fail
      go_roundw
      case rel => exact ⟨k + 1, _, by omega, by go_num, HO1, HX1, HB1⟩
      case measure => simp [intOf]; omega
    · obtain rfl : k = n := by omega
      have j1 : ¬ (k : Int) < (k : Int) := by omega
      have hrep : l = List.replicate k (-1) := by
        apply List.ext_getElem?
        intro i
        rcases Nat.lt_or_ge i k with h | h
        · rw [HX.out.2 i h, List.getElem?_replicate, if_pos h]
        · rw [List.getElem?_eq_none (by rw [HX.out.1]; exact h), List.getElem?_eq_none (by simpa using h)]
      subst hrep
      obtain ⟨n, rfl⟩ : ∃ n', n' = k := ⟨_, rfl⟩
      obtain ⟨y0, f0⟩ := HO.out.at1 (Value.int .i64) (fun _ => rfl) rfl s (-1) (by rw [List.getElem?_replicate, if_pos Hs.out])
      have HLS : Hid (LS W0 g n ((wr.setCell ⟨g, s, none⟩ (.int .i64 0)).alloc (.cells #[.int .i64 (s : Int)] 3)) (.slice (some ⟨wr.heap.size, 0, none⟩) 1 1) ((List.replicate n (-1)).set s 0) [s]) := hide (by
        have h1 := HO.out.set (Value.int .i64) (fun _ => rfl) rfl s 0
        have h2 := HB.out.setCell (p := ⟨g, s, none⟩) Hg.out (.int .i64 0)
        have hb3 : Below (wr.setCell ⟨g, s, none⟩ (.int .i64 0)).heap.size (wr.setCell ⟨g, s, none⟩ (.int .i64 0)) ((wr.setCell ⟨g, s, none⟩ (.int .i64 0)).alloc (.cells #[.int .i64 (s : Int)] 3)) := (Below.refl _ _).alloc (Nat.le_refl _) _
        refine ⟨h1.keep hb3, El.Own.new intE _ _ h2.size _ (ints [s]) rfl (by simp [ints]) _ _ _ (by simp) rfl rfl, ?_, h2.trans (hb3.mono h2.size)⟩
        intro x hx hx'
        simp [Value.ownBlock] at hx hx'
        have := HO.out.lt g rfl
        omega)
      have HQS : Hid (Que (Tk ns) (Eg es cl 0) s n ((List.replicate n (-1)).set s 0) [s] 0) := hide (Que.start n Hs.out)
      go_wp2_with fail
      go_step3
      go_wp2_with fail
      go_loopw [11, 12] (fun v11 v12 wr => ∃ (k : Nat) (l : List Int) (q : List Nat), Hid (k ≤ q.length) ∧ v12 = .int .i64 k ∧ Hid (LS W0 g n wr v11 l q) ∧ Hid (Que (Tk ns) (Eg es cl 0) s n l q k)) (fun _ v12 _ => n - (intOf v12).toNat)
      case atStart => exact ⟨0, _, [s], hide (by simp), rfl, HLS, HQS⟩
      case round =>
        clear HO HX HB HLS HQS y0 f0
        obtain ⟨k, l, q, Hk, rfl, HL, HQ⟩ := hrel
        obtain ⟨aq, cq, hvq⟩ := HL.out.que.rd.form
        rw [ints_len] at hvq
        obtain ⟨nq, hnq⟩ : ∃ nq, q.length = nq := ⟨_, rfl⟩
        rw [hnq] at hvq
        subst hvq
        have Hnq := hide hnq
        have iq : (nq : Int) ≤ 1000 := by have := HQ.out.size; omega
        by_cases hlt : k < nq
        · obtain ⟨nd, hnd⟩ : ∃ nd, q[k]? = some nd := ⟨_, List.getElem?_eq_getElem (by rw [hnq]; exact hlt)⟩
          obtain ⟨bq, oq, rfl, c0⟩ := int_at HL.out.que.rd k _ (ints_at q k nd hnd)
          have j0 : (0 : Int) ≤ (k : Int) := by omega
          have j1 : (k : Int) < (nq : Int) := by omega
          have Hnd := hide hnd
          obtain ⟨x0, x1⟩ := layc HBOX.out HL.out.bel
          have hndn := HQ.out.lt (List.mem_of_getElem? hnd)
          obtain ⟨p, hp⟩ : ∃ p, ns[nd]? = some p := ⟨_, List.getElem?_eq_getElem (by rw [Hn.out]; exact hndn)⟩
          obtain ⟨bN, offN, haN, _, cK, _⟩ := nd_at (HRN.out wr HL.out.bel) nd p hp
          have Hkd := hide (kind_at hp)
          have t0 : (0 : Int) ≤ (nd : Int) := by omega
          have t1 : (nd : Int) < (n : Int) := by omega
          have Hndn := hide hndn
          clear hnq hnd hp hndn
          subst haN
          by_cases hns : nd = s
          · have HT : Hid (nd = s ∨ Tk ns nd) := hide (.inl hns)
            have hne : ((nd : Int) != (s : Int)) = false := by rw [hns]; exact bne_self_eq_false _
            clear hns t0 t1
            go_wp2_with fail
            go_loopw [11, 60] (fun v11 v60 wr => ∃ (i : Nat) (l : List Int) (q : List Nat), i ≤ m ∧ v60 = .int .i64 i ∧ Hid (LS W0 g n wr v11 l q) ∧ Hid (Que (Tk ns) (Eg es cl 0) s n l q k) ∧ Hid (q[k]? = some nd) ∧ Hid (∀ (j v : Nat), j < i → cl[j]? = some false → es[j]? = some ((nd : Int), (v : Int)) → Don l nd v)) (fun _ v60 _ => m - (intOf v60).toNat)
            case atStart => exact ⟨0, l, q, by omega, rfl, HL, HQ, Hnd, hide (fun j v hj => by omega)⟩
            case round =>
              clear HL HQ
              obtain ⟨i, l, q, hi, rfl, HL, HQ, Hnd, HD⟩ := hrel
              by_cases hlt : i < m
              · obtain ⟨p, hp⟩ : ∃ p, es[i]? = some p := ⟨_, List.getElem?_eq_getElem (by rw [Hm.out]; exact hlt)⟩
                obtain ⟨y, z⟩ := p
                have hpb := HE.out _ (List.mem_of_getElem? hp)
                simp only at hpb
                obtain ⟨y', hy⟩ := Int.eq_ofNat_of_zero_le hpb.1
                obtain ⟨z', hz⟩ := Int.eq_ofNat_of_zero_le hpb.2.2.1
                subst hy
                subst hz
                obtain ⟨bE, offE, rfl, e0, e1⟩ := ed_at (HRE.out wr HL.out.bel) i _ hp
                simp only at e0 e1
                obtain ⟨cb, hcb⟩ : ∃ cb, cl[i]? = some cb := ⟨_, List.getElem?_eq_getElem (by rw [Hcl.out]; exact hlt)⟩
                obtain ⟨bC, offC, rfl, cc⟩ := bool_at (HRC.out _ (HL.out.alloc (.cells #[.int .i64 (y' : Int), .int .i64 (z' : Int)] 78)).bel) i _ hcb
                have j0 : (0 : Int) ≤ (i : Int) := by omega
                have j1 : (i : Int) < (m : Int) := by omega
                have HL1 : Hid (LS W0 g n (wr.alloc (.cells #[.int .i64 (y' : Int), .int .i64 (z' : Int)] 78)) u11 l q) := hide (HL.out.alloc _)
                have Hp := hide hp
                have Hcb := hide hcb
                have HD1 : Hid ((cb = false → y' = nd → Don l nd z') → ∀ (j v : Nat), j < i + 1 → cl[j]? = some false → es[j]? = some ((nd : Int), (v : Int)) → Don l nd v) := hide (fun h j v hj h1 h2 => by
                  rcases Nat.lt_or_ge j i with h' | h'
                  · exact HD.out j v h' h1 h2
                  · obtain rfl : j = i := by omega
                    rw [Hcb.out] at h1
                    rw [Hp.out] at h2
                    simp only [Option.some.injEq, Prod.mk.injEq] at h1 h2
                    have e1 : y' = nd := by omega
                    have e2 : z' = v := by omega
                    rw [← e2]
                    exact h h1 e1)
                have db : Hid ((y' : Int) < n ∧ (z' : Int) < n) := hide ⟨hpb.2.1, hpb.2.2.2⟩
                have dx := layc (W1 := wr.alloc (.cells #[.int .i64 (y' : Int), .int .i64 (z' : Int)] 78)) HBOX.out HL1.out.bel
                obtain ⟨dx0, dx1⟩ := dx
                clear hp hpb hcb
                cases cb with
                | true =>
                  have HD2 := hide (HD1.out (fun h => by cases h))
                  clear HD1
                  go_wp2_with fail
                  go_roundw
                  case rel => exact ⟨i + 1, l, q, by omega, by go_num, HL1, HQ, Hnd, HD2⟩
                  case measure => simp [intOf]; omega
                | false =>
                  by_cases hnr : y' = nd
                  · have HdB := hide (And.intro db.out.1 db.out.2)
                    have tp : decide (0 ≤ (z' : Int) ∧ (z' : Int) < (n : Int)) = true := decide_eq_true ⟨by omega, by have := HdB.out; omega⟩
                    have hvl : Hid (z' < l.length) := hide (by rw [HQ.out.fnd.len]; have := HdB.out; omega)
                    have hnl : Hid (nd < l.length) := hide (by rw [HQ.out.fnd.len]; exact HQ.out.lt (List.mem_of_getElem? Hnd.out))
                    have v0 : (0 : Int) ≤ (z' : Int) := by omega
                    have v1 : (z' : Int) < (n : Int) := by have := HdB.out; omega
                    have t0 : (0 : Int) ≤ (nd : Int) := by omega
                    have t1 : (nd : Int) < (n : Int) := by have := hnl.out; rw [HQ.out.fnd.len] at this; omega
                    subst hnr
                    have hbe : ((y' : Int) != (y' : Int)) = false := bne_self_eq_false _
                    by_cases hfar : va l z' = -1
                    · have hE : Hid (Eg es cl 0 y' z') := hide ⟨i, Hcb.out, by rw [Hp.out]; rfl⟩
                      obtain ⟨Q1, Q2, Q3, Q4, Q5⟩ := HQ.out.put Hnd.out HT.out hE.out hfar (by have := hvl.out; rwa [HQ.out.fnd.len] at this)
                      have HQ1 := hide Q1
                      have HD2 := hide (HD1.out)
                      have HD3 : Hid (∀ (j v : Nat), j < i + 1 → cl[j]? = some false → es[j]? = some ((y' : Int), (v : Int)) → Don (l.set z' (va l y' + 1)) y' v) := hide (fun j v hj h1 h2 => by
                        rcases Nat.lt_or_ge j i with h' | h'
                        · exact Q2 _ _ (HD.out j v h' h1 h2) Q4
                        · obtain rfl : j = i := by omega
                          rw [Hp.out] at h2
                          simp only [Option.some.injEq, Prod.mk.injEq] at h2
                          have e2 : z' = v := by omega
                          rw [← e2]
                          exact Q3)
                      have HQ5 := hide Q5
                      have hdv : Hid (0 ≤ va l y' ∧ va l y' ≤ 100000) := hide ⟨(HQ.out.mem _).1 (List.mem_of_getElem? Hnd.out), dst_le HQ.out (List.mem_of_getElem? Hnd.out) Hn40.out⟩
                      obtain ⟨dN, hdN⟩ : ∃ dN, va l y' = dN := ⟨_, rfl⟩
                      have hw : IntKind.i64.wrap (dN + 1) = dN + 1 := by have := hdv.out; rw [hdN] at this; exact i64_small _ (by omega) (by omega)
                      have HdN := hide hdN
                      rw [hdN] at HQ1 HD3
                      clear HD1 HD2 Q1 Q2 Q3 Q4 Q5 HD hdN
                      go_wp2_with (first
                        | (go_at_call 96; refine (K25.out _ _).mono ?_; rintro e W2 ⟨rfl, hb2⟩; rw [tp]
                           have HL2 := hide (HL1.out.keep hb2)
                           have y0 := (HL2.out.at z' hvl.out).1
                           have f0 := (HL2.out.at z' hvl.out).2
                           have y1 := (HL2.out.at y' hnl.out).1
                           rw [hfar] at y0
                           rw [HdN.out] at y1
                           have HL3 : Hid (LS W0 g n (W2.setCell ⟨g, z', none⟩ (.int .i64 (dN + 1))) u11 (l.set z' (dN + 1)) q) := hide (HL2.out.set z' (dN + 1))
                           clear hb2)
                        | (at_builtin; refine intE.wp (w0 := W0) (HL3.out.alloc (.cells #[.int .i64 (z' : Int)] 3)).bel (by rfl) _ _ rfl _ _ rfl rfl (ints q) [(z' : Int)] (HL3.out.alloc (.cells #[.int .i64 (z' : Int)] 3)).que (int_new _ _ _ (by simp)) (by rw [ints_len]; have := HQ.out.size; have := Hn40.out; simp; omega) ?_; intro v5 W5 ho5 hg5 hv5 hb5; refine Hid.out ?_))
                      refine hide ?_
                      have HL6 := hide ((HL3.out.alloc (.cells #[.int .i64 (z' : Int)] 3)).app ho5 hg5 hv5 hb5)
                      clear ho5 hg5 hv5 hb5 y0 f0 y1
                      go_wp2_with fail
                      go_roundw
                      case rel => exact ⟨i + 1, _, _, by omega, by go_num, HL6, HQ1, HQ5, HD3⟩
                      case measure => simp [intOf]; omega
                    · have HD2 := hide (HD1.out (fun _ _ => HQ.out.old Hnd.out hfar))
                      have hfb : (va l z' != -1) = true := bne_iff_ne.2 hfar
                      obtain ⟨dX, hdX⟩ : ∃ dX, va l z' = dX := ⟨_, rfl⟩
                      have HdX := hide hdX
                      rw [hdX] at hfb
                      clear HD1 hfar hdX
                      go_wp2_with (first
                        | (go_at_call 96; refine (K25.out _ _).mono ?_; rintro e W2 ⟨rfl, hb2⟩; rw [tp]
                           have HL2 := hide (HL1.out.keep hb2)
                           have y0 := (HL2.out.at z' hvl.out).1
                           rw [HdX.out] at y0
                           clear hb2))
                      go_roundw
                      case rel => exact ⟨i + 1, l, q, by omega, by go_num, HL2, HQ, Hnd, HD2⟩
                      case measure => simp [intOf]; omega
                  · have HD2 := hide (HD1.out (fun _ h => absurd h hnr))
                    have hbe : ((y' : Int) != (nd : Int)) = true := bne_iff_ne.2 (by omega)
                    clear HD1 hnr
                    go_wp2_with fail
                    go_roundw
                    case rel => exact ⟨i + 1, l, q, by omega, by go_num, HL1, HQ, Hnd, HD2⟩
                    case measure => simp [intOf]; omega
              · obtain rfl : i = m := by omega
                have j1 : ¬ (i : Int) < (i : Int) := by omega
                have HQ2 : Hid (Que (Tk ns) (Eg es cl 0) s n l q (k + 1)) := hide (HQ.out.next Hnd.out (fun v hE _ => by
                  obtain ⟨j, h1, h2⟩ := hE
                  refine HD.out j v ?_ h1 h2
                  rcases Nat.lt_or_ge j es.length with h' | h'
                  · rw [Hm.out] at h'; exact h'
                  · rw [List.getElem?_eq_none h'] at h2; cases h2))
                have Hkl : Hid (k + 1 ≤ q.length) := hide (by
                  rcases Nat.lt_or_ge k q.length with h' | h'
                  · exact h'
                  · have := Hnd.out; rw [List.getElem?_eq_none h'] at this; cases this)
                have Hsz : Hid (k < n) := hide (by have := Hkl.out; have := HQ.out.size; omega)
                go_wp2_with fail
                go_roundw
                case rel => exact ⟨k + 1, l, q, Hkl, by go_num, HL, HQ2⟩
                case measure => have := Hsz.out; simp [intOf]; omega
          · have hne : ((nd : Int) != (s : Int)) = true := bne_iff_ne.2 (by omega)
            by_cases hkd : p.kind = 1
            · have HT : Hid (nd = s ∨ Tk ns nd) := hide (.inr (by unfold Tk; rw [Hkd.out]; exact hkd))
              have hkb : (p.kind != 1) = false := by rw [hkd]; rfl
              clear hns hkd
              go_wp2_with fail
              go_loopw [11, 60] (fun v11 v60 wr => ∃ (i : Nat) (l : List Int) (q : List Nat), i ≤ m ∧ v60 = .int .i64 i ∧ Hid (LS W0 g n wr v11 l q) ∧ Hid (Que (Tk ns) (Eg es cl 0) s n l q k) ∧ Hid (q[k]? = some nd) ∧ Hid (∀ (j v : Nat), j < i → cl[j]? = some false → es[j]? = some ((nd : Int), (v : Int)) → Don l nd v)) (fun _ v60 _ => m - (intOf v60).toNat)
              case atStart => exact ⟨0, l, q, by omega, rfl, HL, HQ, Hnd, hide (fun j v hj => by omega)⟩
              case round =>
                clear HL HQ
                obtain ⟨i, l, q, hi, rfl, HL, HQ, Hnd, HD⟩ := hrel
                by_cases hlt : i < m
                · obtain ⟨p, hp⟩ : ∃ p, es[i]? = some p := ⟨_, List.getElem?_eq_getElem (by rw [Hm.out]; exact hlt)⟩
                  obtain ⟨y, z⟩ := p
                  have hpb := HE.out _ (List.mem_of_getElem? hp)
                  simp only at hpb
                  obtain ⟨y', hy⟩ := Int.eq_ofNat_of_zero_le hpb.1
                  obtain ⟨z', hz⟩ := Int.eq_ofNat_of_zero_le hpb.2.2.1
                  subst hy
                  subst hz
                  obtain ⟨bE, offE, rfl, e0, e1⟩ := ed_at (HRE.out wr HL.out.bel) i _ hp
                  simp only at e0 e1
                  obtain ⟨cb, hcb⟩ : ∃ cb, cl[i]? = some cb := ⟨_, List.getElem?_eq_getElem (by rw [Hcl.out]; exact hlt)⟩
                  obtain ⟨bC, offC, rfl, cc⟩ := bool_at (HRC.out _ (HL.out.alloc (.cells #[.int .i64 (y' : Int), .int .i64 (z' : Int)] 78)).bel) i _ hcb
                  have j0 : (0 : Int) ≤ (i : Int) := by omega
                  have j1 : (i : Int) < (m : Int) := by omega
                  have HL1 : Hid (LS W0 g n (wr.alloc (.cells #[.int .i64 (y' : Int), .int .i64 (z' : Int)] 78)) u11 l q) := hide (HL.out.alloc _)
                  have Hp := hide hp
                  have Hcb := hide hcb
                  have HD1 : Hid ((cb = false → y' = nd → Don l nd z') → ∀ (j v : Nat), j < i + 1 → cl[j]? = some false → es[j]? = some ((nd : Int), (v : Int)) → Don l nd v) := hide (fun h j v hj h1 h2 => by
                    rcases Nat.lt_or_ge j i with h' | h'
                    · exact HD.out j v h' h1 h2
                    · obtain rfl : j = i := by omega
                      rw [Hcb.out] at h1
                      rw [Hp.out] at h2
                      simp only [Option.some.injEq, Prod.mk.injEq] at h1 h2
                      have e1 : y' = nd := by omega
                      have e2 : z' = v := by omega
                      rw [← e2]
                      exact h h1 e1)
                  have db : Hid ((y' : Int) < n ∧ (z' : Int) < n) := hide ⟨hpb.2.1, hpb.2.2.2⟩
                  have dx := layc (W1 := wr.alloc (.cells #[.int .i64 (y' : Int), .int .i64 (z' : Int)] 78)) HBOX.out HL1.out.bel
                  obtain ⟨dx0, dx1⟩ := dx
                  clear hp hpb hcb
                  cases cb with
                  | true =>
                    have HD2 := hide (HD1.out (fun h => by cases h))
                    clear HD1
                    go_wp2_with fail
                    go_roundw
                    case rel => exact ⟨i + 1, l, q, by omega, by go_num, HL1, HQ, Hnd, HD2⟩
                    case measure => simp [intOf]; omega
                  | false =>
                    by_cases hnr : y' = nd
                    · have HdB := hide (And.intro db.out.1 db.out.2)
                      have tp : decide (0 ≤ (z' : Int) ∧ (z' : Int) < (n : Int)) = true := decide_eq_true ⟨by omega, by have := HdB.out; omega⟩
                      have hvl : Hid (z' < l.length) := hide (by rw [HQ.out.fnd.len]; have := HdB.out; omega)
                      have hnl : Hid (nd < l.length) := hide (by rw [HQ.out.fnd.len]; exact HQ.out.lt (List.mem_of_getElem? Hnd.out))
                      have v0 : (0 : Int) ≤ (z' : Int) := by omega
                      have v1 : (z' : Int) < (n : Int) := by have := HdB.out; omega
                      have t0 : (0 : Int) ≤ (nd : Int) := by omega
                      have t1 : (nd : Int) < (n : Int) := by have := hnl.out; rw [HQ.out.fnd.len] at this; omega
                      subst hnr
                      have hbe : ((y' : Int) != (y' : Int)) = false := bne_self_eq_false _
                      by_cases hfar : va l z' = -1
                      · have hE : Hid (Eg es cl 0 y' z') := hide ⟨i, Hcb.out, by rw [Hp.out]; rfl⟩
                        obtain ⟨Q1, Q2, Q3, Q4, Q5⟩ := HQ.out.put Hnd.out HT.out hE.out hfar (by have := hvl.out; rwa [HQ.out.fnd.len] at this)
                        have HQ1 := hide Q1
                        have HD2 := hide (HD1.out)
                        have HD3 : Hid (∀ (j v : Nat), j < i + 1 → cl[j]? = some false → es[j]? = some ((y' : Int), (v : Int)) → Don (l.set z' (va l y' + 1)) y' v) := hide (fun j v hj h1 h2 => by
                          rcases Nat.lt_or_ge j i with h' | h'
                          · exact Q2 _ _ (HD.out j v h' h1 h2) Q4
                          · obtain rfl : j = i := by omega
                            rw [Hp.out] at h2
                            simp only [Option.some.injEq, Prod.mk.injEq] at h2
                            have e2 : z' = v := by omega
                            rw [← e2]
                            exact Q3)
                        have HQ5 := hide Q5
                        have hdv : Hid (0 ≤ va l y' ∧ va l y' ≤ 100000) := hide ⟨(HQ.out.mem _).1 (List.mem_of_getElem? Hnd.out), dst_le HQ.out (List.mem_of_getElem? Hnd.out) Hn40.out⟩
                        obtain ⟨dN, hdN⟩ : ∃ dN, va l y' = dN := ⟨_, rfl⟩
                        have hw : IntKind.i64.wrap (dN + 1) = dN + 1 := by have := hdv.out; rw [hdN] at this; exact i64_small _ (by omega) (by omega)
                        have HdN := hide hdN
                        rw [hdN] at HQ1 HD3
                        clear HD1 HD2 Q1 Q2 Q3 Q4 Q5 HD hdN
                        go_wp2_with (first
                          | (go_at_call 96; refine (K25.out _ _).mono ?_; rintro e W2 ⟨rfl, hb2⟩; rw [tp]
                             have HL2 := hide (HL1.out.keep hb2)
                             have y0 := (HL2.out.at z' hvl.out).1
                             have f0 := (HL2.out.at z' hvl.out).2
                             have y1 := (HL2.out.at y' hnl.out).1
                             rw [hfar] at y0
                             rw [HdN.out] at y1
                             have HL3 : Hid (LS W0 g n (W2.setCell ⟨g, z', none⟩ (.int .i64 (dN + 1))) u11 (l.set z' (dN + 1)) q) := hide (HL2.out.set z' (dN + 1))
                             clear hb2)
                          | (at_builtin; refine intE.wp (w0 := W0) (HL3.out.alloc (.cells #[.int .i64 (z' : Int)] 3)).bel (by rfl) _ _ rfl _ _ rfl rfl (ints q) [(z' : Int)] (HL3.out.alloc (.cells #[.int .i64 (z' : Int)] 3)).que (int_new _ _ _ (by simp)) (by rw [ints_len]; have := HQ.out.size; have := Hn40.out; simp; omega) ?_; intro v5 W5 ho5 hg5 hv5 hb5; refine Hid.out ?_))
                        refine hide ?_
                        have HL6 := hide ((HL3.out.alloc (.cells #[.int .i64 (z' : Int)] 3)).app ho5 hg5 hv5 hb5)
                        clear ho5 hg5 hv5 hb5 y0 f0 y1
                        go_wp2_with fail
                        go_roundw
                        case rel => exact ⟨i + 1, _, _, by omega, by go_num, HL6, HQ1, HQ5, HD3⟩
                        case measure => simp [intOf]; omega
                      · have HD2 := hide (HD1.out (fun _ _ => HQ.out.old Hnd.out hfar))
                        have hfb : (va l z' != -1) = true := bne_iff_ne.2 hfar
                        obtain ⟨dX, hdX⟩ : ∃ dX, va l z' = dX := ⟨_, rfl⟩
                        have HdX := hide hdX
                        rw [hdX] at hfb
                        clear HD1 hfar hdX
                        go_wp2_with (first
                          | (go_at_call 96; refine (K25.out _ _).mono ?_; rintro e W2 ⟨rfl, hb2⟩; rw [tp]
                             have HL2 := hide (HL1.out.keep hb2)
                             have y0 := (HL2.out.at z' hvl.out).1
                             rw [HdX.out] at y0
                             clear hb2))
                        go_roundw
                        case rel => exact ⟨i + 1, l, q, by omega, by go_num, HL2, HQ, Hnd, HD2⟩
                        case measure => simp [intOf]; omega
                    · have HD2 := hide (HD1.out (fun _ h => absurd h hnr))
                      have hbe : ((y' : Int) != (nd : Int)) = true := bne_iff_ne.2 (by omega)
                      clear HD1 hnr
                      go_wp2_with fail
                      go_roundw
                      case rel => exact ⟨i + 1, l, q, by omega, by go_num, HL1, HQ, Hnd, HD2⟩
                      case measure => simp [intOf]; omega
                · obtain rfl : i = m := by omega
                  have j1 : ¬ (i : Int) < (i : Int) := by omega
                  have HQ2 : Hid (Que (Tk ns) (Eg es cl 0) s n l q (k + 1)) := hide (HQ.out.next Hnd.out (fun v hE _ => by
                    obtain ⟨j, h1, h2⟩ := hE
                    refine HD.out j v ?_ h1 h2
                    rcases Nat.lt_or_ge j es.length with h' | h'
                    · rw [Hm.out] at h'; exact h'
                    · rw [List.getElem?_eq_none h'] at h2; cases h2))
                  have Hkl : Hid (k + 1 ≤ q.length) := hide (by
                    rcases Nat.lt_or_ge k q.length with h' | h'
                    · exact h'
                    · have := Hnd.out; rw [List.getElem?_eq_none h'] at this; cases this)
                  have Hsz : Hid (k < n) := hide (by have := Hkl.out; have := HQ.out.size; omega)
                  go_wp2_with fail
                  go_roundw
                  case rel => exact ⟨k + 1, l, q, Hkl, by go_num, HL, HQ2⟩
                  case measure => have := Hsz.out; simp [intOf]; omega
            · have hkb : (p.kind != 1) = true := bne_iff_ne.2 hkd
              have HQ2 : Hid (Que (Tk ns) (Eg es cl 0) s n l q (k + 1)) := hide (HQ.out.next Hnd.out (fun v _ hT => absurd hT (fun h => h.elim hns (fun h => hkd (by unfold Tk at h; rw [Hkd.out] at h; exact h)))))
              have Hk2 : Hid (k + 1 ≤ q.length) := hide (by rw [Hnq.out]; exact hlt)
              have Hsz : Hid (k < n) := hide (by have := HQ.out.size; have := Hk2.out; omega)
              clear hns hkd
              go_wp2_with fail
              go_roundw
              case rel => exact ⟨k + 1, l, q, Hk2, by go_num, HL, HQ2⟩
              case measure => have := Hsz.out; simp [intOf]; omega
        · obtain rfl : k = nq := by have := Hk.out; omega
          have j1 : ¬ (k : Int) < (k : Int) := by omega
          have HF : Hid (Far (Eg es cl 0) (Tk ns) s n l) := hide (by
            have h := HQ.out
            rw [← Hnq.out] at h
            exact h.far)
          go_wp2_with fail
          try rw [Exit.noGoto_ret]
          go_ret
          exact ⟨⟨g, l, rfl, HL.out.far.mono HA.out.size, HF.out⟩, HA.out.trans (HL.out.bel.mono HA.out.size)⟩
set_option maxRecDepth 100000 in
set_option maxHeartbeats 8000000 in
theorem lengths_to (a a' aC : Option Addr) (c c' cC n m s : Nat) (ns : List Nd) (es : List Ed) (cl : List Bool) (w : World) (hn : ns.length = n) (hm : es.length = m) (hc : cl.length = m) (hv : ndE.Rd w (.slice a n c) ns) (hu : edE.Rd w (.slice a' m c') es) (hC : boolE.Rd w (.slice aC m cC) cl) (hn4 : n ≤ 1000) (hm4 : m ≤ 1000) (hs : s < n) (hE : inB n es) :
    Calls Tryz.prog 97 #[.agg #[.slice a n c, .slice a' m c'], .slice aC m cC, .int .i64 (s : Int), .int .i64 1] w fun e w' => (∃ g l, e = .returned (.slice (some ⟨g, 0, none⟩) n n) ∧ intE.Own w' w.heap.size (.slice (some ⟨g, 0, none⟩) n n) l ∧ Far (Eg es cl 1) (Tk ns) s n l) ∧ Below w.heap.size w w' := by
  obtain ⟨W0, hW0⟩ : ∃ W0, w.alloc (.cells #[.slice a n c, .slice a' m c'] 25) = W0 := ⟨_, rfl⟩
  have bA : Below w.heap.size w W0 := by rw [← hW0]; exact (Below.refl _ _).alloc (Nat.le_refl _) _
  have hbox : W0.heap[w.heap.size]? = some (.cells #[.slice a n c, .slice a' m c'] 25) := by rw [← hW0]; exact heap_new _ _
  have d0 := (cells_at hbox 0).1
  simp at d0
  have HBOX := hide hbox
  obtain ⟨W1, hmk, ho1, hb1, hs1⟩ := made_ints W0 n (by omega)
  have HA := hide bA
  have Hb := hide hb1
  have Ho := hide ho1
  have HRN : Hid (∀ W, Below W0.heap.size W0 W → ndE.Rd W (.slice a n c) ns) := hide (fun W h => hv.keep (bA.trans (h.mono bA.size)))
  have HRE : Hid (∀ W, Below W0.heap.size W0 W → edE.Rd W (.slice a' m c') es) := hide (fun W h => hu.keep (bA.trans (h.mono bA.size)))
  have HRC : Hid (∀ W, Below W0.heap.size W0 W → boolE.Rd W (.slice aC m cC) cl) := hide (fun W h => hC.keep (bA.trans (h.mono bA.size)))
  have Hn := hide hn
  have Hm := hide hm
  have Hcl := hide hc
  have HE := hide hE
  have Hs := hide hs
  have Hn40 := hide hn4
  have HW0 := hide hW0
  have K25 := hide (fun i W => w_isPlace_any a a' n c m c' i W)
  have i0 : (n : Int) ≤ 1000 := by omega
  have i1 : (m : Int) ≤ 1000 := by omega
  have s0 : (0 : Int) ≤ (s : Int) := by omega
  have s1 : (s : Int) < (n : Int) := by omega
  obtain ⟨g, hg⟩ : ∃ g, W0.heap.size = g := ⟨_, rfl⟩
  rw [hg] at hmk
  have Ho' : Hid (intE.Own W1 W0.heap.size (.slice (some ⟨g, 0, none⟩) n n) (List.replicate n 0)) := by rw [← hg]; exact Ho
  have Hg : Hid (W0.heap.size ≤ g) := hide (by omega)
  clear hv hu hC hn hm hc hn4 hm4 hs hE hbox bA hW0 ho1 hb1 hs1 hg Ho
  go_enter Tryz.func97, Tryz.ntmps97
  go_wp2_with fail
  rw [HW0.out]
  clear HW0
  go_step3
  go_wp2_with fail
  go_loopw [23] (fun v23 wr => ∃ (k : Nat) (l : List Int), k ≤ n ∧ v23 = .int .i64 k ∧ Hid (intE.Own wr W0.heap.size (.slice (some ⟨g, 0, none⟩) n n) l) ∧ Hid (l.length = n ∧ ∀ i : Nat, i < k → l[i]? = some (-1)) ∧ Hid (Below W0.heap.size W0 wr)) (fun v23 _ => n - (intOf v23).toNat)
  case atStart => exact ⟨0, _, by omega, rfl, Ho', hide ⟨by simp, fun i hi => by omega⟩, Hb⟩
  case round =>
    obtain ⟨k, l, hk, rfl, HO, HX, HB⟩ := hrel
    by_cases hlt : k < n
    · obtain ⟨y0, f0⟩ := HO.out.at1 (Value.int .i64) (fun _ => rfl) rfl k _ (List.getElem?_eq_getElem (by rw [HX.out.1]; exact hlt))
      generalize l[k]'(by rw [HX.out.1]; exact hlt) = old at y0
      have j0 : (0 : Int) ≤ (k : Int) := by omega
      have j1 : (k : Int) < (n : Int) := by omega
      have HO1 : Hid (intE.Own (wr.setCell ⟨g, k, none⟩ (.int .i64 (-1))) W0.heap.size (.slice (some ⟨g, 0, none⟩) n n) (l.set k (-1))) := hide (HO.out.set (Value.int .i64) (fun _ => rfl) rfl k (-1))
      have HB1 : Hid (Below W0.heap.size W0 (wr.setCell ⟨g, k, none⟩ (.int .i64 (-1)))) := hide (HB.out.setCell (p := ⟨g, k, none⟩) Hg.out _)
      have HX1 : Hid ((l.set k (-1)).length = n ∧ ∀ i : Nat, i < k + 1 → (l.set k (-1))[i]? = some (-1)) := hide ⟨by rw [List.length_set]; exact HX.out.1, fun i hi => by
        rw [List.getElem?_set]
        by_cases e : k = i
        · rw [if_pos e, if_pos (by rw [HX.out.1]; exact hlt)]
        · rw [if_neg e]; exact HX.out.2 i (by omega)⟩
      go_wp2_with fail
      go_roundw
      case rel => exact ⟨k + 1, _, by omega, by go_num, HO1, HX1, HB1⟩
      case measure => simp [intOf]; omega
    · obtain rfl : k = n := by omega
      have j1 : ¬ (k : Int) < (k : Int) := by omega
      have hrep : l = List.replicate k (-1) := by
        apply List.ext_getElem?
        intro i
        rcases Nat.lt_or_ge i k with h | h
        · rw [HX.out.2 i h, List.getElem?_replicate, if_pos h]
        · rw [List.getElem?_eq_none (by rw [HX.out.1]; exact h), List.getElem?_eq_none (by simpa using h)]
      subst hrep
      obtain ⟨n, rfl⟩ : ∃ n', n' = k := ⟨_, rfl⟩
      obtain ⟨y0, f0⟩ := HO.out.at1 (Value.int .i64) (fun _ => rfl) rfl s (-1) (by rw [List.getElem?_replicate, if_pos Hs.out])
      have HLS : Hid (LS W0 g n ((wr.setCell ⟨g, s, none⟩ (.int .i64 0)).alloc (.cells #[.int .i64 (s : Int)] 3)) (.slice (some ⟨wr.heap.size, 0, none⟩) 1 1) ((List.replicate n (-1)).set s 0) [s]) := hide (by
        have h1 := HO.out.set (Value.int .i64) (fun _ => rfl) rfl s 0
        have h2 := HB.out.setCell (p := ⟨g, s, none⟩) Hg.out (.int .i64 0)
        have hb3 : Below (wr.setCell ⟨g, s, none⟩ (.int .i64 0)).heap.size (wr.setCell ⟨g, s, none⟩ (.int .i64 0)) ((wr.setCell ⟨g, s, none⟩ (.int .i64 0)).alloc (.cells #[.int .i64 (s : Int)] 3)) := (Below.refl _ _).alloc (Nat.le_refl _) _
        refine ⟨h1.keep hb3, El.Own.new intE _ _ h2.size _ (ints [s]) rfl (by simp [ints]) _ _ _ (by simp) rfl rfl, ?_, h2.trans (hb3.mono h2.size)⟩
        intro x hx hx'
        simp [Value.ownBlock] at hx hx'
        have := HO.out.lt g rfl
        omega)
      have HQS : Hid (Que (Tk ns) (Eg es cl 1) s n ((List.replicate n (-1)).set s 0) [s] 0) := hide (Que.start n Hs.out)
      go_wp2_with fail
      go_step3
      go_wp2_with fail
      go_loopw [11, 12] (fun v11 v12 wr => ∃ (k : Nat) (l : List Int) (q : List Nat), Hid (k ≤ q.length) ∧ v12 = .int .i64 k ∧ Hid (LS W0 g n wr v11 l q) ∧ Hid (Que (Tk ns) (Eg es cl 1) s n l q k)) (fun _ v12 _ => n - (intOf v12).toNat)
      case atStart => exact ⟨0, _, [s], hide (by simp), rfl, HLS, HQS⟩
      case round =>
        clear HO HX HB HLS HQS y0 f0
        obtain ⟨k, l, q, Hk, rfl, HL, HQ⟩ := hrel
        obtain ⟨aq, cq, hvq⟩ := HL.out.que.rd.form
        rw [ints_len] at hvq
        obtain ⟨nq, hnq⟩ : ∃ nq, q.length = nq := ⟨_, rfl⟩
        rw [hnq] at hvq
        subst hvq
        have Hnq := hide hnq
        have iq : (nq : Int) ≤ 1000 := by have := HQ.out.size; omega
        by_cases hlt : k < nq
        · obtain ⟨nd, hnd⟩ : ∃ nd, q[k]? = some nd := ⟨_, List.getElem?_eq_getElem (by rw [hnq]; exact hlt)⟩
          obtain ⟨bq, oq, rfl, c0⟩ := int_at HL.out.que.rd k _ (ints_at q k nd hnd)
          have j0 : (0 : Int) ≤ (k : Int) := by omega
          have j1 : (k : Int) < (nq : Int) := by omega
          have Hnd := hide hnd
          obtain ⟨x0, x1⟩ := layc HBOX.out HL.out.bel
          have hndn := HQ.out.lt (List.mem_of_getElem? hnd)
          obtain ⟨p, hp⟩ : ∃ p, ns[nd]? = some p := ⟨_, List.getElem?_eq_getElem (by rw [Hn.out]; exact hndn)⟩
          obtain ⟨bN, offN, haN, _, cK, _⟩ := nd_at (HRN.out wr HL.out.bel) nd p hp
          have Hkd := hide (kind_at hp)
          have t0 : (0 : Int) ≤ (nd : Int) := by omega
          have t1 : (nd : Int) < (n : Int) := by omega
          have Hndn := hide hndn
          clear hnq hnd hp hndn
          subst haN
          by_cases hns : nd = s
          · have HT : Hid (nd = s ∨ Tk ns nd) := hide (.inl hns)
            have hne : ((nd : Int) != (s : Int)) = false := by rw [hns]; exact bne_self_eq_false _
            clear hns t0 t1
            go_wp2_with fail
            go_loopw [11, 60] (fun v11 v60 wr => ∃ (i : Nat) (l : List Int) (q : List Nat), i ≤ m ∧ v60 = .int .i64 i ∧ Hid (LS W0 g n wr v11 l q) ∧ Hid (Que (Tk ns) (Eg es cl 1) s n l q k) ∧ Hid (q[k]? = some nd) ∧ Hid (∀ (j v : Nat), j < i → cl[j]? = some false → es[j]? = some ((v : Int), (nd : Int)) → Don l nd v)) (fun _ v60 _ => m - (intOf v60).toNat)
            case atStart => exact ⟨0, l, q, by omega, rfl, HL, HQ, Hnd, hide (fun j v hj => by omega)⟩
            case round =>
              clear HL HQ
              obtain ⟨i, l, q, hi, rfl, HL, HQ, Hnd, HD⟩ := hrel
              by_cases hlt : i < m
              · obtain ⟨p, hp⟩ : ∃ p, es[i]? = some p := ⟨_, List.getElem?_eq_getElem (by rw [Hm.out]; exact hlt)⟩
                obtain ⟨y, z⟩ := p
                have hpb := HE.out _ (List.mem_of_getElem? hp)
                simp only at hpb
                obtain ⟨y', hy⟩ := Int.eq_ofNat_of_zero_le hpb.1
                obtain ⟨z', hz⟩ := Int.eq_ofNat_of_zero_le hpb.2.2.1
                subst hy
                subst hz
                obtain ⟨bE, offE, rfl, e0, e1⟩ := ed_at (HRE.out wr HL.out.bel) i _ hp
                simp only at e0 e1
                obtain ⟨cb, hcb⟩ : ∃ cb, cl[i]? = some cb := ⟨_, List.getElem?_eq_getElem (by rw [Hcl.out]; exact hlt)⟩
                obtain ⟨bC, offC, rfl, cc⟩ := bool_at (HRC.out _ (HL.out.alloc (.cells #[.int .i64 (y' : Int), .int .i64 (z' : Int)] 78)).bel) i _ hcb
                have j0 : (0 : Int) ≤ (i : Int) := by omega
                have j1 : (i : Int) < (m : Int) := by omega
                have HL1 : Hid (LS W0 g n (wr.alloc (.cells #[.int .i64 (y' : Int), .int .i64 (z' : Int)] 78)) u11 l q) := hide (HL.out.alloc _)
                have Hp := hide hp
                have Hcb := hide hcb
                have HD1 : Hid ((cb = false → z' = nd → Don l nd y') → ∀ (j v : Nat), j < i + 1 → cl[j]? = some false → es[j]? = some ((v : Int), (nd : Int)) → Don l nd v) := hide (fun h j v hj h1 h2 => by
                  rcases Nat.lt_or_ge j i with h' | h'
                  · exact HD.out j v h' h1 h2
                  · obtain rfl : j = i := by omega
                    rw [Hcb.out] at h1
                    rw [Hp.out] at h2
                    simp only [Option.some.injEq, Prod.mk.injEq] at h1 h2
                    have e1 : z' = nd := by omega
                    have e2 : y' = v := by omega
                    rw [← e2]
                    exact h h1 e1)
                have db : Hid ((y' : Int) < n ∧ (z' : Int) < n) := hide ⟨hpb.2.1, hpb.2.2.2⟩
                have dx := layc (W1 := wr.alloc (.cells #[.int .i64 (y' : Int), .int .i64 (z' : Int)] 78)) HBOX.out HL1.out.bel
                obtain ⟨dx0, dx1⟩ := dx
                clear hp hpb hcb
                cases cb with
                | true =>
                  have HD2 := hide (HD1.out (fun h => by cases h))
                  clear HD1
                  go_wp2_with fail
                  go_roundw
                  case rel => exact ⟨i + 1, l, q, by omega, by go_num, HL1, HQ, Hnd, HD2⟩
                  case measure => simp [intOf]; omega
                | false =>
                  by_cases hnr : z' = nd
                  · have HdB := hide (And.intro db.out.1 db.out.2)
                    have tp : decide (0 ≤ (y' : Int) ∧ (y' : Int) < (n : Int)) = true := decide_eq_true ⟨by omega, by have := HdB.out; omega⟩
                    have hvl : Hid (y' < l.length) := hide (by rw [HQ.out.fnd.len]; have := HdB.out; omega)
                    have hnl : Hid (nd < l.length) := hide (by rw [HQ.out.fnd.len]; exact HQ.out.lt (List.mem_of_getElem? Hnd.out))
                    have v0 : (0 : Int) ≤ (y' : Int) := by omega
                    have v1 : (y' : Int) < (n : Int) := by have := HdB.out; omega
                    have t0 : (0 : Int) ≤ (nd : Int) := by omega
                    have t1 : (nd : Int) < (n : Int) := by have := hnl.out; rw [HQ.out.fnd.len] at this; omega
                    subst hnr
                    have hbe : ((z' : Int) != (z' : Int)) = false := bne_self_eq_false _
                    by_cases hfar : va l y' = -1
                    · have hE : Hid (Eg es cl 1 z' y') := hide ⟨i, Hcb.out, by rw [Hp.out]; rfl⟩
                      obtain ⟨Q1, Q2, Q3, Q4, Q5⟩ := HQ.out.put Hnd.out HT.out hE.out hfar (by have := hvl.out; rwa [HQ.out.fnd.len] at this)
                      have HQ1 := hide Q1
                      have HD2 := hide (HD1.out)
                      have HD3 : Hid (∀ (j v : Nat), j < i + 1 → cl[j]? = some false → es[j]? = some ((v : Int), (z' : Int)) → Don (l.set y' (va l z' + 1)) z' v) := hide (fun j v hj h1 h2 => by
                        rcases Nat.lt_or_ge j i with h' | h'
                        · exact Q2 _ _ (HD.out j v h' h1 h2) Q4
                        · obtain rfl : j = i := by omega
                          rw [Hp.out] at h2
                          simp only [Option.some.injEq, Prod.mk.injEq] at h2
                          have e2 : y' = v := by omega
                          rw [← e2]
                          exact Q3)
                      have HQ5 := hide Q5
                      have hdv : Hid (0 ≤ va l z' ∧ va l z' ≤ 100000) := hide ⟨(HQ.out.mem _).1 (List.mem_of_getElem? Hnd.out), dst_le HQ.out (List.mem_of_getElem? Hnd.out) Hn40.out⟩
                      obtain ⟨dN, hdN⟩ : ∃ dN, va l z' = dN := ⟨_, rfl⟩
                      have hw : IntKind.i64.wrap (dN + 1) = dN + 1 := by have := hdv.out; rw [hdN] at this; exact i64_small _ (by omega) (by omega)
                      have HdN := hide hdN
                      rw [hdN] at HQ1 HD3
                      clear HD1 HD2 Q1 Q2 Q3 Q4 Q5 HD hdN
                      go_wp2_with (first
                        | (go_at_call 96; refine (K25.out _ _).mono ?_; rintro e W2 ⟨rfl, hb2⟩; rw [tp]
                           have HL2 := hide (HL1.out.keep hb2)
                           have y0 := (HL2.out.at y' hvl.out).1
                           have f0 := (HL2.out.at y' hvl.out).2
                           have y1 := (HL2.out.at z' hnl.out).1
                           rw [hfar] at y0
                           rw [HdN.out] at y1
                           have HL3 : Hid (LS W0 g n (W2.setCell ⟨g, y', none⟩ (.int .i64 (dN + 1))) u11 (l.set y' (dN + 1)) q) := hide (HL2.out.set y' (dN + 1))
                           clear hb2)
                        | (at_builtin; refine intE.wp (w0 := W0) (HL3.out.alloc (.cells #[.int .i64 (y' : Int)] 3)).bel (by rfl) _ _ rfl _ _ rfl rfl (ints q) [(y' : Int)] (HL3.out.alloc (.cells #[.int .i64 (y' : Int)] 3)).que (int_new _ _ _ (by simp)) (by rw [ints_len]; have := HQ.out.size; have := Hn40.out; simp; omega) ?_; intro v5 W5 ho5 hg5 hv5 hb5; refine Hid.out ?_))
                      refine hide ?_
                      have HL6 := hide ((HL3.out.alloc (.cells #[.int .i64 (y' : Int)] 3)).app ho5 hg5 hv5 hb5)
                      clear ho5 hg5 hv5 hb5 y0 f0 y1
                      go_wp2_with fail
                      go_roundw
                      case rel => exact ⟨i + 1, _, _, by omega, by go_num, HL6, HQ1, HQ5, HD3⟩
                      case measure => simp [intOf]; omega
                    · have HD2 := hide (HD1.out (fun _ _ => HQ.out.old Hnd.out hfar))
                      have hfb : (va l y' != -1) = true := bne_iff_ne.2 hfar
                      obtain ⟨dX, hdX⟩ : ∃ dX, va l y' = dX := ⟨_, rfl⟩
                      have HdX := hide hdX
                      rw [hdX] at hfb
                      clear HD1 hfar hdX
                      go_wp2_with (first
                        | (go_at_call 96; refine (K25.out _ _).mono ?_; rintro e W2 ⟨rfl, hb2⟩; rw [tp]
                           have HL2 := hide (HL1.out.keep hb2)
                           have y0 := (HL2.out.at y' hvl.out).1
                           rw [HdX.out] at y0
                           clear hb2))
                      go_roundw
                      case rel => exact ⟨i + 1, l, q, by omega, by go_num, HL2, HQ, Hnd, HD2⟩
                      case measure => simp [intOf]; omega
                  · have HD2 := hide (HD1.out (fun _ h => absurd h hnr))
                    have hbe : ((z' : Int) != (nd : Int)) = true := bne_iff_ne.2 (by omega)
                    clear HD1 hnr
                    go_wp2_with fail
                    go_roundw
                    case rel => exact ⟨i + 1, l, q, by omega, by go_num, HL1, HQ, Hnd, HD2⟩
                    case measure => simp [intOf]; omega
              · obtain rfl : i = m := by omega
                have j1 : ¬ (i : Int) < (i : Int) := by omega
                have HQ2 : Hid (Que (Tk ns) (Eg es cl 1) s n l q (k + 1)) := hide (HQ.out.next Hnd.out (fun v hE _ => by
                  obtain ⟨j, h1, h2⟩ := hE
                  refine HD.out j v ?_ h1 h2
                  rcases Nat.lt_or_ge j es.length with h' | h'
                  · rw [Hm.out] at h'; exact h'
                  · rw [List.getElem?_eq_none h'] at h2; cases h2))
                have Hkl : Hid (k + 1 ≤ q.length) := hide (by
                  rcases Nat.lt_or_ge k q.length with h' | h'
                  · exact h'
                  · have := Hnd.out; rw [List.getElem?_eq_none h'] at this; cases this)
                have Hsz : Hid (k < n) := hide (by have := Hkl.out; have := HQ.out.size; omega)
                go_wp2_with fail
                go_roundw
                case rel => exact ⟨k + 1, l, q, Hkl, by go_num, HL, HQ2⟩
                case measure => have := Hsz.out; simp [intOf]; omega
          · have hne : ((nd : Int) != (s : Int)) = true := bne_iff_ne.2 (by omega)
            by_cases hkd : p.kind = 1
            · have HT : Hid (nd = s ∨ Tk ns nd) := hide (.inr (by unfold Tk; rw [Hkd.out]; exact hkd))
              have hkb : (p.kind != 1) = false := by rw [hkd]; rfl
              clear hns hkd
              go_wp2_with fail
              go_loopw [11, 60] (fun v11 v60 wr => ∃ (i : Nat) (l : List Int) (q : List Nat), i ≤ m ∧ v60 = .int .i64 i ∧ Hid (LS W0 g n wr v11 l q) ∧ Hid (Que (Tk ns) (Eg es cl 1) s n l q k) ∧ Hid (q[k]? = some nd) ∧ Hid (∀ (j v : Nat), j < i → cl[j]? = some false → es[j]? = some ((v : Int), (nd : Int)) → Don l nd v)) (fun _ v60 _ => m - (intOf v60).toNat)
              case atStart => exact ⟨0, l, q, by omega, rfl, HL, HQ, Hnd, hide (fun j v hj => by omega)⟩
              case round =>
                clear HL HQ
                obtain ⟨i, l, q, hi, rfl, HL, HQ, Hnd, HD⟩ := hrel
                by_cases hlt : i < m
                · obtain ⟨p, hp⟩ : ∃ p, es[i]? = some p := ⟨_, List.getElem?_eq_getElem (by rw [Hm.out]; exact hlt)⟩
                  obtain ⟨y, z⟩ := p
                  have hpb := HE.out _ (List.mem_of_getElem? hp)
                  simp only at hpb
                  obtain ⟨y', hy⟩ := Int.eq_ofNat_of_zero_le hpb.1
                  obtain ⟨z', hz⟩ := Int.eq_ofNat_of_zero_le hpb.2.2.1
                  subst hy
                  subst hz
                  obtain ⟨bE, offE, rfl, e0, e1⟩ := ed_at (HRE.out wr HL.out.bel) i _ hp
                  simp only at e0 e1
                  obtain ⟨cb, hcb⟩ : ∃ cb, cl[i]? = some cb := ⟨_, List.getElem?_eq_getElem (by rw [Hcl.out]; exact hlt)⟩
                  obtain ⟨bC, offC, rfl, cc⟩ := bool_at (HRC.out _ (HL.out.alloc (.cells #[.int .i64 (y' : Int), .int .i64 (z' : Int)] 78)).bel) i _ hcb
                  have j0 : (0 : Int) ≤ (i : Int) := by omega
                  have j1 : (i : Int) < (m : Int) := by omega
                  have HL1 : Hid (LS W0 g n (wr.alloc (.cells #[.int .i64 (y' : Int), .int .i64 (z' : Int)] 78)) u11 l q) := hide (HL.out.alloc _)
                  have Hp := hide hp
                  have Hcb := hide hcb
                  have HD1 : Hid ((cb = false → z' = nd → Don l nd y') → ∀ (j v : Nat), j < i + 1 → cl[j]? = some false → es[j]? = some ((v : Int), (nd : Int)) → Don l nd v) := hide (fun h j v hj h1 h2 => by
                    rcases Nat.lt_or_ge j i with h' | h'
                    · exact HD.out j v h' h1 h2
                    · obtain rfl : j = i := by omega
                      rw [Hcb.out] at h1
                      rw [Hp.out] at h2
                      simp only [Option.some.injEq, Prod.mk.injEq] at h1 h2
                      have e1 : z' = nd := by omega
                      have e2 : y' = v := by omega
                      rw [← e2]
                      exact h h1 e1)
                  have db : Hid ((y' : Int) < n ∧ (z' : Int) < n) := hide ⟨hpb.2.1, hpb.2.2.2⟩
                  have dx := layc (W1 := wr.alloc (.cells #[.int .i64 (y' : Int), .int .i64 (z' : Int)] 78)) HBOX.out HL1.out.bel
                  obtain ⟨dx0, dx1⟩ := dx
                  clear hp hpb hcb
                  cases cb with
                  | true =>
                    have HD2 := hide (HD1.out (fun h => by cases h))
                    clear HD1
                    go_wp2_with fail
                    go_roundw
                    case rel => exact ⟨i + 1, l, q, by omega, by go_num, HL1, HQ, Hnd, HD2⟩
                    case measure => simp [intOf]; omega
                  | false =>
                    by_cases hnr : z' = nd
                    · have HdB := hide (And.intro db.out.1 db.out.2)
                      have tp : decide (0 ≤ (y' : Int) ∧ (y' : Int) < (n : Int)) = true := decide_eq_true ⟨by omega, by have := HdB.out; omega⟩
                      have hvl : Hid (y' < l.length) := hide (by rw [HQ.out.fnd.len]; have := HdB.out; omega)
                      have hnl : Hid (nd < l.length) := hide (by rw [HQ.out.fnd.len]; exact HQ.out.lt (List.mem_of_getElem? Hnd.out))
                      have v0 : (0 : Int) ≤ (y' : Int) := by omega
                      have v1 : (y' : Int) < (n : Int) := by have := HdB.out; omega
                      have t0 : (0 : Int) ≤ (nd : Int) := by omega
                      have t1 : (nd : Int) < (n : Int) := by have := hnl.out; rw [HQ.out.fnd.len] at this; omega
                      subst hnr
                      have hbe : ((z' : Int) != (z' : Int)) = false := bne_self_eq_false _
                      by_cases hfar : va l y' = -1
                      · have hE : Hid (Eg es cl 1 z' y') := hide ⟨i, Hcb.out, by rw [Hp.out]; rfl⟩
                        obtain ⟨Q1, Q2, Q3, Q4, Q5⟩ := HQ.out.put Hnd.out HT.out hE.out hfar (by have := hvl.out; rwa [HQ.out.fnd.len] at this)
                        have HQ1 := hide Q1
                        have HD2 := hide (HD1.out)
                        have HD3 : Hid (∀ (j v : Nat), j < i + 1 → cl[j]? = some false → es[j]? = some ((v : Int), (z' : Int)) → Don (l.set y' (va l z' + 1)) z' v) := hide (fun j v hj h1 h2 => by
                          rcases Nat.lt_or_ge j i with h' | h'
                          · exact Q2 _ _ (HD.out j v h' h1 h2) Q4
                          · obtain rfl : j = i := by omega
                            rw [Hp.out] at h2
                            simp only [Option.some.injEq, Prod.mk.injEq] at h2
                            have e2 : y' = v := by omega
                            rw [← e2]
                            exact Q3)
                        have HQ5 := hide Q5
                        have hdv : Hid (0 ≤ va l z' ∧ va l z' ≤ 100000) := hide ⟨(HQ.out.mem _).1 (List.mem_of_getElem? Hnd.out), dst_le HQ.out (List.mem_of_getElem? Hnd.out) Hn40.out⟩
                        obtain ⟨dN, hdN⟩ : ∃ dN, va l z' = dN := ⟨_, rfl⟩
                        have hw : IntKind.i64.wrap (dN + 1) = dN + 1 := by have := hdv.out; rw [hdN] at this; exact i64_small _ (by omega) (by omega)
                        have HdN := hide hdN
                        rw [hdN] at HQ1 HD3
                        clear HD1 HD2 Q1 Q2 Q3 Q4 Q5 HD hdN
                        go_wp2_with (first
                          | (go_at_call 96; refine (K25.out _ _).mono ?_; rintro e W2 ⟨rfl, hb2⟩; rw [tp]
                             have HL2 := hide (HL1.out.keep hb2)
                             have y0 := (HL2.out.at y' hvl.out).1
                             have f0 := (HL2.out.at y' hvl.out).2
                             have y1 := (HL2.out.at z' hnl.out).1
                             rw [hfar] at y0
                             rw [HdN.out] at y1
                             have HL3 : Hid (LS W0 g n (W2.setCell ⟨g, y', none⟩ (.int .i64 (dN + 1))) u11 (l.set y' (dN + 1)) q) := hide (HL2.out.set y' (dN + 1))
                             clear hb2)
                          | (at_builtin; refine intE.wp (w0 := W0) (HL3.out.alloc (.cells #[.int .i64 (y' : Int)] 3)).bel (by rfl) _ _ rfl _ _ rfl rfl (ints q) [(y' : Int)] (HL3.out.alloc (.cells #[.int .i64 (y' : Int)] 3)).que (int_new _ _ _ (by simp)) (by rw [ints_len]; have := HQ.out.size; have := Hn40.out; simp; omega) ?_; intro v5 W5 ho5 hg5 hv5 hb5; refine Hid.out ?_))
                        refine hide ?_
                        have HL6 := hide ((HL3.out.alloc (.cells #[.int .i64 (y' : Int)] 3)).app ho5 hg5 hv5 hb5)
                        clear ho5 hg5 hv5 hb5 y0 f0 y1
                        go_wp2_with fail
                        go_roundw
                        case rel => exact ⟨i + 1, _, _, by omega, by go_num, HL6, HQ1, HQ5, HD3⟩
                        case measure => simp [intOf]; omega
                      · have HD2 := hide (HD1.out (fun _ _ => HQ.out.old Hnd.out hfar))
                        have hfb : (va l y' != -1) = true := bne_iff_ne.2 hfar
                        obtain ⟨dX, hdX⟩ : ∃ dX, va l y' = dX := ⟨_, rfl⟩
                        have HdX := hide hdX
                        rw [hdX] at hfb
                        clear HD1 hfar hdX
                        go_wp2_with (first
                          | (go_at_call 96; refine (K25.out _ _).mono ?_; rintro e W2 ⟨rfl, hb2⟩; rw [tp]
                             have HL2 := hide (HL1.out.keep hb2)
                             have y0 := (HL2.out.at y' hvl.out).1
                             rw [HdX.out] at y0
                             clear hb2))
                        go_roundw
                        case rel => exact ⟨i + 1, l, q, by omega, by go_num, HL2, HQ, Hnd, HD2⟩
                        case measure => simp [intOf]; omega
                    · have HD2 := hide (HD1.out (fun _ h => absurd h hnr))
                      have hbe : ((z' : Int) != (nd : Int)) = true := bne_iff_ne.2 (by omega)
                      clear HD1 hnr
                      go_wp2_with fail
                      go_roundw
                      case rel => exact ⟨i + 1, l, q, by omega, by go_num, HL1, HQ, Hnd, HD2⟩
                      case measure => simp [intOf]; omega
                · obtain rfl : i = m := by omega
                  have j1 : ¬ (i : Int) < (i : Int) := by omega
                  have HQ2 : Hid (Que (Tk ns) (Eg es cl 1) s n l q (k + 1)) := hide (HQ.out.next Hnd.out (fun v hE _ => by
                    obtain ⟨j, h1, h2⟩ := hE
                    refine HD.out j v ?_ h1 h2
                    rcases Nat.lt_or_ge j es.length with h' | h'
                    · rw [Hm.out] at h'; exact h'
                    · rw [List.getElem?_eq_none h'] at h2; cases h2))
                  have Hkl : Hid (k + 1 ≤ q.length) := hide (by
                    rcases Nat.lt_or_ge k q.length with h' | h'
                    · exact h'
                    · have := Hnd.out; rw [List.getElem?_eq_none h'] at this; cases this)
                  have Hsz : Hid (k < n) := hide (by have := Hkl.out; have := HQ.out.size; omega)
                  go_wp2_with fail
                  go_roundw
                  case rel => exact ⟨k + 1, l, q, Hkl, by go_num, HL, HQ2⟩
                  case measure => have := Hsz.out; simp [intOf]; omega
            · have hkb : (p.kind != 1) = true := bne_iff_ne.2 hkd
              have HQ2 : Hid (Que (Tk ns) (Eg es cl 1) s n l q (k + 1)) := hide (HQ.out.next Hnd.out (fun v _ hT => absurd hT (fun h => h.elim hns (fun h => hkd (by unfold Tk at h; rw [Hkd.out] at h; exact h)))))
              have Hk2 : Hid (k + 1 ≤ q.length) := hide (by rw [Hnq.out]; exact hlt)
              have Hsz : Hid (k < n) := hide (by have := HQ.out.size; have := Hk2.out; omega)
              clear hns hkd
              go_wp2_with fail
              go_roundw
              case rel => exact ⟨k + 1, l, q, Hk2, by go_num, HL, HQ2⟩
              case measure => have := Hsz.out; simp [intOf]; omega
        · obtain rfl : k = nq := by have := Hk.out; omega
          have j1 : ¬ (k : Int) < (k : Int) := by omega
          have HF : Hid (Far (Eg es cl 1) (Tk ns) s n l) := hide (by
            have h := HQ.out
            rw [← Hnq.out] at h
            exact h.far)
          go_wp2_with fail
          try rw [Exit.noGoto_ret]
          go_ret
          exact ⟨⟨g, l, rfl, HL.out.far.mono HA.out.size, HF.out⟩, HA.out.trans (HL.out.bel.mono HA.out.size)⟩
end Go.Proofs.YtocmngpoemfpkaaGreatDoor
