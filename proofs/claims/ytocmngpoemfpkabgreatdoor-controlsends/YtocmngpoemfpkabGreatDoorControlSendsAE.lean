import Derived.Maps.Own
import Derived.Maps.OwnOps
import Derived.Maps.OwnSet
import Derived.Maps.Views
import Derived.Test.YtocmngpoemfpkabGreatDoorControlSendsAA
import Derived.Test.YtocmngpoemfpkabGreatDoorControlSendsAB
import Derived.Test.YtocmngpoemfpkabGreatDoorControlSendsAD
import Derived.WalkMore
set_option linter.unusedVariables false
namespace Go.Proofs.YtocmngpoemfpkabGreatDoor
open Go.RowKit
def Eg (es : List Ed) (cl : List Bool) (near : Nat) (u v : Nat) : Prop := ∃ i : Nat, cl[i]? = some false ∧ es[i]? = some (if near = 0 then ((u : Int), (v : Int)) else ((v : Int), (u : Int)))
def Tk (ns : List Nd) (u : Nat) : Prop := kindAt ns (u : Int) = 1
def inB (n : Nat) (es : List Ed) : Prop := ∀ e ∈ es, 0 ≤ e.1 ∧ e.1 < (n : Int) ∧ 0 ≤ e.2 ∧ e.2 < (n : Int)
def ints (q : List Nat) : List Int := q.map Int.ofNat
theorem ints_len (q : List Nat) : (ints q).length = q.length := by simp [ints]
theorem ints_app (q : List Nat) (v : Nat) : ints (q ++ [v]) = ints q ++ [(v : Int)] := by simp [ints]
theorem ints_at (q : List Nat) (k v : Nat) (h : q[k]? = some v) : (ints q)[k]? = some (v : Int) := by simp [ints, h]
structure LS (W0 : World) (g n : Nat) (W : World) (vq : Value) (l : List Int) (q : List Nat) : Prop where
 far : intE.Own W W0.heap.size (.slice (some ⟨g, 0, none⟩) n n) l
 que : intE.Own W W0.heap.size vq (ints q)
 sep : Sep vq (.slice (some ⟨g, 0, none⟩) n n)
 bel : Below W0.heap.size W0 W
theorem LS.keep {W0 W W' : World} {g n : Nat} {vq : Value} {l : List Int} {q : List Nat} (h : LS W0 g n W vq l q) (hb : Below W.heap.size W W') : LS W0 g n W' vq l q :=
 ⟨h.far.keep hb, h.que.keep hb, h.sep, h.bel.trans (hb.mono h.bel.size)⟩
theorem LS.alloc {W0 W : World} {g n : Nat} {vq : Value} {l : List Int} {q : List Nat} (h : LS W0 g n W vq l q) (o : Obj) : LS W0 g n (W.alloc o) vq l q :=
 h.keep ((Below.refl _ _).alloc (Nat.le_refl _) _)
theorem LS.set {W0 W : World} {g n : Nat} {vq : Value} {l : List Int} {q : List Nat} (h : LS W0 g n W vq l q) (i : Nat) (x : Int) : LS W0 g n (W.setCell ⟨g, i, none⟩ (.int .i64 x)) vq (l.set i x) q :=
 ⟨h.far.set (Value.int .i64) (fun _ => rfl) rfl i x, own_set_other h.que (fun e => h.sep g e rfl), h.sep, h.bel.setCell (p := ⟨g, i, none⟩) (h.far.ge g rfl) _⟩
theorem LS.app {W0 W W' : World} {g n v : Nat} {vq vq' : Value} {l : List Int} {q : List Nat} (h : LS W0 g n W vq l q) (ho : intE.Own W' W0.heap.size vq' (ints q ++ [(v : Int)])) (hg : W.grownBy W' vq.ownBlock) (hv : vq'.ownBlock = vq.ownBlock ∨ vq'.ownBlock = some W.heap.size) (hb : Below W0.heap.size W0 W') : LS W0 g n W' vq' l (q ++ [v]) :=
 ⟨El.Own.kept h.sep h.far hg, by rw [ints_app]; exact ho, El.Own.sep h.sep h.far hv, hb⟩
theorem LS.at {W0 W : World} {g n : Nat} {vq : Value} {l : List Int} {q : List Nat} (h : LS W0 g n W vq l q) (v : Nat) (hv : v < l.length) : W.cell? ⟨g, v, none⟩ = some (.int .i64 (va l v)) ∧ W.frozen? ⟨g, v, none⟩ = false :=
 h.far.at1 (Value.int .i64) (fun _ => rfl) rfl v _ (va_at l v hv)
theorem kind_at {ns : List Nd} {i : Nat} {p : Nd} (h : ns[i]? = some p) : kindAt ns (i : Int) = p.kind := by simp [kindAt, h]
theorem i64_small (x : Int) (h0 : -1 ≤ x) (h1 : x ≤ 1000000) : IntKind.i64.wrap x = x := by unfold IntKind.wrap; simp [IntKind.bits, IntKind.signed]; omega
theorem layc {w W0 W1 : World} {vN vE : Value} (hbox : W0.heap[w.heap.size]? = some (.cells #[vN, vE] 25)) (hb : Below W0.heap.size W0 W1) : W1.cell? ⟨w.heap.size, 0, none⟩ = some vN ∧ W1.cell? ⟨w.heap.size, 1, none⟩ = some vE := by
 rw [hb.cell (p := ⟨w.heap.size, 0, none⟩) (heap_lt hbox), hb.cell (p := ⟨w.heap.size, 1, none⟩) (heap_lt hbox)]
 exact ⟨(cells_at hbox 0).1, (cells_at hbox 1).1⟩
theorem dst_le {E : Nat → Nat → Prop} {T : Nat → Prop} {s n k v : Nat} {l : List Int} {q : List Nat} (h : Que T E s n l q k) (hv : v ∈ q) (hn : n ≤ 1000) : va l v ≤ 100000 := by
  obtain ⟨i, hi⟩ := List.getElem?_of_mem hv
  have := h.idx i v hi
  have := h.size
  have : i < q.length := by
    rcases Nat.lt_or_ge i q.length with h' | h'
    · exact h'
    · rw [List.getElem?_eq_none h'] at hi; cases hi
  omega
set_option maxRecDepth 100000 in
set_option maxHeartbeats 8000000 in
theorem lengths_from (a a' aC : Option Addr) (c c' cC n m s : Nat) (ns : List Nd) (es : List Ed) (cl : List Bool) (w : World) (hn : ns.length = n) (hm : es.length = m) (hc : cl.length = m) (hv : ndE.Rd w (.slice a n c) ns) (hu : edE.Rd w (.slice a' m c') es) (hC : boolE.Rd w (.slice aC m cC) cl) (hn4 : n ≤ 1000) (hm4 : m ≤ 1000) (hs : s < n) (hE : inB n es) :
    Calls Tryz.prog 114 #[.agg #[.slice a n c, .slice a' m c'], .slice aC m cC, .int .i64 (s : Int), .int .i64 0] w fun e w' => (∃ g l, e = .returned (.slice (some ⟨g, 0, none⟩) n n) ∧ intE.Own w' w.heap.size (.slice (some ⟨g, 0, none⟩) n n) l ∧ Far (Eg es cl 0) (Tk ns) s n l) ∧ Below w.heap.size w w' := by
  obtain ⟨W0, hW0⟩ : ∃ W0, w.alloc (.cells #[.slice a n c, .slice a' m c'] 25) = W0 := ⟨_, rfl⟩
  have bA : Below w.heap.size w W0 := by rw [← hW0]; exact (Below.refl _ _).alloc (Nat.le_refl _) _
  have hbox : W0.heap[w.heap.size]? = some (.cells #[.slice a n c, .slice a' m c'] 25) := by rw [← hW0]; exact heap_new _ _
  have d0 := (cells_at hbox 0).1
  simp at d0
  have HBOX := hide hbox
  obtain ⟨W1, hmk, ho1, hb1, hs1⟩ := made_ints W0 n (by omega)
  have HA := hide bA
  have Hb := hide hb1
  have Ho := hide ho1
  have HRN : Hid (∀ W, Below W0.heap.size W0 W → ndE.Rd W (.slice a n c) ns) := hide (fun W h => hv.keep (bA.trans (h.mono bA.size)))
  have HRE : Hid (∀ W, Below W0.heap.size W0 W → edE.Rd W (.slice a' m c') es) := hide (fun W h => hu.keep (bA.trans (h.mono bA.size)))
  have HRC : Hid (∀ W, Below W0.heap.size W0 W → boolE.Rd W (.slice aC m cC) cl) := hide (fun W h => hC.keep (bA.trans (h.mono bA.size)))
  have Hn := hide hn
  have Hm := hide hm
  have Hcl := hide hc
  have HE := hide hE
  have Hs := hide hs
  have Hn40 := hide hn4
  have HW0 := hide hW0
  have K25 := hide (fun i W => w_isPlace_any a a' n c m c' i W)
  have i0 : (n : Int) ≤ 1000 := by omega
  have i1 : (m : Int) ≤ 1000 := by omega
  have s0 : (0 : Int) ≤ (s : Int) := by omega
  have s1 : (s : Int) < (n : Int) := by omega
  obtain ⟨g, hg⟩ : ∃ g, W0.heap.size = g := ⟨_, rfl⟩
  rw [hg] at hmk
  have Ho' : Hid (intE.Own W1 W0.heap.size (.slice (some ⟨g, 0, none⟩) n n) (List.replicate n 0)) := by rw [← hg]; exact Ho
  have Hg : Hid (W0.heap.size ≤ g) := hide (by omega)
  clear hv hu hC hn hm hc hn4 hm4 hs hE hbox bA hW0 ho1 hb1 hs1 hg Ho
  go_enter Tryz.func114, Tryz.ntmps114
  go_wp2_with fail
  rw [HW0.out]
  clear HW0
  go_step3
  go_wp2_with fail
  go_loopw [23] (fun v23 wr => ∃ (k : Nat) (l : List Int), k ≤ n ∧ v23 = .int .i64 k ∧ Hid (intE.Own wr W0.heap.size (.slice (some ⟨g, 0, none⟩) n n) l) ∧ Hid (l.length = n ∧ ∀ i : Nat, i < k → l[i]? = some (-1)) ∧ Hid (Below W0.heap.size W0 wr)) (fun v23 _ => n - (intOf v23).toNat)
  case atStart => exact ⟨0, _, by omega, rfl, Ho', hide ⟨by simp, fun i hi => by omega⟩, Hb⟩
  case round =>
    obtain ⟨k, l, hk, rfl, HO, HX, HB⟩ := hrel
    by_cases hlt : k < n
    · obtain ⟨y0, f0⟩ := HO.out.at1 (Value.int .i64) (fun _ => rfl) rfl k _ (List.getElem?_eq_getElem (by rw [HX.out.1]; exact hlt))
      generalize l[k]'(by rw [HX.out.1]; exact hlt) = old at y0
      have j0 : (0 : Int) ≤ (k : Int) := by omega
      have j1 : (k : Int) < (n : Int) := by omega
      have HO1 : Hid (intE.Own (wr.setCell ⟨g, k, none⟩ (.int .i64 (-1))) W0.heap.size (.slice (some ⟨g, 0, none⟩) n n) (l.set k (-1))) := hide (HO.out.set (Value.int .i64) (fun _ => rfl) rfl k (-1))
      have HB1 : Hid (Below W0.heap.size W0 (wr.setCell ⟨g, k, none⟩ (.int .i64 (-1)))) := hide (HB.out.setCell (p := ⟨g, k, none⟩) Hg.out _)
      have HX1 : Hid ((l.set k (-1)).length = n ∧ ∀ i : Nat, i < k + 1 → (l.set k (-1))[i]? = some (-1)) := hide ⟨by rw [List.length_set]; exact HX.out.1, fun i hi => by
        rw [List.getElem?_set]
        by_cases e : k = i
        · rw [if_pos e, if_pos (by rw [HX.out.1]; exact hlt)]
        · rw [if_neg e]; exact HX.out.2 i (by omega)⟩
      go_wp2_with fail
      go_roundw
      case rel => exact ⟨k + 1, _, by omega, by go_num, HO1, HX1, HB1⟩
      case measure => simp [intOf]; omega
    · obtain rfl : k = n := by omega
      have j1 : ¬ (k : Int) < (k : Int) := by omega
      have hrep : l = List.replicate k (-1) := by
        apply List.ext_getElem?
        intro i
        rcases Nat.lt_or_ge i k with h | h
        · rw [HX.out.2 i h, List.getElem?_replicate, if_pos h]
        · rw [List.getElem?_eq_none (by rw [HX.out.1]; exact h), List.getElem?_eq_none (by simpa using h)]
      subst hrep
      obtain ⟨n, rfl⟩ : ∃ n', n' = k := ⟨_, rfl⟩
      obtain ⟨y0, f0⟩ := HO.out.at1 (Value.int .i64) (fun _ => rfl) rfl s (-1) (by rw [List.getElem?_replicate, if_pos Hs.out])
      have HLS : Hid (LS W0 g n ((wr.setCell ⟨g, s, none⟩ (.int .i64 0)).alloc (.cells #[.int .i64 (s : Int)] 3)) (.slice (some ⟨wr.heap.size, 0, none⟩) 1 1) ((List.replicate n (-1)).set s 0) [s]) := hide (by
        have h1 := HO.out.set (Value.int .i64) (fun _ => rfl) rfl s 0
        have h2 := HB.out.setCell (p := ⟨g, s, none⟩) Hg.out (.int .i64 0)
        have hb3 : Below (wr.setCell ⟨g, s, none⟩ (.int .i64 0)).heap.size (wr.setCell ⟨g, s, none⟩ (.int .i64 0)) ((wr.setCell ⟨g, s, none⟩ (.int .i64 0)).alloc (.cells #[.int .i64 (s : Int)] 3)) := (Below.refl _ _).alloc (Nat.le_refl _) _
        refine ⟨h1.keep hb3, El.Own.new intE _ _ h2.size _ (ints [s]) rfl (by simp [ints]) _ _ _ (by simp) rfl rfl, ?_, h2.trans (hb3.mono h2.size)⟩
        intro x hx hx'
        simp [Value.ownBlock] at hx hx'
        have := HO.out.lt g rfl
        omega)
      have HQS : Hid (Que (Tk ns) (Eg es cl 0) s n ((List.replicate n (-1)).set s 0) [s] 0) := hide (Que.start n Hs.out)
      go_wp2_with fail
      go_step3
      go_wp2_with fail
      go_loopw [11, 12] (fun v11 v12 wr => ∃ (k : Nat) (l : List Int) (q : List Nat), Hid (k ≤ q.length) ∧ v12 = .int .i64 k ∧ Hid (LS W0 g n wr v11 l q) ∧ Hid (Que (Tk ns) (Eg es cl 0) s n l q k)) (fun _ v12 _ => n - (intOf v12).toNat)
      case atStart => exact ⟨0, _, [s], hide (by simp), rfl, HLS, HQS⟩
      case round =>
        clear HO HX HB HLS HQS y0 f0
        obtain ⟨k, l, q, Hk, rfl, HL, HQ⟩ := hrel
        obtain ⟨aq, cq, hvq⟩ := HL.out.que.rd.form
        rw [ints_len] at hvq
        obtain ⟨nq, hnq⟩ : ∃ nq, q.length = nq := ⟨_, rfl⟩
        rw [hnq] at hvq
        subst hvq
        have Hnq := hide hnq
        have iq : (nq : Int) ≤ 1000 := by have := HQ.out.size; omega
        by_cases hlt : k < nq
        · obtain ⟨nd, hnd⟩ : ∃ nd, q[k]? = some nd := ⟨_, List.getElem?_eq_getElem (by rw [hnq]; exact hlt)⟩
          obtain ⟨bq, oq, rfl, c0⟩ := int_at HL.out.que.rd k _ (ints_at q k nd hnd)
          have j0 : (0 : Int) ≤ (k : Int) := by omega
          have j1 : (k : Int) < (nq : Int) := by omega
          have Hnd := hide hnd
          obtain ⟨x0, x1⟩ := layc HBOX.out HL.out.bel
          have hndn := HQ.out.lt (List.mem_of_getElem? hnd)
          obtain ⟨p, hp⟩ : ∃ p, ns[nd]? = some p := ⟨_, List.getElem?_eq_getElem (by rw [Hn.out]; exact hndn)⟩
          obtain ⟨bN, offN, haN, _, cK, _⟩ := nd_at (HRN.out wr HL.out.bel) nd p hp
          have Hkd := hide (kind_at hp)
          have t0 : (0 : Int) ≤ (nd : Int) := by omega
          have t1 : (nd : Int) < (n : Int) := by omega
          have Hndn := hide hndn
          clear hnq hnd hp hndn
          subst haN
          by_cases hns : nd = s
          · have HT : Hid (nd = s ∨ Tk ns nd) := hide (.inl hns)
            have hne : ((nd : Int) != (s : Int)) = false := by rw [hns]; exact bne_self_eq_false _
            clear hns t0 t1
            go_wp2_with fail
            go_loopw [11, 60] (fun v11 v60 wr => ∃ (i : Nat) (l : List Int) (q : List Nat), i ≤ m ∧ v60 = .int .i64 i ∧ Hid (LS W0 g n wr v11 l q) ∧ Hid (Que (Tk ns) (Eg es cl 0) s n l q k) ∧ Hid (q[k]? = some nd) ∧ Hid (∀ (j v : Nat), j < i → cl[j]? = some false → es[j]? = some ((nd : Int), (v : Int)) → Don l nd v)) (fun _ v60 _ => m - (intOf v60).toNat)
            case atStart => exact ⟨0, l, q, by omega, rfl, HL, HQ, Hnd, hide (fun j v hj => by omega)⟩
            case round =>
              clear HL HQ
              obtain ⟨i, l, q, hi, rfl, HL, HQ, Hnd, HD⟩ := hrel
              by_cases hlt : i < m
              · obtain ⟨p, hp⟩ : ∃ p, es[i]? = some p := ⟨_, List.getElem?_eq_getElem (by rw [Hm.out]; exact hlt)⟩
                obtain ⟨y, z⟩ := p
                have hpb := HE.out _ (List.mem_of_getElem? hp)
                simp only at hpb
                obtain ⟨y', hy⟩ := Int.eq_ofNat_of_zero_le hpb.1
                obtain ⟨z', hz⟩ := Int.eq_ofNat_of_zero_le hpb.2.2.1
                subst hy
                subst hz
                obtain ⟨bE, offE, rfl, e0, e1⟩ := ed_at (HRE.out wr HL.out.bel) i _ hp
                simp only at e0 e1
                obtain ⟨cb, hcb⟩ : ∃ cb, cl[i]? = some cb := ⟨_, List.getElem?_eq_getElem (by rw [Hcl.out]; exact hlt)⟩
                obtain ⟨bC, offC, rfl, cc⟩ := bool_at (HRC.out _ (HL.out.alloc (.cells #[.int .i64 (y' : Int), .int .i64 (z' : Int)] 65)).bel) i _ hcb
                have j0 : (0 : Int) ≤ (i : Int) := by omega
                have j1 : (i : Int) < (m : Int) := by omega
                have HL1 : Hid (LS W0 g n (wr.alloc (.cells #[.int .i64 (y' : Int), .int .i64 (z' : Int)] 65)) u11 l q) := hide (HL.out.alloc _)
                have Hp := hide hp
                have Hcb := hide hcb
                have HD1 : Hid ((cb = false → y' = nd → Don l nd z') → ∀ (j v : Nat), j < i + 1 → cl[j]? = some false → es[j]? = some ((nd : Int), (v : Int)) → Don l nd v) := hide (fun h j v hj h1 h2 => by
                  rcases Nat.lt_or_ge j i with h' | h'
                  · exact HD.out j v h' h1 h2
                  · obtain rfl : j = i := by omega
                    rw [Hcb.out] at h1
                    rw [Hp.out] at h2
                    simp only [Option.some.injEq, Prod.mk.injEq] at h1 h2
                    have e1 : y' = nd := by omega
                    have e2 : z' = v := by omega
                    rw [← e2]
                    exact h h1 e1)
                have db : Hid ((y' : Int) < n ∧ (z' : Int) < n) := hide ⟨hpb.2.1, hpb.2.2.2⟩
                have dx := layc (W1 := wr.alloc (.cells #[.int .i64 (y' : Int), .int .i64 (z' : Int)] 65)) HBOX.out HL1.out.bel
                obtain ⟨dx0, dx1⟩ := dx
                clear hp hpb hcb
                cases cb with
                | true =>
                  have HD2 := hide (HD1.out (fun h => by cases h))
                  clear HD1
                  go_wp2_with fail
                  go_roundw
                  case rel => exact ⟨i + 1, l, q, by omega, by go_num, HL1, HQ, Hnd, HD2⟩
                  case measure => simp [intOf]; omega
                | false =>
                  by_cases hnr : y' = nd
                  · have HdB := hide (And.intro db.out.1 db.out.2)
                    have tp : decide (0 ≤ (z' : Int) ∧ (z' : Int) < (n : Int)) = true := decide_eq_true ⟨by omega, by have := HdB.out; omega⟩
                    have hvl : Hid (z' < l.length) := hide (by rw [HQ.out.fnd.len]; have := HdB.out; omega)
                    have hnl : Hid (nd < l.length) := hide (by rw [HQ.out.fnd.len]; exact HQ.out.lt (List.mem_of_getElem? Hnd.out))
                    have v0 : (0 : Int) ≤ (z' : Int) := by omega
                    have v1 : (z' : Int) < (n : Int) := by have := HdB.out; omega
                    have t0 : (0 : Int) ≤ (nd : Int) := by omega
                    have t1 : (nd : Int) < (n : Int) := by have := hnl.out; rw [HQ.out.fnd.len] at this; omega
                    subst hnr
                    have hbe : ((y' : Int) != (y' : Int)) = false := bne_self_eq_false _
                    by_cases hfar : va l z' = -1
                    · have hE : Hid (Eg es cl 0 y' z') := hide ⟨i, Hcb.out, by rw [Hp.out]; rfl⟩
                      obtain ⟨Q1, Q2, Q3, Q4, Q5⟩ := HQ.out.put Hnd.out HT.out hE.out hfar (by have := hvl.out; rwa [HQ.out.fnd.len] at this)
                      have HQ1 := hide Q1
                      have HD2 := hide (HD1.out)
                      have HD3 : Hid (∀ (j v : Nat), j < i + 1 → cl[j]? = some false → es[j]? = some ((y' : Int), (v : Int)) → Don (l.set z' (va l y' + 1)) y' v) := hide (fun j v hj h1 h2 => by
                        rcases Nat.lt_or_ge j i with h' | h'
                        · exact Q2 _ _ (HD.out j v h' h1 h2) Q4
                        · obtain rfl : j = i := by omega
                          rw [Hp.out] at h2
                          simp only [Option.some.injEq, Prod.mk.injEq] at h2
                          have e2 : z' = v := by omega
                          rw [← e2]
                          exact Q3)
                      have HQ5 := hide Q5
                      have hdv : Hid (0 ≤ va l y' ∧ va l y' ≤ 100000) := hide ⟨(HQ.out.mem _).1 (List.mem_of_getElem? Hnd.out), dst_le HQ.out (List.mem_of_getElem? Hnd.out) Hn40.out⟩
                      obtain ⟨dN, hdN⟩ : ∃ dN, va l y' = dN := ⟨_, rfl⟩
                      have hw : IntKind.i64.wrap (dN + 1) = dN + 1 := by have := hdv.out; rw [hdN] at this; exact i64_small _ (by omega) (by omega)
                      have HdN := hide hdN
                      rw [hdN] at HQ1 HD3
                      clear HD1 HD2 Q1 Q2 Q3 Q4 Q5 HD hdN
                      go_wp2_with (first
                        | (go_at_call 113; refine (K25.out _ _).mono ?_; rintro e W2 ⟨rfl, hb2⟩; rw [tp]
                           have HL2 := hide (HL1.out.keep hb2)
                           have y0 := (HL2.out.at z' hvl.out).1
                           have f0 := (HL2.out.at z' hvl.out).2
                           have y1 := (HL2.out.at y' hnl.out).1
                           rw [hfar] at y0
                           rw [HdN.out] at y1
                           have HL3 : Hid (LS W0 g n (W2.setCell ⟨g, z', none⟩ (.int .i64 (dN + 1))) u11 (l.set z' (dN + 1)) q) := hide (HL2.out.set z' (dN + 1))
                           clear hb2)
                        | (at_builtin; refine intE.wp (w0 := W0) (HL3.out.alloc (.cells #[.int .i64 (z' : Int)] 3)).bel (by rfl) _ _ rfl _ _ rfl rfl (ints q) [(z' : Int)] (HL3.out.alloc (.cells #[.int .i64 (z' : Int)] 3)).que (int_new _ _ _ (by simp)) (by rw [ints_len]; have := HQ.out.size; have := Hn40.out; simp; omega) ?_; intro v5 W5 ho5 hg5 hv5 hb5; refine Hid.out ?_))
                      refine hide ?_
                      have HL6 := hide ((HL3.out.alloc (.cells #[.int .i64 (z' : Int)] 3)).app ho5 hg5 hv5 hb5)
                      clear ho5 hg5 hv5 hb5 y0 f0 y1
                      go_wp2_with fail
                      go_roundw
                      case rel => exact ⟨i + 1, _, _, by omega, by go_num, HL6, HQ1, HQ5, HD3⟩
                      case measure => simp [intOf]; omega
                    · have HD2 := hide (HD1.out (fun _ _ => HQ.out.old Hnd.out hfar))
                      have hfb : (va l z' != -1) = true := bne_iff_ne.2 hfar
                      obtain ⟨dX, hdX⟩ : ∃ dX, va l z' = dX := ⟨_, rfl⟩
                      have HdX := hide hdX
                      rw [hdX] at hfb
                      clear HD1 hfar hdX
                      go_wp2_with (first
                        | (go_at_call 113; refine (K25.out _ _).mono ?_; rintro e W2 ⟨rfl, hb2⟩; rw [tp]
                           have HL2 := hide (HL1.out.keep hb2)
                           have y0 := (HL2.out.at z' hvl.out).1
                           rw [HdX.out] at y0
                           clear hb2))
                      go_roundw
                      case rel => exact ⟨i + 1, l, q, by omega, by go_num, HL2, HQ, Hnd, HD2⟩
                      case measure => simp [intOf]; omega
                  · have HD2 := hide (HD1.out (fun _ h => absurd h hnr))
                    have hbe : ((y' : Int) != (nd : Int)) = true := bne_iff_ne.2 (by omega)
                    clear HD1 hnr
                    go_wp2_with fail
                    go_roundw
                    case rel => exact ⟨i + 1, l, q, by omega, by go_num, HL1, HQ, Hnd, HD2⟩
                    case measure => simp [intOf]; omega
              · obtain rfl : i = m := by omega
                have j1 : ¬ (i : Int) < (i : Int) := by omega
                have HQ2 : Hid (Que (Tk ns) (Eg es cl 0) s n l q (k + 1)) := hide (HQ.out.next Hnd.out (fun v hE _ => by
                  obtain ⟨j, h1, h2⟩ := hE
                  refine HD.out j v ?_ h1 h2
                  rcases Nat.lt_or_ge j es.length with h' | h'
                  · rw [Hm.out] at h'; exact h'
                  · rw [List.getElem?_eq_none h'] at h2; cases h2))
                have Hkl : Hid (k + 1 ≤ q.length) := hide (by
                  rcases Nat.lt_or_ge k q.length with h' | h'
                  · exact h'
                  · have := Hnd.out; rw [List.getElem?_eq_none h'] at this; cases this)
                have Hsz : Hid (k < n) := hide (by have := Hkl.out; have := HQ.out.size; omega)
                go_wp2_with fail
                go_roundw
                case rel => exact ⟨k + 1, l, q, Hkl, by go_num, HL, HQ2⟩
                case measure => have := Hsz.out; simp [intOf]; omega
          · have hne : ((nd : Int) != (s : Int)) = true := bne_iff_ne.2 (by omega)
            by_cases hkd : p.kind = 1
            · have HT : Hid (nd = s ∨ Tk ns nd) := hide (.inr (by unfold Tk; rw [Hkd.out]; exact hkd))
              have hkb : (p.kind != 1) = false := by rw [hkd]; rfl
              clear hns hkd
              go_wp2_with fail
              go_loopw [11, 60] (fun v11 v60 wr => ∃ (i : Nat) (l : List Int) (q : List Nat), i ≤ m ∧ v60 = .int .i64 i ∧ Hid (LS W0 g n wr v11 l q) ∧ Hid (Que (Tk ns) (Eg es cl 0) s n l q k) ∧ Hid (q[k]? = some nd) ∧ Hid (∀ (j v : Nat), j < i → cl[j]? = some false → es[j]? = some ((nd : Int), (v : Int)) → Don l nd v)) (fun _ v60 _ => m - (intOf v60).toNat)
              case atStart => exact ⟨0, l, q, by omega, rfl, HL, HQ, Hnd, hide (fun j v hj => by omega)⟩
              case round =>
                clear HL HQ
                obtain ⟨i, l, q, hi, rfl, HL, HQ, Hnd, HD⟩ := hrel
                by_cases hlt : i < m
                · obtain ⟨p, hp⟩ : ∃ p, es[i]? = some p := ⟨_, List.getElem?_eq_getElem (by rw [Hm.out]; exact hlt)⟩
                  obtain ⟨y, z⟩ := p
                  have hpb := HE.out _ (List.mem_of_getElem? hp)
                  simp only at hpb
                  obtain ⟨y', hy⟩ := Int.eq_ofNat_of_zero_le hpb.1
                  obtain ⟨z', hz⟩ := Int.eq_ofNat_of_zero_le hpb.2.2.1
                  subst hy
                  subst hz
                  obtain ⟨bE, offE, rfl, e0, e1⟩ := ed_at (HRE.out wr HL.out.bel) i _ hp
                  simp only at e0 e1
                  obtain ⟨cb, hcb⟩ : ∃ cb, cl[i]? = some cb := ⟨_, List.getElem?_eq_getElem (by rw [Hcl.out]; exact hlt)⟩
                  obtain ⟨bC, offC, rfl, cc⟩ := bool_at (HRC.out _ (HL.out.alloc (.cells #[.int .i64 (y' : Int), .int .i64 (z' : Int)] 65)).bel) i _ hcb
                  have j0 : (0 : Int) ≤ (i : Int) := by omega
                  have j1 : (i : Int) < (m : Int) := by omega
                  have HL1 : Hid (LS W0 g n (wr.alloc (.cells #[.int .i64 (y' : Int), .int .i64 (z' : Int)] 65)) u11 l q) := hide (HL.out.alloc _)
                  have Hp := hide hp
                  have Hcb := hide hcb
                  have HD1 : Hid ((cb = false → y' = nd → Don l nd z') → ∀ (j v : Nat), j < i + 1 → cl[j]? = some false → es[j]? = some ((nd : Int), (v : Int)) → Don l nd v) := hide (fun h j v hj h1 h2 => by
                    rcases Nat.lt_or_ge j i with h' | h'
                    · exact HD.out j v h' h1 h2
                    · obtain rfl : j = i := by omega
                      rw [Hcb.out] at h1
                      rw [Hp.out] at h2
                      simp only [Option.some.injEq, Prod.mk.injEq] at h1 h2
                      have e1 : y' = nd := by omega
                      have e2 : z' = v := by omega
                      rw [← e2]
                      exact h h1 e1)
                  have db : Hid ((y' : Int) < n ∧ (z' : Int) < n) := hide ⟨hpb.2.1, hpb.2.2.2⟩
                  have dx := layc (W1 := wr.alloc (.cells #[.int .i64 (y' : Int), .int .i64 (z' : Int)] 65)) HBOX.out HL1.out.bel
                  obtain ⟨dx0, dx1⟩ := dx
                  clear hp hpb hcb
                  cases cb with
                  | true =>
                    have HD2 := hide (HD1.out (fun h => by cases h))
                    clear HD1
                    go_wp2_with fail
                    go_roundw
                    case rel => exact ⟨i + 1, l, q, by omega, by go_num, HL1, HQ, Hnd, HD2⟩
                    case measure => simp [intOf]; omega
                  | false =>
                    by_cases hnr : y' = nd
                    · have HdB := hide (And.intro db.out.1 db.out.2)
                      have tp : decide (0 ≤ (z' : Int) ∧ (z' : Int) < (n : Int)) = true := decide_eq_true ⟨by omega, by have := HdB.out; omega⟩
                      have hvl : Hid (z' < l.length) := hide (by rw [HQ.out.fnd.len]; have := HdB.out; omega)
                      have hnl : Hid (nd < l.length) := hide (by rw [HQ.out.fnd.len]; exact HQ.out.lt (List.mem_of_getElem? Hnd.out))
                      have v0 : (0 : Int) ≤ (z' : Int) := by omega
                      have v1 : (z' : Int) < (n : Int) := by have := HdB.out; omega
                      have t0 : (0 : Int) ≤ (nd : Int) := by omega
                      have t1 : (nd : Int) < (n : Int) := by have := hnl.out; rw [HQ.out.fnd.len] at this; omega
                      subst hnr
                      have hbe : ((y' : Int) != (y' : Int)) = false := bne_self_eq_false _
                      by_cases hfar : va l z' = -1
                      · have hE : Hid (Eg es cl 0 y' z') := hide ⟨i, Hcb.out, by rw [Hp.out]; rfl⟩
                        obtain ⟨Q1, Q2, Q3, Q4, Q5⟩ := HQ.out.put Hnd.out HT.out hE.out hfar (by have := hvl.out; rwa [HQ.out.fnd.len] at this)
                        have HQ1 := hide Q1
                        have HD2 := hide (HD1.out)
                        have HD3 : Hid (∀ (j v : Nat), j < i + 1 → cl[j]? = some false → es[j]? = some ((y' : Int), (v : Int)) → Don (l.set z' (va l y' + 1)) y' v) := hide (fun j v hj h1 h2 => by
                          rcases Nat.lt_or_ge j i with h' | h'
                          · exact Q2 _ _ (HD.out j v h' h1 h2) Q4
                          · obtain rfl : j = i := by omega
                            rw [Hp.out] at h2
                            simp only [Option.some.injEq, Prod.mk.injEq] at h2
                            have e2 : z' = v := by omega
                            rw [← e2]
                            exact Q3)
                        have HQ5 := hide Q5
                        have hdv : Hid (0 ≤ va l y' ∧ va l y' ≤ 100000) := hide ⟨(HQ.out.mem _).1 (List.mem_of_getElem? Hnd.out), dst_le HQ.out (List.mem_of_getElem? Hnd.out) Hn40.out⟩
                        obtain ⟨dN, hdN⟩ : ∃ dN, va l y' = dN := ⟨_, rfl⟩
                        have hw : IntKind.i64.wrap (dN + 1) = dN + 1 := by have := hdv.out; rw [hdN] at this; exact i64_small _ (by omega) (by omega)
                        have HdN := hide hdN
                        rw [hdN] at HQ1 HD3
                        clear HD1 HD2 Q1 Q2 Q3 Q4 Q5 HD hdN
                        go_wp2_with (first
                          | (go_at_call 113; refine (K25.out _ _).mono ?_; rintro e W2 ⟨rfl, hb2⟩; rw [tp]
                             have HL2 := hide (HL1.out.keep hb2)
                             have y0 := (HL2.out.at z' hvl.out).1
                             have f0 := (HL2.out.at z' hvl.out).2
                             have y1 := (HL2.out.at y' hnl.out).1
                             rw [hfar] at y0
                             rw [HdN.out] at y1
                             have HL3 : Hid (LS W0 g n (W2.setCell ⟨g, z', none⟩ (.int .i64 (dN + 1))) u11 (l.set z' (dN + 1)) q) := hide (HL2.out.set z' (dN + 1))
                             clear hb2)
                          | (at_builtin; refine intE.wp (w0 := W0) (HL3.out.alloc (.cells #[.int .i64 (z' : Int)] 3)).bel (by rfl) _ _ rfl _ _ rfl rfl (ints q) [(z' : Int)] (HL3.out.alloc (.cells #[.int .i64 (z' : Int)] 3)).que (int_new _ _ _ (by simp)) (by rw [ints_len]; have := HQ.out.size; have := Hn40.out; simp; omega) ?_; intro v5 W5 ho5 hg5 hv5 hb5; refine Hid.out ?_))
                        refine hide ?_
                        have HL6 := hide ((HL3.out.alloc (.cells #[.int .i64 (z' : Int)] 3)).app ho5 hg5 hv5 hb5)
                        clear ho5 hg5 hv5 hb5 y0 f0 y1
                        go_wp2_with fail
                        go_roundw
                        case rel => exact ⟨i + 1, _, _, by omega, by go_num, HL6, HQ1, HQ5, HD3⟩
                        case measure => simp [intOf]; omega
                      · have HD2 := hide (HD1.out (fun _ _ => HQ.out.old Hnd.out hfar))
                        have hfb : (va l z' != -1) = true := bne_iff_ne.2 hfar
                        obtain ⟨dX, hdX⟩ : ∃ dX, va l z' = dX := ⟨_, rfl⟩
                        have HdX := hide hdX
                        rw [hdX] at hfb
                        clear HD1 hfar hdX
                        go_wp2_with (first
                          | (go_at_call 113; refine (K25.out _ _).mono ?_; rintro e W2 ⟨rfl, hb2⟩; rw [tp]
                             have HL2 := hide (HL1.out.keep hb2)
                             have y0 := (HL2.out.at z' hvl.out).1
                             rw [HdX.out] at y0
                             clear hb2))
                        go_roundw
                        case rel => exact ⟨i + 1, l, q, by omega, by go_num, HL2, HQ, Hnd, HD2⟩
                        case measure => simp [intOf]; omega
                    · have HD2 := hide (HD1.out (fun _ h => absurd h hnr))
                      have hbe : ((y' : Int) != (nd : Int)) = true := bne_iff_ne.2 (by omega)
                      clear HD1 hnr
                      go_wp2_with fail
                      go_roundw
                      case rel => exact ⟨i + 1, l, q, by omega, by go_num, HL1, HQ, Hnd, HD2⟩
                      case measure => simp [intOf]; omega
                · obtain rfl : i = m := by omega
                  have j1 : ¬ (i : Int) < (i : Int) := by omega
                  have HQ2 : Hid (Que (Tk ns) (Eg es cl 0) s n l q (k + 1)) := hide (HQ.out.next Hnd.out (fun v hE _ => by
                    obtain ⟨j, h1, h2⟩ := hE
                    refine HD.out j v ?_ h1 h2
                    rcases Nat.lt_or_ge j es.length with h' | h'
                    · rw [Hm.out] at h'; exact h'
                    · rw [List.getElem?_eq_none h'] at h2; cases h2))
                  have Hkl : Hid (k + 1 ≤ q.length) := hide (by
                    rcases Nat.lt_or_ge k q.length with h' | h'
                    · exact h'
                    · have := Hnd.out; rw [List.getElem?_eq_none h'] at this; cases this)
                  have Hsz : Hid (k < n) := hide (by have := Hkl.out; have := HQ.out.size; omega)
                  go_wp2_with fail
                  go_roundw
                  case rel => exact ⟨k + 1, l, q, Hkl, by go_num, HL, HQ2⟩
                  case measure => have := Hsz.out; simp [intOf]; omega
            · have hkb : (p.kind != 1) = true := bne_iff_ne.2 hkd
              have HQ2 : Hid (Que (Tk ns) (Eg es cl 0) s n l q (k + 1)) := hide (HQ.out.next Hnd.out (fun v _ hT => absurd hT (fun h => h.elim hns (fun h => hkd (by unfold Tk at h; rw [Hkd.out] at h; exact h)))))
              have Hk2 : Hid (k + 1 ≤ q.length) := hide (by rw [Hnq.out]; exact hlt)
              have Hsz : Hid (k < n) := hide (by have := HQ.out.size; have := Hk2.out; omega)
              clear hns hkd
              go_wp2_with fail
              go_roundw
              case rel => exact ⟨k + 1, l, q, Hk2, by go_num, HL, HQ2⟩
              case measure => have := Hsz.out; simp [intOf]; omega
        · obtain rfl : k = nq := by have := Hk.out; omega
          have j1 : ¬ (k : Int) < (k : Int) := by omega
          have HF : Hid (Far (Eg es cl 0) (Tk ns) s n l) := hide (by
            have h := HQ.out
            rw [← Hnq.out] at h
            exact h.far)
          go_wp2_with fail
          try rw [Exit.noGoto_ret]
          go_ret
          exact ⟨⟨g, l, rfl, HL.out.far.mono HA.out.size, HF.out⟩, HA.out.trans (HL.out.bel.mono HA.out.size)⟩
set_option maxRecDepth 100000 in
set_option maxHeartbeats 8000000 in
theorem lengths_to (a a' aC : Option Addr) (c c' cC n m s : Nat) (ns : List Nd) (es : List Ed) (cl : List Bool) (w : World) (hn : ns.length = n) (hm : es.length = m) (hc : cl.length = m) (hv : ndE.Rd w (.slice a n c) ns) (hu : edE.Rd w (.slice a' m c') es) (hC : boolE.Rd w (.slice aC m cC) cl) (hn4 : n ≤ 1000) (hm4 : m ≤ 1000) (hs : s < n) (hE : inB n es) :
    Calls Tryz.prog 114 #[.agg #[.slice a n c, .slice a' m c'], .slice aC m cC, .int .i64 (s : Int), .int .i64 1] w fun e w' => (∃ g l, e = .returned (.slice (some ⟨g, 0, none⟩) n n) ∧ intE.Own w' w.heap.size (.slice (some ⟨g, 0, none⟩) n n) l ∧ Far (Eg es cl 1) (Tk ns) s n l) ∧ Below w.heap.size w w' := by
  obtain ⟨W0, hW0⟩ : ∃ W0, w.alloc (.cells #[.slice a n c, .slice a' m c'] 25) = W0 := ⟨_, rfl⟩
  have bA : Below w.heap.size w W0 := by rw [← hW0]; exact (Below.refl _ _).alloc (Nat.le_refl _) _
  have hbox : W0.heap[w.heap.size]? = some (.cells #[.slice a n c, .slice a' m c'] 25) := by rw [← hW0]; exact heap_new _ _
  have d0 := (cells_at hbox 0).1
  simp at d0
  have HBOX := hide hbox
  obtain ⟨W1, hmk, ho1, hb1, hs1⟩ := made_ints W0 n (by omega)
  have HA := hide bA
  have Hb := hide hb1
  have Ho := hide ho1
  have HRN : Hid (∀ W, Below W0.heap.size W0 W → ndE.Rd W (.slice a n c) ns) := hide (fun W h => hv.keep (bA.trans (h.mono bA.size)))
  have HRE : Hid (∀ W, Below W0.heap.size W0 W → edE.Rd W (.slice a' m c') es) := hide (fun W h => hu.keep (bA.trans (h.mono bA.size)))
  have HRC : Hid (∀ W, Below W0.heap.size W0 W → boolE.Rd W (.slice aC m cC) cl) := hide (fun W h => hC.keep (bA.trans (h.mono bA.size)))
  have Hn := hide hn
  have Hm := hide hm
  have Hcl := hide hc
  have HE := hide hE
  have Hs := hide hs
  have Hn40 := hide hn4
  have HW0 := hide hW0
  have K25 := hide (fun i W => w_isPlace_any a a' n c m c' i W)
  have i0 : (n : Int) ≤ 1000 := by omega
  have i1 : (m : Int) ≤ 1000 := by omega
  have s0 : (0 : Int) ≤ (s : Int) := by omega
  have s1 : (s : Int) < (n : Int) := by omega
  obtain ⟨g, hg⟩ : ∃ g, W0.heap.size = g := ⟨_, rfl⟩
  rw [hg] at hmk
  have Ho' : Hid (intE.Own W1 W0.heap.size (.slice (some ⟨g, 0, none⟩) n n) (List.replicate n 0)) := by rw [← hg]; exact Ho
  have Hg : Hid (W0.heap.size ≤ g) := hide (by omega)
  clear hv hu hC hn hm hc hn4 hm4 hs hE hbox bA hW0 ho1 hb1 hs1 hg Ho
  go_enter Tryz.func114, Tryz.ntmps114
  go_wp2_with fail
  rw [HW0.out]
  clear HW0
  go_step3
  go_wp2_with fail
  go_loopw [23] (fun v23 wr => ∃ (k : Nat) (l : List Int), k ≤ n ∧ v23 = .int .i64 k ∧ Hid (intE.Own wr W0.heap.size (.slice (some ⟨g, 0, none⟩) n n) l) ∧ Hid (l.length = n ∧ ∀ i : Nat, i < k → l[i]? = some (-1)) ∧ Hid (Below W0.heap.size W0 wr)) (fun v23 _ => n - (intOf v23).toNat)
  case atStart => exact ⟨0, _, by omega, rfl, Ho', hide ⟨by simp, fun i hi => by omega⟩, Hb⟩
  case round =>
    obtain ⟨k, l, hk, rfl, HO, HX, HB⟩ := hrel
    by_cases hlt : k < n
    · obtain ⟨y0, f0⟩ := HO.out.at1 (Value.int .i64) (fun _ => rfl) rfl k _ (List.getElem?_eq_getElem (by rw [HX.out.1]; exact hlt))
      generalize l[k]'(by rw [HX.out.1]; exact hlt) = old at y0
      have j0 : (0 : Int) ≤ (k : Int) := by omega
      have j1 : (k : Int) < (n : Int) := by omega
      have HO1 : Hid (intE.Own (wr.setCell ⟨g, k, none⟩ (.int .i64 (-1))) W0.heap.size (.slice (some ⟨g, 0, none⟩) n n) (l.set k (-1))) := hide (HO.out.set (Value.int .i64) (fun _ => rfl) rfl k (-1))
      have HB1 : Hid (Below W0.heap.size W0 (wr.setCell ⟨g, k, none⟩ (.int .i64 (-1)))) := hide (HB.out.setCell (p := ⟨g, k, none⟩) Hg.out _)
      have HX1 : Hid ((l.set k (-1)).length = n ∧ ∀ i : Nat, i < k + 1 → (l.set k (-1))[i]? = some (-1)) := hide ⟨by rw [List.length_set]; exact HX.out.1, fun i hi => by
        rw [List.getElem?_set]
        by_cases e : k = i
        · rw [if_pos e, if_pos (by rw [HX.out.1]; exact hlt)]
        · rw [if_neg e]; exact HX.out.2 i (by omega)⟩
      go_wp2_with fail
      go_roundw
      case rel => exact ⟨k + 1, _, by omega, by go_num, HO1, HX1, HB1⟩
      case measure => simp [intOf]; omega
    · obtain rfl : k = n := by omega
      have j1 : ¬ (k : Int) < (k : Int) := by omega
      have hrep : l = List.replicate k (-1) := by
        apply List.ext_getElem?
        intro i
        rcases Nat.lt_or_ge i k with h | h
        · rw [HX.out.2 i h, List.getElem?_replicate, if_pos h]
        · rw [List.getElem?_eq_none (by rw [HX.out.1]; exact h), List.getElem?_eq_none (by simpa using h)]
      subst hrep
      obtain ⟨n, rfl⟩ : ∃ n', n' = k := ⟨_, rfl⟩
      obtain ⟨y0, f0⟩ := HO.out.at1 (Value.int .i64) (fun _ => rfl) rfl s (-1) (by rw [List.getElem?_replicate, if_pos Hs.out])
      have HLS : Hid (LS W0 g n ((wr.setCell ⟨g, s, none⟩ (.int .i64 0)).alloc (.cells #[.int .i64 (s : Int)] 3)) (.slice (some ⟨wr.heap.size, 0, none⟩) 1 1) ((List.replicate n (-1)).set s 0) [s]) := hide (by
        have h1 := HO.out.set (Value.int .i64) (fun _ => rfl) rfl s 0
        have h2 := HB.out.setCell (p := ⟨g, s, none⟩) Hg.out (.int .i64 0)
        have hb3 : Below (wr.setCell ⟨g, s, none⟩ (.int .i64 0)).heap.size (wr.setCell ⟨g, s, none⟩ (.int .i64 0)) ((wr.setCell ⟨g, s, none⟩ (.int .i64 0)).alloc (.cells #[.int .i64 (s : Int)] 3)) := (Below.refl _ _).alloc (Nat.le_refl _) _
        refine ⟨h1.keep hb3, El.Own.new intE _ _ h2.size _ (ints [s]) rfl (by simp [ints]) _ _ _ (by simp) rfl rfl, ?_, h2.trans (hb3.mono h2.size)⟩
        intro x hx hx'
        simp [Value.ownBlock] at hx hx'
        have := HO.out.lt g rfl
        omega)
      have HQS : Hid (Que (Tk ns) (Eg es cl 1) s n ((List.replicate n (-1)).set s 0) [s] 0) := hide (Que.start n Hs.out)
      go_wp2_with fail
      go_step3
      go_wp2_with fail
      go_loopw [11, 12] (fun v11 v12 wr => ∃ (k : Nat) (l : List Int) (q : List Nat), Hid (k ≤ q.length) ∧ v12 = .int .i64 k ∧ Hid (LS W0 g n wr v11 l q) ∧ Hid (Que (Tk ns) (Eg es cl 1) s n l q k)) (fun _ v12 _ => n - (intOf v12).toNat)
      case atStart => exact ⟨0, _, [s], hide (by simp), rfl, HLS, HQS⟩
      case round =>
        clear HO HX HB HLS HQS y0 f0
        obtain ⟨k, l, q, Hk, rfl, HL, HQ⟩ := hrel
        obtain ⟨aq, cq, hvq⟩ := HL.out.que.rd.form
        rw [ints_len] at hvq
        obtain ⟨nq, hnq⟩ : ∃ nq, q.length = nq := ⟨_, rfl⟩
        rw [hnq] at hvq
        subst hvq
        have Hnq := hide hnq
        have iq : (nq : Int) ≤ 1000 := by have := HQ.out.size; omega
        by_cases hlt : k < nq
        · obtain ⟨nd, hnd⟩ : ∃ nd, q[k]? = some nd := ⟨_, List.getElem?_eq_getElem (by rw [hnq]; exact hlt)⟩
          obtain ⟨bq, oq, rfl, c0⟩ := int_at HL.out.que.rd k _ (ints_at q k nd hnd)
          have j0 : (0 : Int) ≤ (k : Int) := by omega
          have j1 : (k : Int) < (nq : Int) := by omega
          have Hnd := hide hnd
          obtain ⟨x0, x1⟩ := layc HBOX.out HL.out.bel
          have hndn := HQ.out.lt (List.mem_of_getElem? hnd)
          obtain ⟨p, hp⟩ : ∃ p, ns[nd]? = some p := ⟨_, List.getElem?_eq_getElem (by rw [Hn.out]; exact hndn)⟩
          obtain ⟨bN, offN, haN, _, cK, _⟩ := nd_at (HRN.out wr HL.out.bel) nd p hp
          have Hkd := hide (kind_at hp)
          have t0 : (0 : Int) ≤ (nd : Int) := by omega
          have t1 : (nd : Int) < (n : Int) := by omega
          have Hndn := hide hndn
          clear hnq hnd hp hndn
          subst haN
          by_cases hns : nd = s
          · have HT : Hid (nd = s ∨ Tk ns nd) := hide (.inl hns)
            have hne : ((nd : Int) != (s : Int)) = false := by rw [hns]; exact bne_self_eq_false _
            clear hns t0 t1
            go_wp2_with fail
            go_loopw [11, 60] (fun v11 v60 wr => ∃ (i : Nat) (l : List Int) (q : List Nat), i ≤ m ∧ v60 = .int .i64 i ∧ Hid (LS W0 g n wr v11 l q) ∧ Hid (Que (Tk ns) (Eg es cl 1) s n l q k) ∧ Hid (q[k]? = some nd) ∧ Hid (∀ (j v : Nat), j < i → cl[j]? = some false → es[j]? = some ((v : Int), (nd : Int)) → Don l nd v)) (fun _ v60 _ => m - (intOf v60).toNat)
            case atStart => exact ⟨0, l, q, by omega, rfl, HL, HQ, Hnd, hide (fun j v hj => by omega)⟩
            case round =>
              clear HL HQ
              obtain ⟨i, l, q, hi, rfl, HL, HQ, Hnd, HD⟩ := hrel
              by_cases hlt : i < m
              · obtain ⟨p, hp⟩ : ∃ p, es[i]? = some p := ⟨_, List.getElem?_eq_getElem (by rw [Hm.out]; exact hlt)⟩
                obtain ⟨y, z⟩ := p
                have hpb := HE.out _ (List.mem_of_getElem? hp)
                simp only at hpb
                obtain ⟨y', hy⟩ := Int.eq_ofNat_of_zero_le hpb.1
                obtain ⟨z', hz⟩ := Int.eq_ofNat_of_zero_le hpb.2.2.1
                subst hy
                subst hz
                obtain ⟨bE, offE, rfl, e0, e1⟩ := ed_at (HRE.out wr HL.out.bel) i _ hp
                simp only at e0 e1
                obtain ⟨cb, hcb⟩ : ∃ cb, cl[i]? = some cb := ⟨_, List.getElem?_eq_getElem (by rw [Hcl.out]; exact hlt)⟩
                obtain ⟨bC, offC, rfl, cc⟩ := bool_at (HRC.out _ (HL.out.alloc (.cells #[.int .i64 (y' : Int), .int .i64 (z' : Int)] 65)).bel) i _ hcb
                have j0 : (0 : Int) ≤ (i : Int) := by omega
                have j1 : (i : Int) < (m : Int) := by omega
                have HL1 : Hid (LS W0 g n (wr.alloc (.cells #[.int .i64 (y' : Int), .int .i64 (z' : Int)] 65)) u11 l q) := hide (HL.out.alloc _)
                have Hp := hide hp
                have Hcb := hide hcb
                have HD1 : Hid ((cb = false → z' = nd → Don l nd y') → ∀ (j v : Nat), j < i + 1 → cl[j]? = some false → es[j]? = some ((v : Int), (nd : Int)) → Don l nd v) := hide (fun h j v hj h1 h2 => by
                  rcases Nat.lt_or_ge j i with h' | h'
                  · exact HD.out j v h' h1 h2
                  · obtain rfl : j = i := by omega
                    rw [Hcb.out] at h1
                    rw [Hp.out] at h2
                    simp only [Option.some.injEq, Prod.mk.injEq] at h1 h2
                    have e1 : z' = nd := by omega
                    have e2 : y' = v := by omega
                    rw [← e2]
                    exact h h1 e1)
                have db : Hid ((y' : Int) < n ∧ (z' : Int) < n) := hide ⟨hpb.2.1, hpb.2.2.2⟩
                have dx := layc (W1 := wr.alloc (.cells #[.int .i64 (y' : Int), .int .i64 (z' : Int)] 65)) HBOX.out HL1.out.bel
                obtain ⟨dx0, dx1⟩ := dx
                clear hp hpb hcb
                cases cb with
                | true =>
                  have HD2 := hide (HD1.out (fun h => by cases h))
                  clear HD1
                  go_wp2_with fail
                  go_roundw
                  case rel => exact ⟨i + 1, l, q, by omega, by go_num, HL1, HQ, Hnd, HD2⟩
                  case measure => simp [intOf]; omega
                | false =>
                  by_cases hnr : z' = nd
                  · have HdB := hide (And.intro db.out.1 db.out.2)
                    have tp : decide (0 ≤ (y' : Int) ∧ (y' : Int) < (n : Int)) = true := decide_eq_true ⟨by omega, by have := HdB.out; omega⟩
                    have hvl : Hid (y' < l.length) := hide (by rw [HQ.out.fnd.len]; have := HdB.out; omega)
                    have hnl : Hid (nd < l.length) := hide (by rw [HQ.out.fnd.len]; exact HQ.out.lt (List.mem_of_getElem? Hnd.out))
                    have v0 : (0 : Int) ≤ (y' : Int) := by omega
                    have v1 : (y' : Int) < (n : Int) := by have := HdB.out; omega
                    have t0 : (0 : Int) ≤ (nd : Int) := by omega
                    have t1 : (nd : Int) < (n : Int) := by have := hnl.out; rw [HQ.out.fnd.len] at this; omega
                    subst hnr
                    have hbe : ((z' : Int) != (z' : Int)) = false := bne_self_eq_false _
                    by_cases hfar : va l y' = -1
                    · have hE : Hid (Eg es cl 1 z' y') := hide ⟨i, Hcb.out, by rw [Hp.out]; rfl⟩
                      obtain ⟨Q1, Q2, Q3, Q4, Q5⟩ := HQ.out.put Hnd.out HT.out hE.out hfar (by have := hvl.out; rwa [HQ.out.fnd.len] at this)
                      have HQ1 := hide Q1
                      have HD2 := hide (HD1.out)
                      have HD3 : Hid (∀ (j v : Nat), j < i + 1 → cl[j]? = some false → es[j]? = some ((v : Int), (z' : Int)) → Don (l.set y' (va l z' + 1)) z' v) := hide (fun j v hj h1 h2 => by
                        rcases Nat.lt_or_ge j i with h' | h'
                        · exact Q2 _ _ (HD.out j v h' h1 h2) Q4
                        · obtain rfl : j = i := by omega
                          rw [Hp.out] at h2
                          simp only [Option.some.injEq, Prod.mk.injEq] at h2
                          have e2 : y' = v := by omega
                          rw [← e2]
                          exact Q3)
                      have HQ5 := hide Q5
                      have hdv : Hid (0 ≤ va l z' ∧ va l z' ≤ 100000) := hide ⟨(HQ.out.mem _).1 (List.mem_of_getElem? Hnd.out), dst_le HQ.out (List.mem_of_getElem? Hnd.out) Hn40.out⟩
                      obtain ⟨dN, hdN⟩ : ∃ dN, va l z' = dN := ⟨_, rfl⟩
                      have hw : IntKind.i64.wrap (dN + 1) = dN + 1 := by have := hdv.out; rw [hdN] at this; exact i64_small _ (by omega) (by omega)
                      have HdN := hide hdN
                      rw [hdN] at HQ1 HD3
                      clear HD1 HD2 Q1 Q2 Q3 Q4 Q5 HD hdN
                      go_wp2_with (first
                        | (go_at_call 113; refine (K25.out _ _).mono ?_; rintro e W2 ⟨rfl, hb2⟩; rw [tp]
                           have HL2 := hide (HL1.out.keep hb2)
                           have y0 := (HL2.out.at y' hvl.out).1
                           have f0 := (HL2.out.at y' hvl.out).2
                           have y1 := (HL2.out.at z' hnl.out).1
                           rw [hfar] at y0
                           rw [HdN.out] at y1
                           have HL3 : Hid (LS W0 g n (W2.setCell ⟨g, y', none⟩ (.int .i64 (dN + 1))) u11 (l.set y' (dN + 1)) q) := hide (HL2.out.set y' (dN + 1))
                           clear hb2)
                        | (at_builtin; refine intE.wp (w0 := W0) (HL3.out.alloc (.cells #[.int .i64 (y' : Int)] 3)).bel (by rfl) _ _ rfl _ _ rfl rfl (ints q) [(y' : Int)] (HL3.out.alloc (.cells #[.int .i64 (y' : Int)] 3)).que (int_new _ _ _ (by simp)) (by rw [ints_len]; have := HQ.out.size; have := Hn40.out; simp; omega) ?_; intro v5 W5 ho5 hg5 hv5 hb5; refine Hid.out ?_))
                      refine hide ?_
                      have HL6 := hide ((HL3.out.alloc (.cells #[.int .i64 (y' : Int)] 3)).app ho5 hg5 hv5 hb5)
                      clear ho5 hg5 hv5 hb5 y0 f0 y1
                      go_wp2_with fail
                      go_roundw
                      case rel => exact ⟨i + 1, _, _, by omega, by go_num, HL6, HQ1, HQ5, HD3⟩
                      case measure => simp [intOf]; omega
                    · have HD2 := hide (HD1.out (fun _ _ => HQ.out.old Hnd.out hfar))
                      have hfb : (va l y' != -1) = true := bne_iff_ne.2 hfar
                      obtain ⟨dX, hdX⟩ : ∃ dX, va l y' = dX := ⟨_, rfl⟩
                      have HdX := hide hdX
                      rw [hdX] at hfb
                      clear HD1 hfar hdX
                      go_wp2_with (first
                        | (go_at_call 113; refine (K25.out _ _).mono ?_; rintro e W2 ⟨rfl, hb2⟩; rw [tp]
                           have HL2 := hide (HL1.out.keep hb2)
                           have y0 := (HL2.out.at y' hvl.out).1
                           rw [HdX.out] at y0
                           clear hb2))
                      go_roundw
                      case rel => exact ⟨i + 1, l, q, by omega, by go_num, HL2, HQ, Hnd, HD2⟩
                      case measure => simp [intOf]; omega
                  · have HD2 := hide (HD1.out (fun _ h => absurd h hnr))
                    have hbe : ((z' : Int) != (nd : Int)) = true := bne_iff_ne.2 (by omega)
                    clear HD1 hnr
                    go_wp2_with fail
                    go_roundw
                    case rel => exact ⟨i + 1, l, q, by omega, by go_num, HL1, HQ, Hnd, HD2⟩
                    case measure => simp [intOf]; omega
              · obtain rfl : i = m := by omega
                have j1 : ¬ (i : Int) < (i : Int) := by omega
                have HQ2 : Hid (Que (Tk ns) (Eg es cl 1) s n l q (k + 1)) := hide (HQ.out.next Hnd.out (fun v hE _ => by
                  obtain ⟨j, h1, h2⟩ := hE
                  refine HD.out j v ?_ h1 h2
                  rcases Nat.lt_or_ge j es.length with h' | h'
                  · rw [Hm.out] at h'; exact h'
                  · rw [List.getElem?_eq_none h'] at h2; cases h2))
                have Hkl : Hid (k + 1 ≤ q.length) := hide (by
                  rcases Nat.lt_or_ge k q.length with h' | h'
                  · exact h'
                  · have := Hnd.out; rw [List.getElem?_eq_none h'] at this; cases this)
                have Hsz : Hid (k < n) := hide (by have := Hkl.out; have := HQ.out.size; omega)
                go_wp2_with fail
                go_roundw
                case rel => exact ⟨k + 1, l, q, Hkl, by go_num, HL, HQ2⟩
                case measure => have := Hsz.out; simp [intOf]; omega
          · have hne : ((nd : Int) != (s : Int)) = true := bne_iff_ne.2 (by omega)
            by_cases hkd : p.kind = 1
            · have HT : Hid (nd = s ∨ Tk ns nd) := hide (.inr (by unfold Tk; rw [Hkd.out]; exact hkd))
              have hkb : (p.kind != 1) = false := by rw [hkd]; rfl
              clear hns hkd
              go_wp2_with fail
              go_loopw [11, 60] (fun v11 v60 wr => ∃ (i : Nat) (l : List Int) (q : List Nat), i ≤ m ∧ v60 = .int .i64 i ∧ Hid (LS W0 g n wr v11 l q) ∧ Hid (Que (Tk ns) (Eg es cl 1) s n l q k) ∧ Hid (q[k]? = some nd) ∧ Hid (∀ (j v : Nat), j < i → cl[j]? = some false → es[j]? = some ((v : Int), (nd : Int)) → Don l nd v)) (fun _ v60 _ => m - (intOf v60).toNat)
              case atStart => exact ⟨0, l, q, by omega, rfl, HL, HQ, Hnd, hide (fun j v hj => by omega)⟩
              case round =>
                clear HL HQ
                obtain ⟨i, l, q, hi, rfl, HL, HQ, Hnd, HD⟩ := hrel
                by_cases hlt : i < m
                · obtain ⟨p, hp⟩ : ∃ p, es[i]? = some p := ⟨_, List.getElem?_eq_getElem (by rw [Hm.out]; exact hlt)⟩
                  obtain ⟨y, z⟩ := p
                  have hpb := HE.out _ (List.mem_of_getElem? hp)
                  simp only at hpb
                  obtain ⟨y', hy⟩ := Int.eq_ofNat_of_zero_le hpb.1
                  obtain ⟨z', hz⟩ := Int.eq_ofNat_of_zero_le hpb.2.2.1
                  subst hy
                  subst hz
                  obtain ⟨bE, offE, rfl, e0, e1⟩ := ed_at (HRE.out wr HL.out.bel) i _ hp
                  simp only at e0 e1
                  obtain ⟨cb, hcb⟩ : ∃ cb, cl[i]? = some cb := ⟨_, List.getElem?_eq_getElem (by rw [Hcl.out]; exact hlt)⟩
                  obtain ⟨bC, offC, rfl, cc⟩ := bool_at (HRC.out _ (HL.out.alloc (.cells #[.int .i64 (y' : Int), .int .i64 (z' : Int)] 65)).bel) i _ hcb
                  have j0 : (0 : Int) ≤ (i : Int) := by omega
                  have j1 : (i : Int) < (m : Int) := by omega
                  have HL1 : Hid (LS W0 g n (wr.alloc (.cells #[.int .i64 (y' : Int), .int .i64 (z' : Int)] 65)) u11 l q) := hide (HL.out.alloc _)
                  have Hp := hide hp
                  have Hcb := hide hcb
                  have HD1 : Hid ((cb = false → z' = nd → Don l nd y') → ∀ (j v : Nat), j < i + 1 → cl[j]? = some false → es[j]? = some ((v : Int), (nd : Int)) → Don l nd v) := hide (fun h j v hj h1 h2 => by
                    rcases Nat.lt_or_ge j i with h' | h'
                    · exact HD.out j v h' h1 h2
                    · obtain rfl : j = i := by omega
                      rw [Hcb.out] at h1
                      rw [Hp.out] at h2
                      simp only [Option.some.injEq, Prod.mk.injEq] at h1 h2
                      have e1 : z' = nd := by omega
                      have e2 : y' = v := by omega
                      rw [← e2]
                      exact h h1 e1)
                  have db : Hid ((y' : Int) < n ∧ (z' : Int) < n) := hide ⟨hpb.2.1, hpb.2.2.2⟩
                  have dx := layc (W1 := wr.alloc (.cells #[.int .i64 (y' : Int), .int .i64 (z' : Int)] 65)) HBOX.out HL1.out.bel
                  obtain ⟨dx0, dx1⟩ := dx
                  clear hp hpb hcb
                  cases cb with
                  | true =>
                    have HD2 := hide (HD1.out (fun h => by cases h))
                    clear HD1
                    go_wp2_with fail
                    go_roundw
                    case rel => exact ⟨i + 1, l, q, by omega, by go_num, HL1, HQ, Hnd, HD2⟩
                    case measure => simp [intOf]; omega
                  | false =>
                    by_cases hnr : z' = nd
                    · have HdB := hide (And.intro db.out.1 db.out.2)
                      have tp : decide (0 ≤ (y' : Int) ∧ (y' : Int) < (n : Int)) = true := decide_eq_true ⟨by omega, by have := HdB.out; omega⟩
                      have hvl : Hid (y' < l.length) := hide (by rw [HQ.out.fnd.len]; have := HdB.out; omega)
                      have hnl : Hid (nd < l.length) := hide (by rw [HQ.out.fnd.len]; exact HQ.out.lt (List.mem_of_getElem? Hnd.out))
                      have v0 : (0 : Int) ≤ (y' : Int) := by omega
                      have v1 : (y' : Int) < (n : Int) := by have := HdB.out; omega
                      have t0 : (0 : Int) ≤ (nd : Int) := by omega
                      have t1 : (nd : Int) < (n : Int) := by have := hnl.out; rw [HQ.out.fnd.len] at this; omega
                      subst hnr
                      have hbe : ((z' : Int) != (z' : Int)) = false := bne_self_eq_false _
                      by_cases hfar : va l y' = -1
                      · have hE : Hid (Eg es cl 1 z' y') := hide ⟨i, Hcb.out, by rw [Hp.out]; rfl⟩
                        obtain ⟨Q1, Q2, Q3, Q4, Q5⟩ := HQ.out.put Hnd.out HT.out hE.out hfar (by have := hvl.out; rwa [HQ.out.fnd.len] at this)
                        have HQ1 := hide Q1
                        have HD2 := hide (HD1.out)
                        have HD3 : Hid (∀ (j v : Nat), j < i + 1 → cl[j]? = some false → es[j]? = some ((v : Int), (z' : Int)) → Don (l.set y' (va l z' + 1)) z' v) := hide (fun j v hj h1 h2 => by
                          rcases Nat.lt_or_ge j i with h' | h'
                          · exact Q2 _ _ (HD.out j v h' h1 h2) Q4
                          · obtain rfl : j = i := by omega
                            rw [Hp.out] at h2
                            simp only [Option.some.injEq, Prod.mk.injEq] at h2
                            have e2 : y' = v := by omega
                            rw [← e2]
                            exact Q3)
                        have HQ5 := hide Q5
                        have hdv : Hid (0 ≤ va l z' ∧ va l z' ≤ 100000) := hide ⟨(HQ.out.mem _).1 (List.mem_of_getElem? Hnd.out), dst_le HQ.out (List.mem_of_getElem? Hnd.out) Hn40.out⟩
                        obtain ⟨dN, hdN⟩ : ∃ dN, va l z' = dN := ⟨_, rfl⟩
                        have hw : IntKind.i64.wrap (dN + 1) = dN + 1 := by have := hdv.out; rw [hdN] at this; exact i64_small _ (by omega) (by omega)
                        have HdN := hide hdN
                        rw [hdN] at HQ1 HD3
                        clear HD1 HD2 Q1 Q2 Q3 Q4 Q5 HD hdN
                        go_wp2_with (first
                          | (go_at_call 113; refine (K25.out _ _).mono ?_; rintro e W2 ⟨rfl, hb2⟩; rw [tp]
                             have HL2 := hide (HL1.out.keep hb2)
                             have y0 := (HL2.out.at y' hvl.out).1
                             have f0 := (HL2.out.at y' hvl.out).2
                             have y1 := (HL2.out.at z' hnl.out).1
                             rw [hfar] at y0
                             rw [HdN.out] at y1
                             have HL3 : Hid (LS W0 g n (W2.setCell ⟨g, y', none⟩ (.int .i64 (dN + 1))) u11 (l.set y' (dN + 1)) q) := hide (HL2.out.set y' (dN + 1))
                             clear hb2)
                          | (at_builtin; refine intE.wp (w0 := W0) (HL3.out.alloc (.cells #[.int .i64 (y' : Int)] 3)).bel (by rfl) _ _ rfl _ _ rfl rfl (ints q) [(y' : Int)] (HL3.out.alloc (.cells #[.int .i64 (y' : Int)] 3)).que (int_new _ _ _ (by simp)) (by rw [ints_len]; have := HQ.out.size; have := Hn40.out; simp; omega) ?_; intro v5 W5 ho5 hg5 hv5 hb5; refine Hid.out ?_))
                        refine hide ?_
                        have HL6 := hide ((HL3.out.alloc (.cells #[.int .i64 (y' : Int)] 3)).app ho5 hg5 hv5 hb5)
                        clear ho5 hg5 hv5 hb5 y0 f0 y1
                        go_wp2_with fail
                        go_roundw
                        case rel => exact ⟨i + 1, _, _, by omega, by go_num, HL6, HQ1, HQ5, HD3⟩
                        case measure => simp [intOf]; omega
                      · have HD2 := hide (HD1.out (fun _ _ => HQ.out.old Hnd.out hfar))
                        have hfb : (va l y' != -1) = true := bne_iff_ne.2 hfar
                        obtain ⟨dX, hdX⟩ : ∃ dX, va l y' = dX := ⟨_, rfl⟩
                        have HdX := hide hdX
                        rw [hdX] at hfb
                        clear HD1 hfar hdX
                        go_wp2_with (first
                          | (go_at_call 113; refine (K25.out _ _).mono ?_; rintro e W2 ⟨rfl, hb2⟩; rw [tp]
                             have HL2 := hide (HL1.out.keep hb2)
                             have y0 := (HL2.out.at y' hvl.out).1
                             rw [HdX.out] at y0
                             clear hb2))
                        go_roundw
                        case rel => exact ⟨i + 1, l, q, by omega, by go_num, HL2, HQ, Hnd, HD2⟩
                        case measure => simp [intOf]; omega
                    · have HD2 := hide (HD1.out (fun _ h => absurd h hnr))
                      have hbe : ((z' : Int) != (nd : Int)) = true := bne_iff_ne.2 (by omega)
                      clear HD1 hnr
                      go_wp2_with fail
                      go_roundw
                      case rel => exact ⟨i + 1, l, q, by omega, by go_num, HL1, HQ, Hnd, HD2⟩
                      case measure => simp [intOf]; omega
                · obtain rfl : i = m := by omega
                  have j1 : ¬ (i : Int) < (i : Int) := by omega
                  have HQ2 : Hid (Que (Tk ns) (Eg es cl 1) s n l q (k + 1)) := hide (HQ.out.next Hnd.out (fun v hE _ => by
                    obtain ⟨j, h1, h2⟩ := hE
                    refine HD.out j v ?_ h1 h2
                    rcases Nat.lt_or_ge j es.length with h' | h'
                    · rw [Hm.out] at h'; exact h'
                    · rw [List.getElem?_eq_none h'] at h2; cases h2))
                  have Hkl : Hid (k + 1 ≤ q.length) := hide (by
                    rcases Nat.lt_or_ge k q.length with h' | h'
                    · exact h'
                    · have := Hnd.out; rw [List.getElem?_eq_none h'] at this; cases this)
                  have Hsz : Hid (k < n) := hide (by have := Hkl.out; have := HQ.out.size; omega)
                  go_wp2_with fail
                  go_roundw
                  case rel => exact ⟨k + 1, l, q, Hkl, by go_num, HL, HQ2⟩
                  case measure => have := Hsz.out; simp [intOf]; omega
            · have hkb : (p.kind != 1) = true := bne_iff_ne.2 hkd
              have HQ2 : Hid (Que (Tk ns) (Eg es cl 1) s n l q (k + 1)) := hide (HQ.out.next Hnd.out (fun v _ hT => absurd hT (fun h => h.elim hns (fun h => hkd (by unfold Tk at h; rw [Hkd.out] at h; exact h)))))
              have Hk2 : Hid (k + 1 ≤ q.length) := hide (by rw [Hnq.out]; exact hlt)
              have Hsz : Hid (k < n) := hide (by have := HQ.out.size; have := Hk2.out; omega)
              clear hns hkd
              go_wp2_with fail
              go_roundw
              case rel => exact ⟨k + 1, l, q, Hk2, by go_num, HL, HQ2⟩
              case measure => have := Hsz.out; simp [intOf]; omega
        · obtain rfl : k = nq := by have := Hk.out; omega
          have j1 : ¬ (k : Int) < (k : Int) := by omega
          have HF : Hid (Far (Eg es cl 1) (Tk ns) s n l) := hide (by
            have h := HQ.out
            rw [← Hnq.out] at h
            exact h.far)
          go_wp2_with fail
          try rw [Exit.noGoto_ret]
          go_ret
          exact ⟨⟨g, l, rfl, HL.out.far.mono HA.out.size, HF.out⟩, HA.out.trans (HL.out.bel.mono HA.out.size)⟩
end Go.Proofs.YtocmngpoemfpkabGreatDoor

namespace Go.Proofs.YtocmngpoemfpkabGreatDoor
open Go.RowKit
theorem below_heap {B : Nat} {w W W' : World} (h : Below B w W) (e : W'.heap = W.heap) (e1 : W'.os = W.os) (e2 : W'.tape = W.tape) (e3 : W'.output = W.output) : Below B w W' :=
 ⟨by rw [e1]; exact h.os, by rw [e2]; exact h.tape, by rw [e3]; exact h.output, by rw [e]; exact h.size, by rw [e]; exact h.block⟩
end Go.Proofs.YtocmngpoemfpkabGreatDoor

namespace Go.Proofs.YtocmngpoemfpkabGreatDoor
open Go.RowKit
structure Ly (w : World) (a a' : Option Addr) (c c' n m : Nat) (ns : List Nd) (es : List Ed) : Prop where
 hn : ns.length = n
 hm : es.length = m
 hv : ndE.Rd w (.slice a n c) ns
 hu : edE.Rd w (.slice a' m c') es
 n4 : n ≤ 1000
 m4 : m ≤ 1000
 hE : inB n es
theorem Ly.keep {w w' : World} {a a' : Option Addr} {c c' n m : Nat} {ns : List Nd} {es : List Ed} (h : Ly w a a' c c' n m ns es) (hb : Below w.heap.size w w') : Ly w' a a' c c' n m ns es :=
 ⟨h.hn, h.hm, h.hv.keep hb, h.hu.keep hb, h.n4, h.m4, h.hE⟩
structure Mk (w : World) (aM : Option Addr) (cM k0 : Nat) (ms : List Int) : Prop where
 hk : ms.length = k0
 hM : intE.Rd w (.slice aM k0 cM) ms
 k4 : k0 ≤ 100000
theorem Mk.keep {w w' : World} {aM : Option Addr} {cM k0 : Nat} {ms : List Int} (h : Mk w aM cM k0 ms) (hb : Below w.heap.size w w') : Mk w' aM cM k0 ms := ⟨h.hk, h.hM.keep hb, h.k4⟩
set_option maxRecDepth 100000 in
set_option maxHeartbeats 4000000 in
theorem from_ok (a a' aM : Option Addr) (c c' cM n m k0 s : Nat) (ns : List Nd) (es : List Ed) (ms : List Int) (w : World) (hL : Ly w a a' c c' n m ns es) (hM : Mk w aM cM k0 ms) (hs : s < n) :
  Calls Tryz.prog 48 #[.agg #[.slice a n c, .slice a' m c'], .slice aM k0 cM, .int .i64 (s : Int)] w fun e w' => (∃ g l, e = .returned (.tuple #[.slice (some ⟨g, 0, none⟩) n n, .int .i64 0]) ∧ intE.Own w' w.heap.size (.slice (some ⟨g, 0, none⟩) n n) l ∧ Far (Eg es (clo m ms) 0) (Tk ns) s n l) ∧ Below w.heap.size w w' := by
 obtain ⟨W0, hW0⟩ : ∃ W0, w.alloc (.cells #[.slice a n c, .slice a' m c'] 25) = W0 := ⟨_, rfl⟩
 have bA : Below w.heap.size w W0 := by rw [← hW0]; exact (Below.refl _ _).alloc (Nat.le_refl _) _
 have hbox : W0.heap[w.heap.size]? = some (.cells #[.slice a n c, .slice a' m c'] 25) := by rw [← hW0]; exact heap_new _ _
 have HBOX := hide hbox
 have d0 := (cells_at hbox 0).1
 have d1 := (cells_at hbox 1).1
 simp at d0 d1
 have HA := hide bA
 have HLW : Hid (∀ W, Below W0.heap.size W0 W → Ly W a a' c c' n m ns es) := hide (fun W h => hL.keep (bA.trans (h.mono bA.size)))
 have HMW : Hid (∀ W, Below W0.heap.size W0 W → Mk W aM cM k0 ms) := hide (fun W h => hM.keep (bA.trans (h.mono bA.size)))
 have K25 := hide (fun i W => w_isPlace_any a a' n c m c' i W)
 have K27 : Hid (∀ W, Below W0.heap.size W0 W → _) := hide (fun W h => closed_any a a' aM c c' cM n m k0 ms W (HMW.out W h).hk (HMW.out W h).hM (HMW.out W h).k4 (by have := hL.m4; omega))
 have K26 : Hid (∀ (W : World) (g : Nat), Below W0.heap.size W0 W → boolE.Rd W (.slice (some ⟨g, 0, none⟩) m m) (clo m ms) → _) := hide (fun W g h hc => lengths_from a a' (some ⟨g, 0, none⟩) c c' m n m s ns es (clo m ms) W (HLW.out W h).hn (HLW.out W h).hm (clo_len _ _) (HLW.out W h).hv (HLW.out W h).hu hc hL.n4 hL.m4 hs hL.hE)
 have tx : decide (0 ≤ (s : Int) ∧ (s : Int) < (n : Int)) = true := decide_eq_true ⟨by omega, by omega⟩
 have HW0 := hide hW0
 obtain ⟨SS, hSS⟩ : ∃ SS : World → Prop, SS = fun W' => Below W0.heap.size W0 W' := ⟨_, rfl⟩
 have s9 : Hid (∀ W', SS W' → Below W0.heap.size W0 W') := hide (fun W' h => by rw [hSS] at h; exact h)
 have s8 : Hid (∀ W', Below W0.heap.size W0 W' → SS W') := hide (fun W' h => by rw [hSS]; exact h)
 have s1 : ∀ W', SS W' → W'.cell? ⟨w.heap.size, 0, none⟩ = some (.slice a n c) := fun W' h => (layc HBOX.out (s9.out W' h)).1
 have s2 : ∀ W', SS W' → W'.cell? ⟨w.heap.size, 1, none⟩ = some (.slice a' m c') := fun W' h => (layc HBOX.out (s9.out W' h)).2
 clear hL hM hs hW0 hbox bA hSS
 go_enter Tryz.func48, Tryz.ntmps48
 go_upto_region 1 with fail
 rw [HW0.out]
 clear HW0
 go_upto_region 3 with (go_at_call 113; refine (K25.out _ _).mono ?_; rintro e W2 ⟨rfl, hb2⟩; rw [tx]; have Hb2 := hide hb2; clear hb2)
 clear d0 d1 tx K25
 refine wp_region_held_drew (S := SS) (by kernel_rfl) (s8.out _ (below_heap Hb2.out rfl rfl rfl rfl)) (fun hS0 => ?_)
 refine wpAnyH_take (i := 0) (v := .agg #[.slice a n c, .slice a' m c']) rfl (by kernel_rfl) (by kernel_rfl) (by kernel_rfl) (fun _ _ _ h => h) (Or.inl ⟨by rfl, fun W' hW => by have x0 := s1 W' hW; have x1 := s2 W' hW; go_simp⟩) hS0 ?_
 refine wpAnyH_take (i := 1) (v := .agg #[.slice a n c, .slice a' m c']) rfl (by kernel_rfl) (by kernel_rfl) (by kernel_rfl) (fun _ _ _ h => h) (Or.inl ⟨by rfl, fun W' hW => by have x0 := s1 W' hW; have x1 := s2 W' hW; go_simp⟩) hS0 ?_
 refine wpAnyH_take (i := 2) (v := .slice aM k0 cM) rfl (by kernel_rfl) (by kernel_rfl) (by kernel_rfl) (fun _ _ _ h => h) (Or.inl ⟨by rfl, fun W' hW => by go_simp⟩) hS0 ?_
 refine wpAnyH_take (i := 4) (v := .int .i64 (s : Int)) rfl (by kernel_rfl) (by kernel_rfl) (by kernel_rfl) (fun _ _ _ h => h) (Or.inl ⟨by rfl, fun W' hW => by go_simp⟩) hS0 ?_
 refine wpAnyH_ready (rs := [3]) (by kernel_rfl) (by simp) ?_
 refine AllReadyH.cons rfl (fun K hK => ?_) AllReadyH.nil
 go_simp
 refine (K27.out _ (s9.out _ hS0)).mono ?_
 rintro e W3 ⟨⟨g, rfl, hO3⟩, hb3⟩
 refine hK.out _ _ (s8.out _ ((s9.out _ hS0).trans (hb3.mono (s9.out _ hS0).size))) (fun hS3 => ?_)
 clear hK K
 have HO3 := hide hO3
 refine wpAnyH_ready (rs := [5]) (by kernel_rfl) (by simp) ?_
 refine AllReadyH.cons rfl (fun K hK => ?_) AllReadyH.nil
 go_simp
 refine (K26.out _ g (s9.out _ hS3) HO3.out.rd).mono ?_
 rintro e W4 ⟨⟨g4, l, rfl, hO4, hF4⟩, hb4⟩
 refine hK.out _ _ (s8.out _ ((s9.out _ hS3).trans (hb4.mono (s9.out _ hS3).size))) (fun hS4 => ?_)
 clear hK K
 refine wpAnyH_take (i := 6) (v := .slice (some ⟨g4, 0, none⟩) n n) rfl (by kernel_rfl) (by kernel_rfl) (by kernel_rfl) (fun _ _ _ h => h) (Or.inl ⟨by rfl, fun W' hW => by go_simp⟩) hS4 ?_
 refine wpAnyH_take (i := 7) (v := .int .i64 0) rfl (by kernel_rfl) (by kernel_rfl) (by kernel_rfl) (fun _ _ _ h => h) (Or.inl ⟨by rfl, fun W' hW => by go_simp⟩) hS4 ?_
 refine wpAnyH_done (by kernel_rfl) ?_ _
 have Hb4 := hide (s9.out _ hS4)
 have HO4 := hide hO4
 have HF4 := hide hF4
 have Hsz : Hid (w.heap.size ≤ W3.heap.size) := hide (Nat.le_trans HA.out.size (s9.out _ hS3).size)
 clear hO4 hF4 s1 s2
 go_wp2_with fail
 refine bodyPost_ret (v := .tuple #[.slice (some ⟨g4, 0, none⟩) n n, .int .i64 0]) (by simp [results, Tryz.results48, go_sem]) rfl ⟨⟨g4, l, rfl, HO4.out.mono Hsz.out, HF4.out⟩, HA.out.trans (Hb4.out.mono HA.out.size)⟩
set_option maxRecDepth 100000 in
set_option maxHeartbeats 4000000 in
theorem to_ok (a a' aM : Option Addr) (c c' cM n m k0 s : Nat) (ns : List Nd) (es : List Ed) (ms : List Int) (w : World) (hL : Ly w a a' c c' n m ns es) (hM : Mk w aM cM k0 ms) (hs : s < n) :
  Calls Tryz.prog 237 #[.agg #[.slice a n c, .slice a' m c'], .slice aM k0 cM, .int .i64 (s : Int)] w fun e w' => (∃ g l, e = .returned (.tuple #[.slice (some ⟨g, 0, none⟩) n n, .int .i64 0]) ∧ intE.Own w' w.heap.size (.slice (some ⟨g, 0, none⟩) n n) l ∧ Far (Eg es (clo m ms) 1) (Tk ns) s n l) ∧ Below w.heap.size w w' := by
 obtain ⟨W0, hW0⟩ : ∃ W0, w.alloc (.cells #[.slice a n c, .slice a' m c'] 25) = W0 := ⟨_, rfl⟩
 have bA : Below w.heap.size w W0 := by rw [← hW0]; exact (Below.refl _ _).alloc (Nat.le_refl _) _
 have hbox : W0.heap[w.heap.size]? = some (.cells #[.slice a n c, .slice a' m c'] 25) := by rw [← hW0]; exact heap_new _ _
 have HBOX := hide hbox
 have d0 := (cells_at hbox 0).1
 have d1 := (cells_at hbox 1).1
 simp at d0 d1
 have HA := hide bA
 have HLW : Hid (∀ W, Below W0.heap.size W0 W → Ly W a a' c c' n m ns es) := hide (fun W h => hL.keep (bA.trans (h.mono bA.size)))
 have HMW : Hid (∀ W, Below W0.heap.size W0 W → Mk W aM cM k0 ms) := hide (fun W h => hM.keep (bA.trans (h.mono bA.size)))
 have K25 := hide (fun i W => w_isPlace_any a a' n c m c' i W)
 have K27 : Hid (∀ W, Below W0.heap.size W0 W → _) := hide (fun W h => closed_any a a' aM c c' cM n m k0 ms W (HMW.out W h).hk (HMW.out W h).hM (HMW.out W h).k4 (by have := hL.m4; omega))
 have K26 : Hid (∀ (W : World) (g : Nat), Below W0.heap.size W0 W → boolE.Rd W (.slice (some ⟨g, 0, none⟩) m m) (clo m ms) → _) := hide (fun W g h hc => lengths_to a a' (some ⟨g, 0, none⟩) c c' m n m s ns es (clo m ms) W (HLW.out W h).hn (HLW.out W h).hm (clo_len _ _) (HLW.out W h).hv (HLW.out W h).hu hc hL.n4 hL.m4 hs hL.hE)
 have tx : decide (0 ≤ (s : Int) ∧ (s : Int) < (n : Int)) = true := decide_eq_true ⟨by omega, by omega⟩
 have HW0 := hide hW0
 obtain ⟨SS, hSS⟩ : ∃ SS : World → Prop, SS = fun W' => Below W0.heap.size W0 W' := ⟨_, rfl⟩
 have s9 : Hid (∀ W', SS W' → Below W0.heap.size W0 W') := hide (fun W' h => by rw [hSS] at h; exact h)
 have s8 : Hid (∀ W', Below W0.heap.size W0 W' → SS W') := hide (fun W' h => by rw [hSS]; exact h)
 have s1 : ∀ W', SS W' → W'.cell? ⟨w.heap.size, 0, none⟩ = some (.slice a n c) := fun W' h => (layc HBOX.out (s9.out W' h)).1
 have s2 : ∀ W', SS W' → W'.cell? ⟨w.heap.size, 1, none⟩ = some (.slice a' m c') := fun W' h => (layc HBOX.out (s9.out W' h)).2
 clear hL hM hs hW0 hbox bA hSS
 go_enter Tryz.func237, Tryz.ntmps237
 go_upto_region 1 with fail
 rw [HW0.out]
 clear HW0
 go_upto_region 3 with (go_at_call 113; refine (K25.out _ _).mono ?_; rintro e W2 ⟨rfl, hb2⟩; rw [tx]; have Hb2 := hide hb2; clear hb2)
 clear d0 d1 tx K25
 refine wp_region_held_drew (S := SS) (by kernel_rfl) (s8.out _ (below_heap Hb2.out rfl rfl rfl rfl)) (fun hS0 => ?_)
 refine wpAnyH_take (i := 0) (v := .agg #[.slice a n c, .slice a' m c']) rfl (by kernel_rfl) (by kernel_rfl) (by kernel_rfl) (fun _ _ _ h => h) (Or.inl ⟨by rfl, fun W' hW => by have x0 := s1 W' hW; have x1 := s2 W' hW; go_simp⟩) hS0 ?_
 refine wpAnyH_take (i := 1) (v := .agg #[.slice a n c, .slice a' m c']) rfl (by kernel_rfl) (by kernel_rfl) (by kernel_rfl) (fun _ _ _ h => h) (Or.inl ⟨by rfl, fun W' hW => by have x0 := s1 W' hW; have x1 := s2 W' hW; go_simp⟩) hS0 ?_
 refine wpAnyH_take (i := 2) (v := .slice aM k0 cM) rfl (by kernel_rfl) (by kernel_rfl) (by kernel_rfl) (fun _ _ _ h => h) (Or.inl ⟨by rfl, fun W' hW => by go_simp⟩) hS0 ?_
 refine wpAnyH_take (i := 4) (v := .int .i64 (s : Int)) rfl (by kernel_rfl) (by kernel_rfl) (by kernel_rfl) (fun _ _ _ h => h) (Or.inl ⟨by rfl, fun W' hW => by go_simp⟩) hS0 ?_
 refine wpAnyH_ready (rs := [3]) (by kernel_rfl) (by simp) ?_
 refine AllReadyH.cons rfl (fun K hK => ?_) AllReadyH.nil
 go_simp
 refine (K27.out _ (s9.out _ hS0)).mono ?_
 rintro e W3 ⟨⟨g, rfl, hO3⟩, hb3⟩
 refine hK.out _ _ (s8.out _ ((s9.out _ hS0).trans (hb3.mono (s9.out _ hS0).size))) (fun hS3 => ?_)
 clear hK K
 have HO3 := hide hO3
 refine wpAnyH_ready (rs := [5]) (by kernel_rfl) (by simp) ?_
 refine AllReadyH.cons rfl (fun K hK => ?_) AllReadyH.nil
 go_simp
 refine (K26.out _ g (s9.out _ hS3) HO3.out.rd).mono ?_
 rintro e W4 ⟨⟨g4, l, rfl, hO4, hF4⟩, hb4⟩
 refine hK.out _ _ (s8.out _ ((s9.out _ hS3).trans (hb4.mono (s9.out _ hS3).size))) (fun hS4 => ?_)
 clear hK K
 refine wpAnyH_take (i := 6) (v := .slice (some ⟨g4, 0, none⟩) n n) rfl (by kernel_rfl) (by kernel_rfl) (by kernel_rfl) (fun _ _ _ h => h) (Or.inl ⟨by rfl, fun W' hW => by go_simp⟩) hS4 ?_
 refine wpAnyH_take (i := 7) (v := .int .i64 0) rfl (by kernel_rfl) (by kernel_rfl) (by kernel_rfl) (fun _ _ _ h => h) (Or.inl ⟨by rfl, fun W' hW => by go_simp⟩) hS4 ?_
 refine wpAnyH_done (by kernel_rfl) ?_ _
 have Hb4 := hide (s9.out _ hS4)
 have HO4 := hide hO4
 have HF4 := hide hF4
 have Hsz : Hid (w.heap.size ≤ W3.heap.size) := hide (Nat.le_trans HA.out.size (s9.out _ hS3).size)
 clear hO4 hF4 s1 s2
 go_wp2_with fail
 refine bodyPost_ret (v := .tuple #[.slice (some ⟨g4, 0, none⟩) n n, .int .i64 0]) (by simp [results, Tryz.results237, go_sem]) rfl ⟨⟨g4, l, rfl, HO4.out.mono Hsz.out, HF4.out⟩, HA.out.trans (Hb4.out.mono HA.out.size)⟩
end Go.Proofs.YtocmngpoemfpkabGreatDoor

namespace Go.Proofs.YtocmngpoemfpkabGreatDoor
open Go
theorem far_self {E : Nat → Nat → Prop} {T : Nat → Prop} {s n : Nat} {l : List Int} (h : Far E T s n l) (hs : s < n) : va l s = 0 := by
  rcases h.2 s hs with ⟨_, h1⟩ | ⟨k, h1, _, h3⟩
  · exact absurd .here (h1 0)
  · have := h3 0 .here
    omega
theorem far_low {E : Nat → Nat → Prop} {T : Nat → Prop} {s n : Nat} {l : List Int} (h : Far E T s n l) (v : Nat) : -1 ≤ va l v := by
  rcases Nat.lt_or_ge v n with hv | hv
  · rcases h.2 v hv with ⟨h1, _⟩ | ⟨k, h1, _⟩ <;> omega
  · rw [va_out l v (by rw [h.1]; exact hv)]; omega
theorem way_short {E : Nat → Nat → Prop} {T : Nat → Prop} {s n : Nat} (hb : ∀ u v, E u v → v < n) (hs : s < n) {l : List Int} (h : Far E T s n l) : ∀ k : Nat, ∀ v, v < n → va l v = k → ∀ j : Nat, j ≤ k → ∃ u, u < n ∧ va l u = j := by
  intro k
  induction k with
  | zero =>
    intro v hv h0 j hj
    obtain rfl : j = 0 := by omega
    exact ⟨v, hv, h0⟩
  | succ k ih =>
    intro v hv h0 j hj
    rcases Nat.lt_or_ge j (k + 1) with h' | h'
    · rcases h.2 v hv with ⟨g1, _⟩ | ⟨q, g1, g2, g3⟩
      · omega
      · obtain rfl : q = k + 1 := by omega
        cases g2 with
        | @step _ u _ w1 w2 w3 =>
          have hu : u < n := by
            cases w1 with
            | here => exact hs
            | step _ _ e => exact hb _ _ e
          refine ih u hu ?_ j (by omega)
          rcases h.2 u hu with ⟨_, f1⟩ | ⟨r, f1, f2, f3⟩
          · exact absurd w1 (f1 _)
          · have a1 := f3 _ w1
            have a2 := g3 _ (.step f2 w2 w3)
            omega
    · obtain rfl : j = k + 1 := by omega
      exact ⟨v, hv, h0⟩
theorem far_high {E : Nat → Nat → Prop} {T : Nat → Prop} {s n : Nat} (hb : ∀ u v, E u v → v < n) (hs : s < n) {l : List Int} (h : Far E T s n l) (v : Nat) : va l v < n := by
  rcases Nat.lt_or_ge v n with hv | hv
  · rcases h.2 v hv with ⟨h1, _⟩ | ⟨k, h1, _⟩
    · omega
    · have key : ∀ j : Nat, j ≤ k → ∃ q : List Nat, q.length = j + 1 ∧ q.Nodup ∧ ∀ u ∈ q, u < n ∧ va l u ≤ j := by
        intro j
        induction j with
        | zero =>
          intro _
          obtain ⟨u, hu, h0⟩ := way_short hb hs h k v hv h1 0 (by omega)
          exact ⟨[u], rfl, by simp, fun x hx => by simp at hx; subst hx; exact ⟨hu, by omega⟩⟩
        | succ j ih =>
          intro hj
          obtain ⟨q, q1, q2, q3⟩ := ih (by omega)
          obtain ⟨u, hu, h0⟩ := way_short hb hs h k v hv h1 (j + 1) hj
          refine ⟨u :: q, by simp [q1], List.nodup_cons.2 ⟨fun hm => ?_, q2⟩, fun x hx => ?_⟩
          · have := (q3 u hm).2
            omega
          · rcases List.mem_cons.1 hx with rfl | hx
            · exact ⟨hu, by omega⟩
            · have := q3 x hx
              exact ⟨this.1, by omega⟩
      obtain ⟨q, q1, q2, q3⟩ := key k (Nat.le_refl _)
      have := nodup_len n q q2 (fun u hu => (q3 u hu).1)
      omega
  · rw [va_out l v (by rw [h.1]; exact hv)]; omega
theorem Dst.le {E : Nat → Nat → Prop} {T : Nat → Prop} {s v k : Nat} {d : Int} (h : Dst E T s v d) (hw : Way E T s k v) : 0 ≤ d ∧ d ≤ k := by
  rcases h with ⟨_, h1⟩ | ⟨j, rfl, _, h3⟩
  · exact absurd hw (h1 _)
  · have := h3 _ hw
    omega
theorem Dst.way {E : Nat → Nat → Prop} {T : Nat → Prop} {s v : Nat} {d : Int} (h : Dst E T s v d) (h0 : 0 ≤ d) : ∃ k : Nat, d = k ∧ Way E T s k v := by
  rcases h with ⟨h1, _⟩ | ⟨j, h1, h2, _⟩
  · omega
  · exact ⟨j, h1, h2⟩
end Go.Proofs.YtocmngpoemfpkabGreatDoor

namespace Go.Proofs.YtocmngpoemfpkabGreatDoor
open Go
section
variable (ns : List Nd) (es : List Ed) (ms : List Int) (l : List Int) (t : Nat)
def okD (u left : Int) (i : Nat) : Bool :=
 match es[i]? with
 | some e => decide (e.1 = u) && (decide (((i + 1 : Nat) : Int) ∉ ms) && (decide (va l e.2.toNat = left) && (decide (e.2 = (t : Int)) || decide (kindAt ns e.2 = 1))))
 | none => false
def stpW (u left : Int) : Int := if left < 0 then 0 else match (List.range es.length).find? (okD ns es ms l t u left) with
 | some i => ((i + 1 : Nat) : Int)
 | none => 0
end
def endN (es : List Ed) (d : Int) : Nat := (es[(d - 1).toNat]?.map (fun e => e.2.toNat)).getD 0
def pth (ns : List Nd) (es : List Ed) (ms : List Int) (l : List Int) (t : Nat) : Nat → Nat → List Int
 | 0, _ => []
 | k + 1, u => stpW ns es ms l t (u : Int) (k : Int) :: pth ns es ms l t k (endN es (stpW ns es ms l t (u : Int) (k : Int)))
def wlk (es : List Ed) : Int → List Int → Option Int
 | u, [] => some u
 | u, d :: p => if 1 ≤ d ∧ d ≤ es.length then
   match es[(d - 1).toNat]? with
   | some e => if e.1 = u then wlk es e.2 p else none
   | none => none
  else none
structure Gr (ns : List Nd) (es : List Ed) (ms : List Int) (l : List Int) (t n : Nat) : Prop where
 inb : inB n es
 far : Far (Eg es (clo es.length ms) 1) (Tk ns) t n l
 lt : t < n
section
variable {ns : List Nd} {es : List Ed} {ms : List Int} {l : List Int} {t n : Nat}
theorem okD_iff {u left : Int} {i : Nat} : okD ns es ms l t u left i = true ↔ ∃ v : Int, es[i]? = some (u, v) ∧ ((i + 1 : Nat) : Int) ∉ ms ∧ va l v.toNat = left ∧ (v = (t : Int) ∨ kindAt ns v = 1) := by
  unfold okD
  cases h : es[i]? with
  | none => simp
  | some e =>
    obtain ⟨x, y⟩ := e
    simp only [Bool.and_eq_true, decide_eq_true_eq, Bool.or_eq_true, Option.some.injEq, Prod.mk.injEq]
    constructor
    · rintro ⟨rfl, h2, h3, h4⟩; exact ⟨y, ⟨rfl, rfl⟩, h2, h3, h4⟩
    · rintro ⟨v, ⟨rfl, rfl⟩, h2, h3, h4⟩; exact ⟨rfl, h2, h3, h4⟩
theorem okD_lt {u left : Int} {i : Nat} (h : okD ns es ms l t u left i = true) : i < es.length := by
  obtain ⟨v, h1, _⟩ := okD_iff.1 h
  rcases Nat.lt_or_ge i es.length with h' | h'
  · exact h'
  · rw [List.getElem?_eq_none h'] at h1; cases h1
theorem stp_neg {u left : Int} (h : left < 0) : stpW ns es ms l t u left = 0 := by unfold stpW; rw [if_pos h]
theorem stp_cases (u left : Int) : (stpW ns es ms l t u left = 0 ∧ (left < 0 ∨ ∀ i, okD ns es ms l t u left i = false)) ∨ (0 ≤ left ∧ ∃ i : Nat, stpW ns es ms l t u left = ((i + 1 : Nat) : Int) ∧ okD ns es ms l t u left i = true ∧ ∀ j, j < i → okD ns es ms l t u left j = false) := by
  unfold stpW
  by_cases h : left < 0
  · rw [if_pos h]; exact .inl ⟨rfl, .inl h⟩
  · rw [if_neg h]
    cases hf : (List.range es.length).find? (okD ns es ms l t u left) with
    | none =>
      refine .inl ⟨rfl, .inr fun i => ?_⟩
      rw [List.find?_range_eq_none] at hf
      rcases Nat.lt_or_ge i es.length with hi | hi
      · simpa using hf i hi
      · cases hk : okD ns es ms l t u left i with
        | false => rfl
        | true => have := okD_lt hk; omega
    | some i =>
      obtain ⟨h1, h2, h3⟩ := List.find?_range_eq_some.1 hf
      exact .inr ⟨by omega, i, rfl, h1, fun j hj => by simpa using h3 j hj⟩
theorem endN_at {i : Nat} {u v : Int} (h : es[i]? = some (u, v)) : endN es ((i + 1 : Nat) : Int) = v.toNat := by
 unfold endN
 rw [show ((((i + 1 : Nat) : Int) - 1).toNat) = i by omega, h]; rfl
theorem stp_pos {u left : Int} (h : stpW ns es ms l t u left ≠ 0) : 0 ≤ left ∧ ∃ (i : Nat) (v : Int), stpW ns es ms l t u left = ((i + 1 : Nat) : Int) ∧ i < es.length ∧ es[i]? = some (u, v) ∧ ((i + 1 : Nat) : Int) ∉ ms ∧ va l v.toNat = left ∧ (v = (t : Int) ∨ kindAt ns v = 1) ∧ endN es (stpW ns es ms l t u left) = v.toNat := by
  rcases stp_cases (ns := ns) (es := es) (ms := ms) (l := l) (t := t) u left with ⟨h1, _⟩ | ⟨h0, i, h1, h2, _⟩
  · exact absurd h1 h
  · obtain ⟨v, h3, h4, h5, h6⟩ := okD_iff.1 h2
    exact ⟨h0, i, v, h1, okD_lt h2, h3, h4, h5, h6, by rw [h1]; exact endN_at h3⟩
theorem inB_at (h : inB n es) {i : Nat} {u v : Int} (hi : es[i]? = some (u, v)) : 0 ≤ u ∧ u < (n : Int) ∧ 0 ≤ v ∧ v < (n : Int) := h _ (List.mem_of_getElem? hi)
theorem of_eg {u v : Nat} (h : Eg es (clo es.length ms) 1 v u) : ∃ i : Nat, es[i]? = some ((u : Int), (v : Int)) ∧ ((i + 1 : Nat) : Int) ∉ ms := by
  obtain ⟨i, h1, h2⟩ := h
  rw [if_neg (by omega)] at h2
  have hl : i < es.length := by
    rcases Nat.lt_or_ge i es.length with h' | h'
    · exact h'
    · rw [List.getElem?_eq_none h'] at h2; cases h2
  rw [clo_at _ _ _ hl] at h1
  simp only [Option.some.injEq] at h1
  exact ⟨i, h2, of_decide_eq_false h1⟩
theorem Gr.zero (g : Gr ns es ms l t n) : va l t = 0 := far_self g.far g.lt
theorem Gr.low (g : Gr ns es ms l t n) (v : Nat) : -1 ≤ va l v := far_low g.far v
theorem eg1_lt {cl : List Bool} (hE : inB n es) {u v : Nat} (h : Eg es cl 1 u v) : v < n := by
 obtain ⟨i, _, h2⟩ := h
 rw [if_neg (by omega)] at h2
 have := inB_at hE h2
 omega
theorem Gr.high (g : Gr ns es ms l t n) (v : Nat) : va l v < n := far_high (fun u v h => eg1_lt g.inb h) g.lt g.far v
theorem Gr.out (g : Gr ns es ms l t n) {v : Nat} (h : 0 ≤ va l v) : v < n := by
  rcases Nat.lt_or_ge v n with h' | h'
  · exact h'
  · rw [va_out l v (by rw [g.far.1]; exact h')] at h; omega
theorem Gr.only (g : Gr ns es ms l t n) {v : Nat} (h : va l v = 0) : v = t := by
  have hv := g.out (v := v) (by omega)
  rcases g.far.2 v hv with ⟨h1, _⟩ | ⟨k, h1, h2, _⟩
  · omega
  · obtain rfl : k = 0 := by omega
    cases h2; rfl
theorem Gr.next (g : Gr ns es ms l t n) {u k : Nat} (h : va l u = ((k + 1 : Nat) : Int)) : ∃ i, okD ns es ms l t (u : Int) (k : Int) i = true := by
  have hu := g.out (v := u) (by omega)
  rcases g.far.2 u hu with ⟨h1, _⟩ | ⟨j, h1, h2, h3⟩
  · omega
  · obtain rfl : j = k + 1 := by omega
    cases h2 with
    | @step _ v _ w1 w2 w3 =>
      obtain ⟨i, hi, hm⟩ := of_eg w3
      have hb := inB_at g.inb hi
      have hd := (g.far.2 v (by omega)).le w1
      obtain ⟨q, hq, hw⟩ := (g.far.2 v (by omega)).way hd.1
      have := h3 _ (.step hw w2 w3)
      refine ⟨i, okD_iff.2 ⟨(v : Int), hi, hm, by rw [Int.toNat_natCast]; omega, ?_⟩⟩
      rcases w2 with rfl | w2
      · exact .inl rfl
      · exact .inr w2
theorem Gr.stp (g : Gr ns es ms l t n) {u k : Nat} (h : va l u = ((k + 1 : Nat) : Int)) : stpW ns es ms l t (u : Int) (k : Int) ≠ 0 := by
  obtain ⟨i, hi⟩ := g.next h
  rcases stp_cases (ns := ns) (es := es) (ms := ms) (l := l) (t := t) (u : Int) (k : Int) with ⟨_, h2 | h2⟩ | ⟨_, j, h1, _⟩
  · omega
  · rw [h2 i] at hi; cases hi
  · rw [h1]; omega
theorem Gr.on (g : Gr ns es ms l t n) {u k : Nat} (h : va l u = ((k + 1 : Nat) : Int)) : ∃ i v : Nat, stpW ns es ms l t (u : Int) (k : Int) = ((i + 1 : Nat) : Int) ∧ i < es.length ∧ es[i]? = some ((u : Int), (v : Int)) ∧ v < n ∧ ((i + 1 : Nat) : Int) ∉ ms ∧ va l v = k ∧ (v = t ∨ kindAt ns (v : Int) = 1) ∧ endN es (stpW ns es ms l t (u : Int) (k : Int)) = v := by
  obtain ⟨_, i, v, h1, h2, h3, h4, h5, h6, h7⟩ := stp_pos (g.stp h)
  have hb := inB_at g.inb h3
  obtain ⟨q, rfl⟩ := Int.eq_ofNat_of_zero_le hb.2.2.1
  rw [Int.toNat_natCast] at h5 h7
  refine ⟨i, q, h1, h2, h3, by omega, h4, h5, ?_, h7⟩
  rcases h6 with h6 | h6
  · exact .inl (by omega)
  · exact .inr h6
theorem pth_len : ∀ (k u : Nat), (pth ns es ms l t k u).length = k
 | 0, _ => rfl
 | k + 1, u => by unfold pth; simp [pth_len k]
theorem Gr.walk (g : Gr ns es ms l t n) : ∀ (k u : Nat), va l u = (k : Int) → wlk es (u : Int) (pth ns es ms l t k u) = some (t : Int)
 | 0, u, h => by obtain rfl := g.only (by simpa using h); rfl
 | k + 1, u, h => by
  obtain ⟨i, v, h1, h2, h3, h4, h5, h6, h7, h8⟩ := g.on h
  unfold pth wlk
  rw [h8, h1, if_pos (by omega), show ((((i + 1 : Nat) : Int) - 1).toNat) = i by omega, h3]
  simp only [if_true]
  exact g.walk k v h6
end
end Go.Proofs.YtocmngpoemfpkabGreatDoor

namespace Go.Proofs.YtocmngpoemfpkabGreatDoor
structure Ev where
 ns : List Nd
 es : List Ed
 pause : Int
 gt : Nat
structure Ct where
 S : Mr
 K : Bk
 T : Tp
 J : Int → List Int
 tk : List Int
 dead : Bool
def ndC (S : Mr) (K : Bk) (x : Nt) : Int := if x.kind = 2 then K.adC ⟨x.a, x.b, x.c⟩ else if x.kind = 3 then K.caC x.a else if x.kind = 6 then K.seC x.a else (S.app x).1
def ndY (K : Bk) (x : Nt) : Bool := if x.kind = 2 then K.adY ⟨x.a, x.b, x.c⟩ else if x.kind = 3 then K.caY x.a else true
def ndS (S : Mr) (x : Nt) : Mr := if x.kind = 2 then S else if x.kind = 3 then S else if x.kind = 6 then S else (S.app x).2
def ndK (K : Bk) (x : Nt) : Bk := if x.kind = 2 then K.ad ⟨x.a, x.b, x.c⟩ else if x.kind = 3 then K.ca x.a else if x.kind = 6 then K.se x.a else K
def rpl : List Nt → Mr → Bk → Option (Mr × Bk)
 | [], S, K => some (S, K)
 | x :: l, S, K => if ndC S K x = 0 ∧ ndY K x = true then rpl l (ndS S x) (ndK K x) else none
namespace Ct
variable (c : Ct)
def wr (x : Nt) : Int × Tp := c.T.app [] [x]
def note (x : Nt) : Int × Ct := if ndC c.S c.K x ≠ 0 then (ndC c.S c.K x, c) else if (c.wr x).1 = 0 then (0, ⟨ndS c.S x, ndK c.K x, (c.wr x).2, c.J, c.tk, c.dead⟩) else ((c.wr x).1, ⟨c.S, c.K, (c.wr x).2, c.J, c.tk, true⟩)
def setJ (t : Int) (p : List Int) : Ct := ⟨c.S, c.K, c.T, fun x => if x = t then p else c.J x, c.tk, c.dead⟩
def setK (d x : Int) : Ct := ⟨c.S, c.K, c.T, c.J, c.tk.set d.toNat x, c.dead⟩
end Ct
noncomputable def lenF (E : Ev) (ms : List Int) (t : Nat) : List Int := open Classical in if h : ∃ l, Gr E.ns E.es ms l t E.ns.length then Classical.choose h else []
noncomputable def pathF (E : Ev) (ms : List Int) (u t : Int) (fs : List Int) : List Int :=
 if (0 ≤ u ∧ u < E.ns.length) ∧ 0 ≤ t ∧ t < E.ns.length then
  (if va (lenF E (ms ++ shut E.es t fs) t.toNat) u.toNat < 0 then [] else pth E.ns E.es (ms ++ shut E.es t fs) (lenF E (ms ++ shut E.es t fs) t.toNat) t.toNat (va (lenF E (ms ++ shut E.es t fs) t.toNat) u.toNat).toNat u.toNat)
 else []
theorem lenF_of {E : Ev} {ms l : List Int} {t : Nat} (g : Gr E.ns E.es ms l t E.ns.length) : lenF E ms t = l := by
 have h : ∃ l, Gr E.ns E.es ms l t E.ns.length := ⟨l, g⟩
 unfold lenF
 rw [dif_pos h]
 exact (Classical.choose_spec h).far.uniq g.far
theorem pathF_no {E : Ev} {ms fs : List Int} {u t : Int} (h : ¬ ((0 ≤ u ∧ u < E.ns.length) ∧ 0 ≤ t ∧ t < E.ns.length)) : pathF E ms u t fs = [] := if_neg h
theorem pathF_none {E : Ev} {ms fs l : List Int} {u t : Nat} (g : Gr E.ns E.es (ms ++ shut E.es (t : Int) fs) l t E.ns.length) (h : va l u = -1) : pathF E ms u t fs = [] := by
  unfold pathF
  split
  · rw [show ((t : Int)).toNat = t by omega, show ((u : Int)).toNat = u by omega, lenF_of g, if_pos (by rw [h]; omega)]
  · rfl
theorem pathF_some {E : Ev} {ms fs l : List Int} {u t k : Nat} (hu : u < E.ns.length) (ht : t < E.ns.length) (g : Gr E.ns E.es (ms ++ shut E.es (t : Int) fs) l t E.ns.length) (h : va l u = (k : Int)) : pathF E ms u t fs = pth E.ns E.es (ms ++ shut E.es (t : Int) fs) l t k u := by
 unfold pathF
 rw [if_pos (by omega), show ((t : Int)).toNat = t by omega, show ((u : Int)).toNat = u by omega, lenF_of g, if_neg (by rw [h]; omega), h, show ((k : Int)).toNat = k by omega]
namespace Ct
variable (c : Ct)
def onP (E : Ev) (n but : Int) : Bool := (List.range 31).any (fun t : Nat => decide ((t : Int) ≠ but) && (c.J t).any (fun d => decide (edN' E d = n)))
where edN' (E : Ev) (d : Int) : Int := ((E.es[(d - 1).toNat]?).getD (0, 0)).2
def rests (t : Int) : Bool := decide (c.S.whr t ≠ -1) && (decide (c.J t = []) && !c.S.way t)
def isF (r : Rq) : Bool := decide (fst c.K.all r.st = some r)
def hasR (t : Int) : Bool := match wnt c.K.all t with
 | some r => c.isF r
 | none => false
def fullB (E : Ev) (t n : Int) : Bool := (c.S.tak n && decide (c.S.whr t ≠ n)) || c.onP E n t
def fullL (E : Ev) (t : Int) : List Int := ((List.range E.ns.length).map (fun i : Nat => (i : Int))).filter (c.fullB E t)
noncomputable def wayF (E : Ev) (t n : Int) (full : List Int) : List Int := if n ∈ full then [] else pathF E c.S.down (c.S.whr t) n full
def nextQ (d : Int) : Int := if (c.S.last d).2 = true then ((c.S.last d).1 + 1) % 65536 else 0
def srv (r : Rq) : Bool := c.isF r && (c.rests r.tt && decide (c.S.whr r.tt = r.st))
def serve : Nat → Ct → Int × Ct
 | 0, c => (0, c)
 | k + 1, c => match (ops c.K.all).find? c.srv with
  | none => (0, c)
  | some r => if (c.note ⟨6, r.id, 0, 0⟩).1 = 0 then serve k (c.note ⟨6, r.id, 0, 0⟩).2 else c.note ⟨6, r.id, 0, 0⟩
noncomputable def fetch1 (E : Ev) (c : Ct) (r : Rq) : Ct := if (c.isF r && c.rests r.tt) = true then c.setJ r.tt (c.wayF E r.tt r.st (c.fullL E r.tt)) else c
noncomputable def fetch (E : Ev) (c : Ct) : Ct := (ops c.K.all).foldl (fetch1 E) c
noncomputable def near1 (E : Ev) (c : Ct) (t : Int) (full : List Int) (best : List Int) (n : Int) : List Int :=
 if kindAt E.ns n = 2 then (if c.wayF E t n full ≠ [] ∧ (best = [] ∨ (c.wayF E t n full).length < best.length) then c.wayF E t n full else best) else best
noncomputable def near (E : Ev) (c : Ct) (t : Int) (k : Nat) : List Int := ((List.range k).map (fun i : Nat => (i : Int))).foldl (near1 E c t (c.fullL E t)) []
noncomputable def away1 (E : Ev) (c : Ct) (t : Int) : Ct := if (!c.rests t || c.hasR t) = true then c else if kindAt E.ns (c.S.whr t) = 2 then c else c.setJ t (near E c t E.ns.length)
noncomputable def away (E : Ev) (c : Ct) (k : Nat) : Ct := ((List.range k).map (fun i : Nat => (i : Int) + 1)).foldl (away1 E) c
def tell1 (p : Int × Ct × List Int) (t : Int) : Int × Ct × List Int :=
 if p.1 ≠ 0 then p else if p.2.1.J t = [] ∨ p.2.1.S.way t = true then p else
  if (p.2.1.S.dev ((p.2.1.J t).headD 0)).dn = true then (0, p.2.1.setJ t [], p.2.2) else
   if (p.2.1.note ⟨4, (p.2.1.J t).headD 0, t, p.2.1.nextQ ((p.2.1.J t).headD 0)⟩).1 = 0 then (0, (p.2.1.note ⟨4, (p.2.1.J t).headD 0, t, p.2.1.nextQ ((p.2.1.J t).headD 0)⟩).2.setK ((p.2.1.J t).headD 0) 0, p.2.2 ++ [(p.2.1.J t).headD 0])
   else ((p.2.1.note ⟨4, (p.2.1.J t).headD 0, t, p.2.1.nextQ ((p.2.1.J t).headD 0)⟩).1, (p.2.1.note ⟨4, (p.2.1.J t).headD 0, t, p.2.1.nextQ ((p.2.1.J t).headD 0)⟩).2, p.2.2)
def tell (c : Ct) (k : Nat) : Int × Ct × List Int := ((List.range k).map (fun i : Nat => (i : Int))).foldl tell1 (0, c, [])
def tkAt (d : Int) : Int := (c.tk[d.toNat]?).getD 0
def due1 (pause : Int) (now : List Int) (p : Ct × List Int) (d : Int) : Ct × List Int :=
 if (p.1.S.dev d).tt = 0 then p else if d ∈ now then (p.1, p.2 ++ [d]) else
  if p.1.tkAt d + 1 < pause then (p.1.setK d (p.1.tkAt d + 1), p.2) else (p.1.setK d 0, p.2 ++ [d])
def due (pause : Int) (now : List Int) (c : Ct) (k : Nat) : Ct × List Int := ((List.range k).map (fun i : Nat => (i : Int) + 1)).foldl (due1 pause now) (c, [])
end Ct
noncomputable def Ct.tick (E : Ev) (c : Ct) : Int × Ct × List Int :=
 if c.dead = true then (190, c, []) else
 let p := Ct.serve ((ops c.K.all).length + 1) c
 if p.1 ≠ 0 then (p.1, p.2, []) else
 let q := Ct.tell (Ct.away E (Ct.fetch E p.2) 30) 31
 if q.1 ≠ 0 then (q.1, q.2.1, []) else
 let r := Ct.due E.pause q.2.2 q.2.1 E.es.length
 (0, r.1, r.2)
end Go.Proofs.YtocmngpoemfpkabGreatDoor

namespace Go.Proofs.YtocmngpoemfpkabGreatDoor
open Go.RowKit Go.Maps Go.ChangeMaps
theorem mlaw : Keyed Tryz.prog 3 := int_keyed Tryz.underlying3
theorem zero63 (w : World) : (zeroValue 185).run Tryz.prog w = .ok (.pointer none) w := by kernel_rfl
theorem zero27 (w : World) : (zeroValue 40).run Tryz.prog w = .ok (.slice none 0 0) w := by kernel_rfl
def keyI (x : Int) : Lit := .int .i64 x
theorem keyI_ne {x y : Int} (h : x ≠ y) : keyI x ≠ keyI y := fun e => h (by simpa [keyI] using e)
theorem keyI_lit (x : Int) : WideAt.IsKeyLit (keyI x) := by unfold keyI; trivial
def Mpi (w : World) (mb n : Nat) (f : Int → Option Value) : Prop := ∃ D, w.ownsMap Tryz.prog 3 raw mb n D ∧ ∀ x : Int, I64 x → match f x with
 | none => has D (keyI x) = false
 | some v => has D (keyI x) = true ∧ ∀ z, D.atKey (keyI x) z = .held v
theorem Mpi.keep {w w' : World} {mb n : Nat} {f : Int → Option Value} (H : Mpi w mb n f) (hb : w'.heap[mb]? = w.heap[mb]?) : Mpi w' mb n f := by
 obtain ⟨D, ⟨es, clock, hx, hr⟩, hM⟩ := H
 exact ⟨D, ⟨es, clock, by rw [hb]; exact hx, hr⟩, hM⟩
theorem Mpi.lt {w : World} {mb n : Nat} {f : Int → Option Value} (H : Mpi w mb n f) : mb < w.heap.size := by
 obtain ⟨D, hm, _⟩ := H
 exact hm.lt
theorem Mpi.obj {w : World} {mb n : Nat} {f : Int → Option Value} (H : Mpi w mb n f) : ∀ cur t, w.heap[mb]? ≠ some (.cells cur t) := fun cur t h => by
 obtain ⟨D, ⟨es, clock, hx, hr⟩, hM⟩ := H
 rw [hx] at h; cases h
theorem Mpi.made (w : World) : Mpi (w.alloc (.map #[] 0)) w.heap.size 0 (fun _ => none) := ⟨.map [], World.ownsMap_made w Tryz.prog 3 raw, fun _ _ => rfl⟩
theorem Mpi.look {w : World} {mb n : Nat} {f : Int → Option Value} (H : Mpi w mb n f) {x : Int} (hx : I64 x) :
  (Instr.lookup 187 (.map (some mb)) (.int .i64 x) true).run Tryz.prog w = .ok (.tuple #[(f x).getD (.pointer none), .bool (f x).isSome]) w := by
 obtain ⟨D, hm, hM⟩ := H
 have hx' := hM x hx
 obtain ⟨v, ps, hrun, hv⟩ := hm.look_ok mlaw Tryz.underlying187 (zero63 _) (zd := .held (.pointer none)) (zp := []) rfl (keyOf_int_mk Tryz.underlying3 hx.wf)
 rw [hrun]
 simp only [raw, Option.some.injEq, Prod.mk.injEq] at hv
 have ev := hv.1.symm
 cases hf : f x with
 | none =>
  rw [hf] at hx'
  rw [show D.atKey (.int .i64 x) (.held (.pointer none)) = .held (.pointer none) from atKey_of_not_has hx' _] at ev
  cases ev
  rw [show has D (.int .i64 x) = false from hx']
  rfl
 | some u =>
  rw [hf] at hx'
  rw [show D.atKey (.int .i64 x) (.held (.pointer none)) = .held u from hx'.2 _] at ev
  cases ev
  rw [show has D (.int .i64 x) = true from hx'.1]
  rfl
theorem Mpi.look59 {w : World} {mb n : Nat} {f : Int → Option Value} (H : Mpi w mb n f) {x : Int} (hx : I64 x) :
  (Instr.lookup 189 (.map (some mb)) (.int .i64 x) false).run Tryz.prog w = .ok ((f x).getD (.slice none 0 0)) w := by
 obtain ⟨D, hm, hM⟩ := H
 have hx' := hM x hx
 obtain ⟨v, ps, hrun, hv⟩ := hm.lookup mlaw Tryz.underlying189 (zero27 _) (zd := .held (.slice none 0 0)) (zp := []) rfl (keyOf_int_mk Tryz.underlying3 hx.wf)
 rw [hrun]
 simp only [raw, Option.some.injEq, Prod.mk.injEq] at hv
 have ev := hv.1.symm
 cases hf : f x with
 | none =>
  rw [hf] at hx'
  rw [show D.atKey (.int .i64 x) (.held (.slice none 0 0)) = .held (.slice none 0 0) from atKey_of_not_has hx' _] at ev
  cases ev; rfl
 | some u =>
  rw [hf] at hx'
  rw [show D.atKey (.int .i64 x) (.held (.slice none 0 0)) = .held u from hx'.2 _] at ev
  cases ev; rfl
theorem turn_frm {w w' : World} {b : Nat} (ht : w.mapTurned w' b) : Frm (fun k => k = b) w w' := by
 have hg := ht.grown
 obtain ⟨es, clock, es', clock', hb, rfl⟩ := ht
 exact ⟨hg.os, hg.tape, hg.output, hg.size, fun k _ hk => by have := Ne.symm hk; simp [setBlock, this]⟩
theorem Mpi.put {t e : TypeId} (ht : Tryz.prog.underlying t = some (.map 3 e)) {w : World} {mb n : Nat} {f : Int → Option Value} (H : Mpi w mb n f) {x : Int} (hx : I64 x) (v : Value) (hn : n ≤ 1000000) :
    ∃ w', (Instr.mapUpdate t (.map (some mb)) (.int .i64 x) v).run Tryz.prog w = .ok () w' ∧ Mpi w' mb (n + 1) (fun y => if y = x then some v else f y) ∧ Frm (fun k => k = mb) w w' := by
  obtain ⟨D, hm, hM⟩ := H
  obtain ⟨w', hr, hm', htu⟩ := hm.store mlaw ht (by unfold maxLen; omega) (keyOf_int_mk Tryz.underlying3 hx.wf) (val := v) (d := .held v) (ps := []) rfl
  refine ⟨w', hr, ⟨_, hm', fun y hy => ?_⟩, turn_frm htu⟩
  have := hM y hy
  by_cases e : y = x
  · subst e
    simp only [if_true]
    exact ⟨has_put_same hm.isMap (keyI_lit y) _, fun z => atKey_put_same hm.isMap (keyI_lit y) _ z⟩
  · simp only [if_neg e]
    cases hw : f y with
    | none => rw [hw] at this; exact (has_put_other (keyI_ne e) _).trans this
    | some p =>
      rw [hw] at this
      exact ⟨(has_put_other (keyI_ne e) _).trans this.1, fun z => (atKey_put_other (keyI_ne e) _ z).trans (this.2 z)⟩
def It.mp (mb n : Nat) (f : Int → Option Value) : It where
 P w := Mpi w mb n f
 f k := k = mb
 lt h k hk := by subst hk; exact h.lt
 st h hs := h.keep (hs _ rfl)
def ptrE : El Tryz.prog Nat where
 t := 188
 e := 185
 k := 1
 by' := 8
 z := .pointer none
 enc g := [.pointer (some ⟨g, 0, none⟩)]
 ht := Tryz.underlying188
 info := by kernel_rfl
 zc := rfl
 kpos := by omega
 bsm := by omega
 len _ := rfl
 one x v hv := by simp at hv; subst hv; rfl
theorem ptr_at {w : World} {a : Option Addr} {n c : Nat} {gs : List Nat} (h : ptrE.Rd w (.slice a n c) gs) (i g : Nat) (hp : gs[i]? = some g) : ∃ b off, a = some ⟨b, off, none⟩ ∧ w.cell? ⟨b, off + i, none⟩ = some (.pointer (some ⟨g, 0, none⟩)) := by
 obtain ⟨b, off, h1, h2⟩ := h.at i g hp
 refine ⟨b, off, h1, ?_⟩
 have := h2 0 (by show 0 < 1; omega)
 simpa [ptrE] using this
def enC (e : En) : Array Value := #[.int .i64 e.r.id, .int .i64 e.r.st, .int .i64 e.r.tt, .int .i64 e.en]
def It.ents (T : List (Nat × En)) : It where
 P w := ∀ p ∈ T, w.heap[p.1]? = some (.cells (enC p.2) 194)
 f k := ∃ p ∈ T, p.1 = k
 lt h k hk := by
  obtain ⟨p, hp, rfl⟩ := hk
  exact heap_lt (h p hp)
 st h hs p hp := by rw [hs _ ⟨p, hp, rfl⟩]; exact h p hp
structure Srv (w : World) (B ms n : Nat) (fs : Int → Option Value) (sv : Int → List Int) : Prop where
 mp : Mpi w ms n fs
 row : ∀ s v, fs s = some v → intE.Own w B v (sv s)
 no : ∀ s, fs s = none → sv s = []
 ap : ∀ s t v u k, s ≠ t → fs s = some v → fs t = some u → v.ownBlock = some k → u.ownBlock ≠ some k
def It.srv (B ms n : Nat) (fs : Int → Option Value) (sv : Int → List Int) : It where
  P w := Srv w B ms n fs sv
  f k := k = ms ∨ ∃ s v, fs s = some v ∧ v.ownBlock = some k
  lt h k hk := by
    rcases hk with rfl | ⟨s, v, h1, h2⟩
    · exact h.mp.lt
    · exact (h.row s v h1).lt k h2
  st h hs := ⟨h.mp.keep (hs _ (.inl rfl)), fun s v q => own_stay (h.row s v q) fun g hg _ => hs g (.inr ⟨s, v, q, hg⟩), h.no, h.ap⟩
structure Hb where
 kb : Nat
 sb : Nat
 vo : Value
 fs : Int → Option Value
 T : List (Nat × En)
def fnT (T : List (Nat × En)) (x : Int) : Option (Nat × En) := T.find? (fun p => p.2.r.id == x)
def kn (T : List (Nat × En)) (x : Int) : Option Value := (fnT T x).map (fun p => .pointer (some ⟨p.1, 0, none⟩))
def opT (T : List (Nat × En)) : List (Nat × En) := T.filter (fun p => p.2.en == 1)
def Lie (T : List (Nat × En)) (S : Bk) : Prop := S.Ok ∧ S.all = T.map (·.2) ∧ (T.map (·.1)).Nodup
def limbs (B g : Nat) (H : Hb) (S : Bk) : List It := [.row ptrE B H.vo ((opT H.T).map (·.1)), .ents H.T, .box g #[.map (some H.kb), H.vo, .map (some H.sb)] 191, .srv B H.sb S.done.length H.fs S.sv, .mp H.kb S.all.length (kn H.T)]
def parts (B g : Nat) (H : Hb) (S : Bk) : List It := .fact (Lie H.T S) :: limbs B g H S
def It.book (B g : Nat) (H : Hb) (S : Bk) : It := .grp (parts B g H S)
theorem fnT_fnd {T : List (Nat × En)} (x : Int) : fnd (T.map (·.2)) x = (fnT T x).map (·.2) := by
 unfold fnd fnT
 rw [List.find?_map]
 rfl
theorem opT_ops (T : List (Nat × En)) : ops (T.map (·.2)) = (opT T).map (·.2.r) := by
 unfold ops opT
 rw [List.filter_map, List.map_map]
 rfl
section
variable {w : World} {B g : Nat} {H : Hb} {S : Bk}
theorem bk_box (h : (It.book B g H S).P w) : w.heap[g]? = some (.cells #[.map (some H.kb), H.vo, .map (some H.sb)] 191) := h.1 (.box g #[.map (some H.kb), H.vo, .map (some H.sb)] 191) (by simp [parts, limbs])
theorem bk_cells (h : (It.book B g H S).P w) : w.cell? ⟨g, 0, none⟩ = some (.map (some H.kb)) ∧ w.cell? ⟨g, 1, none⟩ = some H.vo ∧ w.cell? ⟨g, 2, none⟩ = some (.map (some H.sb)) ∧ ∀ i, w.frozen? ⟨g, i, none⟩ = false :=
 ⟨(cells_at (bk_box h) 0).1, (cells_at (bk_box h) 1).1, (cells_at (bk_box h) 2).1, fun i => (cells_at (bk_box h) i).2⟩
theorem bk_mp (h : (It.book B g H S).P w) : Mpi w H.kb S.all.length (kn H.T) := h.1 (.mp H.kb S.all.length (kn H.T)) (by simp [parts, limbs])
theorem bk_row (h : (It.book B g H S).P w) : ptrE.Own w B H.vo ((opT H.T).map (·.1)) := h.1 (.row ptrE B H.vo ((opT H.T).map (fun p : Nat × En => p.1))) (by simp [parts, limbs])
theorem bk_ents (h : (It.book B g H S).P w) : ∀ p ∈ H.T, w.heap[p.1]? = some (.cells (enC p.2) 194) := h.1 (.ents H.T) (by simp [parts, limbs])
theorem bk_srv (h : (It.book B g H S).P w) : Srv w B H.sb S.done.length H.fs S.sv := h.1 (.srv B H.sb S.done.length H.fs S.sv) (by simp [parts, limbs])
theorem bk_lie (h : (It.book B g H S).P w) : Lie H.T S := h.1 (.fact (Lie H.T S)) (by simp [parts])
theorem bk_ent (h : (It.book B g H S).P w) {p : Nat × En} (hp : p ∈ H.T) : w.cell? ⟨p.1, 0, none⟩ = some (.int .i64 p.2.r.id) ∧ w.cell? ⟨p.1, 1, none⟩ = some (.int .i64 p.2.r.st) ∧ w.cell? ⟨p.1, 2, none⟩ = some (.int .i64 p.2.r.tt) ∧ w.cell? ⟨p.1, 3, none⟩ = some (.int .i64 p.2.en) ∧ ∀ i, w.frozen? ⟨p.1, i, none⟩ = false :=
 ⟨(cells_at (bk_ents h p hp) 0).1, (cells_at (bk_ents h p hp) 1).1, (cells_at (bk_ents h p hp) 2).1, (cells_at (bk_ents h p hp) 3).1, fun i => (cells_at (bk_ents h p hp) i).2⟩
theorem Its.bopen {w0 : World} {l : List It} (h : Its w0 (.book B g H S :: l) w) : Its w0 (limbs B g H S ++ l) w ∧ Lie H.T S := ⟨h.opn.tail, bk_lie h.one⟩
theorem Its.bshut {w0 : World} {l : List It} (h : Its w0 (limbs B g H S ++ l) w) (hl : Lie H.T S) : Its w0 (.book B g H S :: l) w :=
 Its.shut (a := parts B g H S) (h.new (x := .fact (Lie H.T S)) hl (fun k hk => hk.elim) (Below.refl _ _))
end
end Go.Proofs.YtocmngpoemfpkabGreatDoor
