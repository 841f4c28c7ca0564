/- ControlOrders: texts Chk Mrg Mrh Lag Arg Mag Nel Nca Nap Nnu Nsl Npa. -/
import Derived.BigRegion
import Derived.ChangeOld
import Derived.Deep.RegionWith
import Derived.Laws.BytesArg
import Derived.Laws.MakeOwn
import Derived.ShutString
import Derived.SizedLaws
import Derived.Test.YtocmngpoemfpkaaGreatDoorControlOrdersAA
import Derived.Test.YtocmngpoemfpkaaGreatDoorControlOrdersAC
import Derived.Test.YtocmngpoemfpkaaGreatDoorControlOrdersAD
namespace Go.Proofs.YtocmngpoemfpkaaGreatDoor
open Go.RowKit Go.Maps Go.ChangeMaps
set_option linter.unusedVariables false
set_option maxRecDepth 100000 in
set_option maxHeartbeats 1000000 in
theorem check_any (a a' : Option Addr) (c c' : Nat) (ns : List Nd) (es : List Ed) (w : World) (hv : ndE.Rd w (.slice a ns.length c) ns) (hu : edE.Rd w (.slice a' es.length c') es) (hcap : es.length ≤ c') (hs : ∀ n ∈ ns, n.name.size ≤ maxLen) :
    Calls Tryz.prog 43 #[.agg #[.slice a ns.length c, .slice a' es.length c']] w fun e w' => e = .returned (.int .i64 (if good ns es = true then 0 else 61)) ∧ Below w.heap.size w w' := by
  obtain ⟨W0, hW0⟩ : ∃ W0, w.alloc (.cells #[.slice a ns.length c, .slice a' es.length c'] 25) = W0 := ⟨_, rfl⟩
  have bA : Below w.heap.size w W0 := by rw [← hW0]; exact (Below.refl _ _).alloc (Nat.le_refl _) _
  have hbox : W0.heap[w.heap.size]? = some (.cells #[.slice a ns.length c, .slice a' es.length c'] 25) := by rw [← hW0]; exact heap_new _ _
  have K26 := hide (nodesFit_any a c ns W0 (hv.keep bA) hs)
  have K27 : Hid (∀ W, Below w.heap.size w W → _) := hide (fun W (h : Below w.heap.size w W) => edgesFit_any a a' c c' ns es W (hv.keep h) (hu.keep h) hcap)
  have gd : good ns es = (goodN ns && goodE ns es) := rfl
  rw [gd]
  have HA := hide bA
  have X : Hid (∀ W, Below W0.heap.size W0 W → Below w.heap.size w W ∧ W.cell? ⟨w.heap.size, 0, none⟩ = some (.slice a ns.length c) ∧ W.cell? ⟨w.heap.size, 1, none⟩ = some (.slice a' es.length c')) := hide (fun W h => by
    have hx : W.heap[w.heap.size]? = some (.cells #[.slice a ns.length c, .slice a' es.length c'] 25) := by rw [h.block _ (heap_lt hbox)]; exact hbox
    exact ⟨bA.trans (h.mono bA.size), (cells_at hx 0).1, (cells_at hx 1).1⟩)
  subst hW0
  clear hv hu bA hbox gd hcap hs
  generalize goodN ns = g1 at *
  generalize goodE ns es = g2 at *
  generalize ns.length = n at *
  generalize es.length = m at *
  cases g1 with
  | false =>
    clear K27
    go_enter Tryz.func43, Tryz.ntmps43
    go_wp2_with (go_at_call 108; refine (K26.out).mono ?_; rintro e W1 ⟨rfl, hb1⟩; have ⟨hb1', y0, y1⟩ := X.out _ hb1; have Hb1 := hide hb1'; clear hb1 hb1')
    go_ret
    exact ⟨rfl, Hb1.out⟩
  | true =>
    cases g2 with
    | false =>
      go_enter Tryz.func43, Tryz.ntmps43
      go_wp2_with (first
        | (go_at_call 108; refine (K26.out).mono ?_; rintro e W1 ⟨rfl, hb1⟩; have ⟨hb1', y0, y1⟩ := X.out _ hb1; have Hb1 := hide hb1'; clear hb1 hb1')
        | (go_at_call 109; refine (K27.out _ Hb1.out).mono ?_; rintro e W2 ⟨rfl, hb2⟩; have Hb2 := hide (Hb1.out.trans (hb2.mono Hb1.out.size)); clear hb2))
      go_ret
      exact ⟨rfl, Hb2.out⟩
    | true =>
      go_enter Tryz.func43, Tryz.ntmps43
      go_wp2_with (first
        | (go_at_call 108; refine (K26.out).mono ?_; rintro e W1 ⟨rfl, hb1⟩; have ⟨hb1', y0, y1⟩ := X.out _ hb1; have Hb1 := hide hb1'; clear hb1 hb1')
        | (go_at_call 109; refine (K27.out _ Hb1.out).mono ?_; rintro e W2 ⟨rfl, hb2⟩; have Hb2 := hide (Hb1.out.trans (hb2.mono Hb1.out.size)); clear hb2))
      go_ret
      exact ⟨rfl, Hb2.out⟩
end Go.Proofs.YtocmngpoemfpkaaGreatDoor

namespace Go.Proofs.YtocmngpoemfpkaaGreatDoor
open Go.RowKit
set_option linter.unusedVariables false
theorem made_cells {α : Type} (E : El Tryz.prog α) (d : α) (hz : E.z.cells.toList = E.enc d) (n : Nat) : (madeCells E.z.cells (n * E.k)).toList = E.fl (List.replicate n d) := by
  have hs : E.z.cells.size = E.k := by rw [← Array.length_toList, hz, E.len]
  apply List.ext_getElem?
  intro j
  have hk := E.kpos
  rcases Nat.lt_or_ge j (n * E.k) with h | h
  · have hi : j / E.k < n := (Nat.div_lt_iff_lt_mul hk).2 h
    have hj : j % E.k < E.k := Nat.mod_lt _ hk
    have e : j / E.k * E.k + j % E.k = j := by rw [Nat.mul_comm]; exact Nat.div_add_mod j E.k
    have := E.fl_at (List.replicate n d) (j / E.k) (j % E.k) d (by rw [List.getElem?_replicate, if_pos hi]) hj
    rw [e] at this
    rw [this, ← hz]
    unfold madeCells
    rw [Array.getElem?_toList, Array.getElem?_map, Array.getElem?_range, if_pos h, Array.getElem?_toList]
    simp only [Option.map_some, hs]
    rw [Array.getElem?_eq_getElem (by rw [hs]; exact hj)]
    simp [hs, hj]
  · rw [List.getElem?_eq_none (by rw [Array.length_toList, size_madeCells]; exact h), List.getElem?_eq_none (by rw [E.fl_len, List.length_replicate]; exact h)]
theorem made_any {α : Type} (E : El Tryz.prog α) (d : α) (hz : E.z.cells.toList = E.enc d) (n : Nat) (hn : n ≤ 1000) (hb : E.by' ≤ 1000) : ∃ C : Array Value, (∀ W, (Instr.makeSlice E.t (.int .i64 (n : Int)) (.int .i64 (n : Int))).run Tryz.prog W = .ok (.slice (some ⟨W.heap.size, 0, none⟩) n n) (W.alloc (.cells C E.e))) ∧
    ∀ W : World, E.Own (W.alloc (.cells C E.e)) W.heap.size (.slice (some ⟨W.heap.size, 0, none⟩) n n) (List.replicate n d) := by
  obtain ⟨i, hi, he⟩ := Option.map_eq_some_iff.1 E.info
  have e1 : i.zero = some E.z := congrArg Prod.fst he
  have e2 : i.size = E.k := congrArg (fun p => p.2.1) he
  have e3 : i.bytes = E.by' := congrArg (fun p => p.2.2) he
  refine ⟨madeCells E.z.cells (n * E.k), fun W => ?_, fun W => El.Own.new E W W.heap.size (Nat.le_refl _) _ _ (made_cells E d hz n) (by rw [List.length_replicate]; omega) _ _ _ rfl (by rw [List.length_replicate]) (by rw [List.length_replicate])⟩
  have hq : (i.bytes : Int) * (n : Int) ≤ 281474976710656 := by
    rw [e3]
    have h1 : E.by' * n ≤ 1000 * 1000 := Nat.mul_le_mul hb hn
    have h2 : ((E.by' * n : Nat) : Int) ≤ 281474976710656 := by omega
    rwa [Int.natCast_mul] at h2
  have := run_make (P := Tryz.prog) W E.t E.e i E.z E.ht hi e1 .i64 .i64 n n (by omega) (Int.le_refl _) hq (by omega)
  rw [e2] at this
  simpa using this
theorem made_i (n : Nat) (hn : n ≤ 1000) : ∃ C : Array Value, (∀ W, (Instr.makeSlice 39 (.int .i64 (n : Int)) (.int .i64 (n : Int))).run Tryz.prog W = .ok (.slice (some ⟨W.heap.size, 0, none⟩) n n) (W.alloc (.cells C 3))) ∧
    ∀ W : World, intE.Own (W.alloc (.cells C 3)) W.heap.size (.slice (some ⟨W.heap.size, 0, none⟩) n n) (List.replicate n 0) := made_any intE 0 rfl n hn (by decide)
def dv0 : Dv := ⟨0, 0, 0, 0, false, false⟩
theorem made_d (n : Nat) (hn : n ≤ 1000) : ∃ C : Array Value, (∀ W, (Instr.makeSlice 213 (.int .i64 (n : Int)) (.int .i64 (n : Int))).run Tryz.prog W = .ok (.slice (some ⟨W.heap.size, 0, none⟩) n n) (W.alloc (.cells C 219))) ∧
    ∀ W : World, dvE.Own (W.alloc (.cells C 219)) W.heap.size (.slice (some ⟨W.heap.size, 0, none⟩) n n) (List.replicate n dv0) := made_any dvE dv0 rfl n hn (by decide)
def mkD (e : Int × Int) : Dv := ⟨e.1, e.2, 0, 0, false, false⟩
def Mr.nw (n : Nat) (es : List (Int × Int)) : Mr := ⟨List.replicate n 0, es.map mkD⟩
def nwD (es : List (Int × Int)) (k : Nat) : List Dv := (es.take k).map mkD ++ List.replicate (es.length - k) dv0
theorem nwD_zero (es : List (Int × Int)) : nwD es 0 = List.replicate es.length dv0 := by simp [nwD]
theorem nwD_end (es : List (Int × Int)) : nwD es es.length = es.map mkD := by simp [nwD]
theorem nwD_at (es : List (Int × Int)) (k : Nat) (hk : k < es.length) : (nwD es k)[k]? = some dv0 := by
  unfold nwD
  have hl : ((es.take k).map mkD).length = k := by rw [List.length_map, List.length_take]; omega
  rw [List.getElem?_append_right (by omega), hl, Nat.sub_self, List.getElem?_replicate, if_pos (by omega)]
theorem nwD_set (es : List (Int × Int)) (k : Nat) (e : Int × Int) (he : es[k]? = some e) : (nwD es k).set k (mkD e) = nwD es (k + 1) := by
  have hk := idx_lt he
  unfold nwD
  have hl : ((es.take k).map mkD).length = k := by rw [List.length_map, List.length_take]; omega
  rw [take_one he, List.map_append, List.set_append_right _ _ (by omega), hl, Nat.sub_self]
  obtain ⟨r, hr⟩ : ∃ r, es.length - k = r + 1 := ⟨es.length - k - 1, by omega⟩
  rw [hr, List.replicate_succ, List.set_cons_zero, show es.length - (k + 1) = r by omega, List.append_assoc]
  rfl
theorem Mr.nw_ok {n : Nat} {es : List (Int × Int)} (hn : n ≤ 40) (hm : es.length ≤ 120) (he : ∀ e ∈ es, (0 ≤ e.1 ∧ e.1 < n) ∧ (0 ≤ e.2 ∧ e.2 < n) ∧ e.1 ≠ e.2) : (Mr.nw n es).Ok n es := by
  have hz : ∀ D ∈ (Mr.nw n es).ds, D.tt = 0 ∧ D.sq = 0 := fun D hD => by
    obtain ⟨e, _, rfl⟩ := List.mem_map.1 hD
    exact ⟨rfl, rfl⟩
  refine ⟨List.length_replicate .., hn, ?_, hm, he, ?_, ?_, fun D hD h => absurd (hz D hD).1 h, fun i j D E hD _ _ h => absurd (hz D (List.mem_of_getElem? hD)).1 h, fun D hD _ => (hz D hD).2⟩
  · show (es.map mkD).map ends = es
    rw [List.map_map]
    have : ends ∘ mkD = id := rfl
    rw [this, List.map_id]
  · intro x hx
    have := List.eq_of_mem_replicate hx
    omega
  · intro i j x hx hi
    have := List.eq_of_mem_replicate (List.mem_of_getElem? hi)
    exact absurd this hx
theorem good_he {ns : List Nd} {es : List Ed} (h : good ns es = true) : ns.length ≤ 40 ∧ es.length ≤ 120 ∧ ∀ e ∈ es, (0 ≤ e.1 ∧ e.1 < ns.length) ∧ (0 ≤ e.2 ∧ e.2 < ns.length) ∧ e.1 ≠ e.2 := by
  unfold good at h
  rw [Bool.and_eq_true] at h
  have h1 := of_decide_eq_true h.1
  have h2 := of_decide_eq_true h.2
  refine ⟨h1.2.1, h2.1, fun e he => ?_⟩
  have := h2.2.1 e he
  unfold edB at this
  simp only [Bool.and_eq_true, decide_eq_true_eq, placeB] at this
  exact ⟨this.1.1.1, this.1.1.2, this.1.2⟩
theorem Its.addm {w0 w w' : World} {l : List It} {g n m : Nat} {H : Nat × Nat} {es : List (Int × Int)} {S : Mr} (h : Its w0 l w) (h' : Its w [.mir w.heap.size g H n m es S] w') : Its w0 (.mir w0.heap.size g H n m es S :: l) w' := by
  have hp := h'.one
  refine h.new (x := .mir w0.heap.size g H n m es S) ⟨?_, ?_⟩ (fun k hk => ?_) h'.bel
  · intro x hx
    simp only [mparts, List.mem_cons, List.not_mem_nil, or_false] at hx
    rcases hx with rfl | rfl | rfl | rfl
    · exact mr_fact hp
    · exact (mr_ds hp).mono h.size
    · exact (mr_ts hp).mono h.size
    · exact mr_box hp
  · have := hp.2
    simp only [mparts, List.pairwise_cons, List.mem_cons, List.not_mem_nil, or_false, forall_eq_or_imp, forall_eq, It.row, It.box, It.fact] at this ⊢
    exact this
  · refine h'.ge _ (List.mem_singleton.2 rfl) k ?_
    obtain ⟨x, hx, q⟩ := hk
    simp only [mparts, List.mem_cons, List.not_mem_nil, or_false] at hx
    rcases hx with rfl | rfl | rfl | rfl
    · exact q.elim
    · exact ⟨.row dvE w.heap.size (.slice (some ⟨H.2, 0, none⟩) m m) S.ds, by simp [mparts], q⟩
    · exact ⟨.ints w.heap.size (.slice (some ⟨H.1, 0, none⟩) n n) S.ts, by simp [mparts], q⟩
    · exact ⟨.box g #[.slice (some ⟨H.1, 0, none⟩) n n, .slice (some ⟨H.2, 0, none⟩) m m] 215, by simp [mparts], q⟩
end Go.Proofs.YtocmngpoemfpkaaGreatDoor

namespace Go.Proofs.YtocmngpoemfpkaaGreatDoor
open Go.RowKit
set_option linter.unusedVariables false
structure Lyt (w : World) (a a' : Option Addr) (c c' n m : Nat) (ns : List Nd) (es : List Ed) : Prop where
  hn : ns.length = n
  hm : es.length = m
  hv : ndE.Rd w (.slice a n c) ns
  hu : edE.Rd w (.slice a' m c') es
  hc : m ≤ c'
  hs : ∀ p ∈ ns, p.name.size ≤ maxLen
theorem Lyt.keep {w w' : World} {a a' : Option Addr} {c c' n m : Nat} {ns : List Nd} {es : List Ed} (h : Lyt w a a' c c' n m ns es) (hb : Below w.heap.size w w') : Lyt w' a a' c c' n m ns es := ⟨h.hn, h.hm, h.hv.keep hb, h.hu.keep hb, h.hc, h.hs⟩
theorem check_l {w : World} {a a' : Option Addr} {c c' n m : Nat} {ns : List Nd} {es : List Ed} (h : Lyt w a a' c c' n m ns es) :
    Calls Tryz.prog 43 #[.agg #[.slice a n c, .slice a' m c']] w fun e w' => e = .returned (.int .i64 (if good ns es = true then 0 else 61)) ∧ Below w.heap.size w w' := by
  have h1 := h.hn
  have h2 := h.hm
  subst h1
  subst h2
  exact check_any a a' c c' ns es w h.hv h.hu h.hc h.hs
def NewP (w : World) (n m : Nat) (es : List (Int × Int)) (e : Ending) (w' : World) : Prop := ∃ g H, e = .returned (.tuple #[.pointer (some ⟨g, 0, none⟩), .int .i64 0]) ∧ Its w [.mir w.heap.size g H n m es (Mr.nw n es)] w'
theorem new_A {w w2 : World} {l : List It} {CI CD : Array Value} {n m : Nat} (h : Its w l w2)
    (oI : ∀ W : World, intE.Own (W.alloc (.cells CI 3)) W.heap.size (.slice (some ⟨W.heap.size, 0, none⟩) n n) (List.replicate n 0))
    (oD : ∀ W : World, dvE.Own (W.alloc (.cells CD 219)) W.heap.size (.slice (some ⟨W.heap.size, 0, none⟩) m m) (List.replicate m dv0)) :
    Its w (mparts w.heap.size (w2.heap.size + 1 + 1) (w2.heap.size, w2.heap.size + 1) n m ⟨List.replicate n 0, List.replicate m dv0⟩ ++ l) (((w2.alloc (.cells CI 3)).alloc (.cells CD 219)).alloc (.cells #[.slice (some ⟨w2.heap.size, 0, none⟩) n n, .slice (some ⟨w2.heap.size + 1, 0, none⟩) m m] 215)) := by
  have s1 : (w2.alloc (.cells CI 3)).heap.size = w2.heap.size + 1 := by show (w2.heap.push _).size = _; simp
  have s2 : ((w2.alloc (.cells CI 3)).alloc (.cells CD 219)).heap.size = w2.heap.size + 1 + 1 := by show ((w2.alloc (.cells CI 3)).heap.push _).size = _; simp [s1]
  have h1 := h.fresh (oI w2) (below_new _ _)
  have h2 := h1.fresh (oD _) (below_new _ _)
  rw [s1] at h2
  have h3 := h2.new (x := .box (w2.heap.size + 1 + 1) #[.slice (some ⟨w2.heap.size, 0, none⟩) n n, .slice (some ⟨w2.heap.size + 1, 0, none⟩) m m] 215) (by rw [← s2]; exact heap_new _ _) (fun k hk => by rw [s2]; exact Nat.le_of_eq hk.symm) (below_new _ (.cells #[.slice (some ⟨w2.heap.size, 0, none⟩) n n, .slice (some ⟨w2.heap.size + 1, 0, none⟩) m m] 215))
  exact h3.rot3'
theorem new_B {w w2 : World} {l : List It} {CI CD : Array Value} {n m : Nat} (h : Its w l w2)
    (oI : ∀ W : World, intE.Own (W.alloc (.cells CI 3)) W.heap.size (.slice (some ⟨W.heap.size, 0, none⟩) n n) (List.replicate n 0))
    (oD : ∀ W : World, dvE.Own (W.alloc (.cells CD 219)) W.heap.size (.slice (some ⟨W.heap.size, 0, none⟩) m m) (List.replicate m dv0)) :
    Its w (mparts w.heap.size (w2.heap.size + 1 + 1) (w2.heap.size + 1, w2.heap.size) n m ⟨List.replicate n 0, List.replicate m dv0⟩ ++ l) (((w2.alloc (.cells CD 219)).alloc (.cells CI 3)).alloc (.cells #[.slice (some ⟨w2.heap.size + 1, 0, none⟩) n n, .slice (some ⟨w2.heap.size, 0, none⟩) m m] 215)) := by
  have s1 : (w2.alloc (.cells CD 219)).heap.size = w2.heap.size + 1 := by show (w2.heap.push _).size = _; simp
  have s2 : ((w2.alloc (.cells CD 219)).alloc (.cells CI 3)).heap.size = w2.heap.size + 1 + 1 := by show ((w2.alloc (.cells CD 219)).heap.push _).size = _; simp [s1]
  have h1 := h.fresh (oD w2) (below_new _ _)
  have h2 := h1.fresh (oI _) (below_new _ _)
  rw [s1] at h2
  have h3 := h2.new (x := .box (w2.heap.size + 1 + 1) #[.slice (some ⟨w2.heap.size + 1, 0, none⟩) n n, .slice (some ⟨w2.heap.size, 0, none⟩) m m] 215) (by rw [← s2]; exact heap_new _ _) (fun k hk => by rw [s2]; exact Nat.le_of_eq hk.symm) (below_new _ (.cells #[.slice (some ⟨w2.heap.size + 1, 0, none⟩) n n, .slice (some ⟨w2.heap.size, 0, none⟩) m m] 215))
  exact h3.swap.rot3
section
variable {w : World} {a a' : Option Addr} {c c' n m : Nat} {ns : List Nd} {es : List Ed}
set_option maxRecDepth 100000 in
set_option maxHeartbeats 2000000 in
theorem new_ok (h : Lyt w a a' c c' n m ns es) (hg : good ns es = true) : Calls Tryz.prog 114 #[.agg #[.slice a n c, .slice a' m c']] w fun e w' => NewP w n m es e w' := by
  obtain ⟨w1, hw1⟩ : ∃ w1, w.alloc (.cells #[.slice a n c, .slice a' m c'] 25) = w1 := ⟨_, rfl⟩
  have b1 : Below w.heap.size w w1 := by rw [← hw1]; exact below_new _ _
  have K := check_l (h.keep b1)
  rw [if_pos hg] at K
  have HK := hide K
  have HI1 : Hid (Its w [.box w.heap.size #[.slice a n c, .slice a' m c'] 25] w1) := hide ((Its.nil w).new (x := .box w.heap.size #[.slice a n c, .slice a' m c'] 25) (by rw [← hw1]; exact heap_new _ _) (fun k hk => Nat.le_of_eq hk.symm) b1)
  obtain ⟨g1, g2, g3⟩ := good_he hg
  rw [h.hn] at g1 g3
  have HOK := hide (Mr.nw_ok g1 g2 g3)
  rw [h.hm] at g2
  have HL := hide h
  obtain ⟨CI, rI, oI⟩ := made_i n (by omega)
  obtain ⟨CD, rD, oD⟩ := made_d m (by omega)
  have HoI := hide oI
  have HoD := hide oD
  have X : Hid (∀ W, Its w [.box w.heap.size #[.slice a n c, .slice a' m c'] 25] W → W.cell? ⟨w.heap.size, 0, none⟩ = some (.slice a n c) ∧ W.cell? ⟨w.heap.size, 1, none⟩ = some (.slice a' m c')) := hide (fun W hW => ⟨(cells_at hW.one 0).1, (cells_at hW.one 1).1⟩)
  have i1 : (m : Int) ≤ 120 := by omega
  clear h hg K b1 g1 g2 g3 oI oD
  subst hw1
  go_enter Tryz.func114, Tryz.ntmps114
  go_upto_region 4 with (go_at_call 43; refine HK.out.mono ?_; rintro e w2 ⟨rfl, B2⟩; have HI2 := hide (HI1.out.keep B2); clear B2)
  obtain ⟨y0, y1⟩ := X.out _ HI2.out
  have z0 : ∀ o, (w2.alloc o).cell? ⟨w.heap.size, 0, none⟩ = some (.slice a n c) := fun o => (X.out _ (HI2.out.alloc o)).1
  have z1 : ∀ o, (w2.alloc o).cell? ⟨w.heap.size, 1, none⟩ = some (.slice a' m c') := fun o => (X.out _ (HI2.out.alloc o)).2
  go_cut [5] (fun v5 wx => ∃ (g : Nat) (H : Nat × Nat), v5 = .pointer (some ⟨g, 0, none⟩) ∧ Hid (Its w (mparts w.heap.size g H n m ⟨List.replicate n 0, List.replicate m dv0⟩ ++ [.box w.heap.size #[.slice a n c, .slice a' m c'] 25]) wx))
  case first =>
    have qA := hide ((new_A HI2.out HoI.out HoD.out).drew 1)
    have qB := hide ((new_B HI2.out HoI.out HoD.out).drew 1)
    go_region
    · go_wp2_with fail
      go_meet
      exact ⟨_, _, rfl, qA⟩
    · go_wp2_with fail
      go_meet
      exact ⟨_, _, rfl, qB⟩
  case rest =>
    obtain ⟨g, H, rfl, HP⟩ := hcut
    obtain ⟨bt, bd⟩ := H
    have HE : Hid (∀ W, Its w (mparts w.heap.size g (bt, bd) n m ⟨List.replicate n 0, nwD es m⟩ ++ [.box w.heap.size #[.slice a n c, .slice a' m c'] 25]) W → Its w [.mir w.heap.size g (bt, bd) n m es (Mr.nw n es)] W) := hide (fun W hW => by
      have e1 : nwD es m = es.map mkD := by rw [← HL.out.hm]; exact nwD_end es
      rw [e1] at hW
      have h3 : Its w (mparts w.heap.size g (bt, bd) n m (Mr.nw n es) ++ []) W := (hW.perm (List.perm_append_comm (l₁ := mparts w.heap.size g (bt, bd) n m (Mr.nw n es)) (l₂ := [.box w.heap.size #[.slice a n c, .slice a' m c'] 25]))).tail
      exact h3.mshut ⟨HOK.out, HL.out.hm⟩)
    have Y : Hid (∀ (W : World) (ds : List Dv), Its w (mparts w.heap.size g (bt, bd) n m ⟨List.replicate n 0, ds⟩ ++ [.box w.heap.size #[.slice a n c, .slice a' m c'] 25]) W → W.cell? ⟨w.heap.size, 0, none⟩ = some (.slice a n c) ∧ W.cell? ⟨w.heap.size, 1, none⟩ = some (.slice a' m c') ∧ W.cell? ⟨g, 1, none⟩ = some (.slice (some ⟨bd, 0, none⟩) m m)) := hide (fun W ds hW => by
      have h4 : W.heap[w.heap.size]? = some (.cells #[.slice a n c, .slice a' m c'] 25) := hW.four
      have h3 : W.heap[g]? = some (.cells #[.slice (some ⟨bt, 0, none⟩) n n, .slice (some ⟨bd, 0, none⟩) m m] 215) := hW.three
      exact ⟨(cells_at h4 0).1, (cells_at h4 1).1, (cells_at h3 1).1⟩)
    have HP0 : Hid (Its w (mparts w.heap.size g (bt, bd) n m ⟨List.replicate n 0, nwD es 0⟩ ++ [.box w.heap.size #[.slice a n c, .slice a' m c'] 25]) wc) := hide (by rw [nwD_zero, HL.out.hm]; exact HP.out)
    obtain ⟨y0, y1, y2⟩ := Y.out _ _ HP.out
    clear HP
    obtain ⟨wA, rfl⟩ : ∃ W, W = wc := ⟨_, rfl⟩
    go_wp2_with fail
    go_loopw [26] (fun v26 wr => ∃ k : Nat, v26 = .int .i64 k ∧ k ≤ m ∧ Hid (Its w (mparts w.heap.size g (bt, bd) n m ⟨List.replicate n 0, nwD es k⟩ ++ [.box w.heap.size #[.slice a n c, .slice a' m c'] 25]) wr)) (fun v26 _ => m - (intOf v26).toNat)
    case atStart => exact ⟨0, rfl, Nat.zero_le _, HP0⟩
    case round =>
      obtain ⟨k, rfl, hk, HR⟩ := hrel
      by_cases hlt : k < m
      · obtain ⟨e, he⟩ : ∃ e, es[k]? = some e := ⟨_, List.getElem?_eq_getElem (by rw [HL.out.hm]; exact hlt)⟩
        obtain ⟨b, off, rfl, e0, e1⟩ := ed_at (HL.out.hu.keep HR.out.bel) k e he
        have j0 : (0 : Int) ≤ (k : Int) := by omega
        have j1 : (k : Int) < (m : Int) := by omega
        have hat := nwD_at es k (by rw [HL.out.hm]; exact hlt)
        have HN := hide ((Its.dset (Its.dset (HR.out.alloc (.cells #[.int .i64 e.1, .int .i64 e.2] 78)) hat { dv0 with fr := e.1 } 0 (.int .i64 e.1) (by omega) rfl) (set_at hat) (mkD e) 1 (.int .i64 e.2) (by omega) rfl).drew 1)
        rw [List.set_set, nwD_set es k e he] at HN
        replace HN : Hid (Its w (mparts w.heap.size g (bt, bd) n m ⟨List.replicate n 0, nwD es (k + 1)⟩ ++ [.box w.heap.size #[.slice a n c, .slice (some ⟨b, off, none⟩) m c'] 25]) (((wr.alloc (.cells #[.int .i64 e.1, .int .i64 e.2] 78)).setCell ⟨bd, k * 6, none⟩ (.int .i64 e.1)).setCell ⟨bd, k * 6 + 1, none⟩ (.int .i64 e.2)).drew) := HN
        have HA := hide (HR.out.alloc (.cells #[.int .i64 e.1, .int .i64 e.2] 78))
        obtain ⟨x0, x1, x2⟩ := Y.out _ _ HR.out
        obtain ⟨z0, z1, z2⟩ := Y.out _ _ HA.out
        have o1 : dvE.Own (wr.alloc (.cells #[.int .i64 e.1, .int .i64 e.2] 78)) w.heap.size (.slice (some ⟨bd, 0, none⟩) m m) (nwD es k) := HA.out.one
        have hll : (nwD es k).length = m := o1.rd.form.choose_spec.choose_spec |> fun q => by simp only [Value.slice.injEq] at q; exact q.2.1.symm
        obtain ⟨p0, p1, _⟩ := dv_at o1.rd k _ hat
        have f0 := (o1.cell (k * 6 + 0) (by show k * 6 + 0 < (nwD es k).length * 6; omega)).2.1
        have f1 := (o1.cell (k * 6 + 1) (by show k * 6 + 1 < (nwD es k).length * 6; omega)).2.1
        rw [Nat.add_zero] at f0
        have c0 := (cells_at (heap_new wr (.cells #[.int .i64 e.1, .int .i64 e.2] 78)) 0).1
        have c1 := (cells_at (heap_new wr (.cells #[.int .i64 e.1, .int .i64 e.2] 78)) 1).1
        obtain ⟨ea, eb⟩ := e
        dsimp only at *
        clear hat he o1 hll
        go_upto_region 8 with fail
        generalize wr.alloc (.cells #[.int .i64 ea, .int .i64 eb] 78) = wz at *
        go_region
        generalize ((wz.setCell ⟨bd, k * 6, none⟩ (.int .i64 ea)).setCell ⟨bd, k * 6 + 1, none⟩ (.int .i64 eb)).drew = wy at *
        go_wp2_with fail
        go_roundw
        case rel => exact ⟨k + 1, by go_num, by omega, HN⟩
        case measure => simp [intOf]; omega
      · obtain rfl : k = m := by omega
        have j1 : ¬ (k : Int) < (k : Int) := by omega
        go_wp2_with fail
        go_ret2
        exact ⟨g, (bt, bd), rfl, HE.out _ HR.out⟩
end
end Go.Proofs.YtocmngpoemfpkaaGreatDoor

namespace Go.Proofs.YtocmngpoemfpkaaGreatDoor
open Go.ChangeShapes Go.WideShapes Go.ChangeAt Go.RowKit
set_option linter.unusedVariables false
theorem list_of {β : Type} (R : Nat → β → Prop) (len : Nat) (h : ∀ i, i < len → ∃ y, R i y) : ∃ ys : List β, ys.length = len ∧ ∀ (i : Nat) (y : β), ys[i]? = some y → R i y := by
  induction len with
  | zero => exact ⟨[], rfl, by simp⟩
  | succ m ih =>
    obtain ⟨ys, h1, h2⟩ := ih (fun i hi => h i (by omega))
    obtain ⟨y, hy⟩ := h m (by omega)
    refine ⟨ys ++ [y], by simp [h1], fun i u hu => ?_⟩
    rcases Nat.lt_or_ge i m with h' | h'
    · rw [List.getElem?_append_left (by omega)] at hu; exact h2 i u hu
    · rw [List.getElem?_append_right (by omega)] at hu
      have : i = m := by
        rcases Nat.lt_or_ge i (m + 1) with h'' | h''
        · omega
        · rw [List.getElem?_eq_none (by simp; omega)] at hu; cases hu
      subst this
      rw [h1] at hu
      simp at hu
      subst hu
      exact hy
section
variable {H : Type} {enc : TypeId × Value → H} {w : World} {base : Nat} {spare : Nat → Bool} {held : Bool} {fuel : Nat} {cs : List Value} {x : DataW H × List MemPlace}
theorem rd_of_trod {α : Type} (E : El Tryz.prog α) (Q : α → Prop) (hc : Tryz.prog.cellsOf E.e = E.k)
    (elem : ∀ (n : Nat) (cs : List Value) (y : DataW H × List MemPlace), DataW.trod enc Tryz.prog w base spare held n E.e cs = some y → ∃ x : α, cs = E.enc x ∧ Q x)
    {a : Option Addr} {len cap : Nat} (h : DataW.trod enc Tryz.prog w base spare held fuel E.t cs = some x) (hcs : cs = [.slice a len cap]) :
    ∃ xs : List α, xs.length = len ∧ E.Rd w (.slice a len cap) xs ∧ ∀ y ∈ xs, Q y := by
  rcases DataW.trod_slice E.ht h with ⟨h1, _⟩ | ⟨x0, len', cap', elems, rest, n, _, h1, _, _, hl, hcm, he, hr, _⟩
  · rw [hcs] at h1
    simp at h1
    obtain ⟨rfl, rfl, rfl⟩ := h1
    exact ⟨[], rfl, .inl ⟨rfl, rfl⟩, by simp⟩
  · rw [hcs] at h1
    simp at h1
    obtain ⟨rfl, rfl, rfl⟩ := h1
    rw [hc] at hr
    have one : ∀ i, i < len → ∃ y : α, Q y ∧ ∀ j, j < E.k → w.cell? ((x0.add (i * E.k)).add j) = (E.enc y)[j]? := by
      intro i hi
      have hi' : i < elems.length := by omega
      have h2 := hr i hi
      rw [List.getElem?_eq_getElem hi'] at h2
      obtain ⟨cs', h3, h4⟩ := Option.bind_eq_some_iff.1 h2
      obtain ⟨y, hy, hq⟩ := elem _ _ _ h4
      obtain ⟨_, _, h5⟩ := World.cells?_some h3
      subst hy
      exact ⟨y, hq, fun j hj => by rw [h5 j (by omega)]⟩
    obtain ⟨ys, hy1, hy2⟩ := list_of _ len one
    refine ⟨ys, hy1, .inr ⟨x0, cap, by rw [hy1], fun q hq => ?_⟩, fun y hy => ?_⟩
    · have hk := E.kpos
      have hpos : 0 < len := by
        rcases Nat.eq_zero_or_pos len with h0 | h0
        · rw [hy1, h0, Nat.zero_mul] at hq; omega
        · exact h0
      have hspot : x0.spot = none := by
        obtain ⟨y, _, z⟩ := one 0 hpos
        have z0 := z 0 hk
        have : (E.enc y)[0]? = some ((E.enc y)[0]'(by rw [E.len]; exact hk)) := List.getElem?_eq_getElem _
        rw [this] at z0
        simpa [Addr.add] using World.cell?_spot z0
      obtain ⟨b, off, spot⟩ := x0
      simp only at hspot
      subst hspot
      have hi : q / E.k < ys.length := (Nat.div_lt_iff_lt_mul hk).2 hq
      have hj : q % E.k < E.k := Nat.mod_lt _ hk
      have e : q / E.k * E.k + q % E.k = q := by rw [Nat.mul_comm]; exact Nat.div_add_mod q E.k
      have hx := hy2 (q / E.k) ys[q / E.k] (List.getElem?_eq_getElem hi)
      have := hx.2 (q % E.k) hj
      rw [addr_plain, addr_plain, Nat.add_assoc, e] at this
      have e5 := E.fl_at ys (q / E.k) (q % E.k) ys[q / E.k] (List.getElem?_eq_getElem hi) hj
      rw [e] at e5
      rw [addr_plain, this, e5]
    · obtain ⟨i, hi⟩ := List.mem_iff_getElem?.1 hy
      exact (hy2 i y hi).1
def I64 (x : Int) : Prop := -9223372036854775808 ≤ x ∧ x ≤ 9223372036854775807
theorem I64.wf {x : Int} (h : I64 x) : (Lit.int .i64 x).wf = true := by
  unfold I64 at h
  simp [Lit.wf, IntKind.min, IntKind.max, IntKind.bits, IntKind.signed]; omega
theorem I64.of {x : Int} (h : (Lit.int .i64 x).wf = true) : I64 x := by
  unfold I64
  simp [Lit.wf, IntKind.min, IntKind.max, IntKind.bits, IntKind.signed] at h; omega
end
theorem few (x : Int) (m : Int) (hm : 1 ≤ m ∧ m ≤ 100) : ∃ k : Nat, wrap64 ((IntKind.u64.wrap x).tmod m) = (k : Int) ∧ (k : Int) < m := by
  have h0 : 0 ≤ IntKind.u64.wrap x := by simp [IntKind.wrap, IntKind.bits, IntKind.signed]; omega
  have e : (IntKind.u64.wrap x).tmod m = IntKind.u64.wrap x % m := Int.tmod_eq_emod_of_nonneg h0
  rw [e]
  generalize IntKind.u64.wrap x = b at h0
  have h1 := Int.emod_nonneg b (show m ≠ 0 by omega)
  have h2 := Int.emod_lt_of_pos b (show 0 < m by omega)
  obtain ⟨k, hk⟩ := Int.eq_ofNat_of_zero_le h1
  refine ⟨k, ?_, by omega⟩
  rw [hk]
  unfold wrap64
  omega
end Go.Proofs.YtocmngpoemfpkaaGreatDoor

namespace Go.Proofs.YtocmngpoemfpkaaGreatDoor
open Go.ChangeShapes Go.WideShapes Go.ChangeAt Go.RowKit
set_option linter.unusedVariables false
section
variable {H : Type} {enc : TypeId × Value → H} {w : World} {base : Nat} {spare : Nat → Bool} {held : Bool} {fuel : Nat} {cs : List Value} {x : DataW H × List MemPlace}
set_option maxRecDepth 100000 in
theorem nd_of_trod (h : DataW.trod enc Tryz.prog w base spare held fuel 53 cs = some x) : ∃ y : Nd, cs = ndE.enc y ∧ y.name.size ≤ maxLen := by
  obtain ⟨xs, n, _, _, hl, hn, hf⟩ := DataW.trod_struct Tryz.underlying53 h
  rw [show Tryz.prog.cellsOf 53 = 3 by kernel_rfl] at hl
  have e9 : Tryz.prog.cellsOf 9 = 1 := by kernel_rfl
  have e3 : Tryz.prog.cellsOf 3 = 1 := by kernel_rfl
  have f0 : DataW.trod enc Tryz.prog w base spare held n 9 ((cs.drop 0).take (Tryz.prog.cellsOf 9)) = xs[0]? := hf 0 _ rfl
  have f1 : DataW.trod enc Tryz.prog w base spare held n 3 ((cs.drop 1).take (Tryz.prog.cellsOf 3)) = xs[1]? := hf 1 _ rfl
  have f2 : DataW.trod enc Tryz.prog w base spare held n 3 ((cs.drop 2).take (Tryz.prog.cellsOf 3)) = xs[2]? := hf 2 _ rfl
  rw [e9] at f0
  rw [e3] at f1 f2
  match xs, hn, cs, hl with
  | [y0, y1, y2], _, [c0, c1, c2], _ =>
    obtain ⟨s, e0, _, hs⟩ := DataW.trod_string Tryz.underlying9 f0
    obtain ⟨i1, e1, _, _⟩ := DataW.trod_int Tryz.underlying3 f1
    obtain ⟨i2, e2, _, _⟩ := DataW.trod_int Tryz.underlying3 f2
    simp at e0 e1 e2
    exact ⟨⟨s, i1, i2⟩, by simp [e0, e1, e2, ndE], hs⟩
set_option maxRecDepth 100000 in
theorem ed_of_trod (h : DataW.trod enc Tryz.prog w base spare held fuel 78 cs = some x) : ∃ y : Ed, cs = edE.enc y ∧ True := by
  obtain ⟨xs, n, _, _, hl, hn, hf⟩ := DataW.trod_array Tryz.underlying78 h
  have e3 : Tryz.prog.cellsOf 3 = 1 := by kernel_rfl
  rw [show Tryz.prog.cellsOf 78 = 2 by kernel_rfl] at hl
  have f0 := hf 0 (by omega)
  have f1 := hf 1 (by omega)
  rw [e3] at f0 f1
  match xs, hn, cs, hl with
  | [y0, y1], _, [c0, c1], _ =>
    obtain ⟨i1, e1, _, _⟩ := DataW.trod_int Tryz.underlying3 (show DataW.trod enc Tryz.prog w base spare held n 3 _ = some y0 from f0)
    obtain ⟨i2, e2, _, _⟩ := DataW.trod_int Tryz.underlying3 (show DataW.trod enc Tryz.prog w base spare held n 3 _ = some y1 from f1)
    simp at e1 e2
    exact ⟨(i1, i2), by simp [e1, e2, edE], trivial⟩
set_option maxRecDepth 100000 in
theorem layout_of_trod (h : DataW.trod enc Tryz.prog w base spare held fuel 25 cs = some x) : ∃ a c a' c' ns es, cs = [.slice a (ns : List Nd).length c, .slice a' (es : List Ed).length c'] ∧ ndE.Rd w (.slice a ns.length c) ns ∧ edE.Rd w (.slice a' es.length c') es ∧ ∀ n ∈ ns, n.name.size ≤ maxLen := by
  obtain ⟨xs, n, _, _, hl, hn, hf⟩ := DataW.trod_struct Tryz.underlying25 h
  rw [show Tryz.prog.cellsOf 25 = 2 by kernel_rfl] at hl
  have e22 : Tryz.prog.cellsOf 22 = 1 := by kernel_rfl
  have e23 : Tryz.prog.cellsOf 23 = 1 := by kernel_rfl
  have f0 : DataW.trod enc Tryz.prog w base spare held n 22 ((cs.drop 0).take (Tryz.prog.cellsOf 22)) = xs[0]? := hf 0 _ rfl
  have f1 : DataW.trod enc Tryz.prog w base spare held n 23 ((cs.drop 1).take (Tryz.prog.cellsOf 23)) = xs[1]? := hf 1 _ rfl
  rw [e22] at f0
  rw [e23] at f1
  match xs, hn, cs, hl with
  | [y0, y1], _, [c0, c1], _ =>
    have g0 : ∃ a len cap, c0 = .slice a len cap := by
      rcases DataW.trod_slice Tryz.underlying22 f0 with ⟨h1, _⟩ | ⟨x0, len', cap', _, _, _, _, h1, _⟩
      · simp at h1; exact ⟨_, _, _, h1⟩
      · simp at h1; exact ⟨_, _, _, h1⟩
    have g1 : ∃ a len cap, c1 = .slice a len cap := by
      rcases DataW.trod_slice Tryz.underlying23 f1 with ⟨h1, _⟩ | ⟨x0, len', cap', _, _, _, _, h1, _⟩
      · simp at h1; exact ⟨_, _, _, h1⟩
      · simp at h1; exact ⟨_, _, _, h1⟩
    obtain ⟨a, len, c, rfl⟩ := g0
    obtain ⟨a', len', c', rfl⟩ := g1
    obtain ⟨ns, hn1, hn2, hn3⟩ := rd_of_trod ndE (fun y => y.name.size ≤ maxLen) (by kernel_rfl) (fun n cs y hy => nd_of_trod hy) f0 rfl
    obtain ⟨es, he1, he2, _⟩ := rd_of_trod edE (fun _ => True) (by kernel_rfl) (fun n cs y hy => ed_of_trod hy) f1 rfl
    subst hn1
    subst he1
    exact ⟨a, c, a', c', ns, es, rfl, hn2, he2, hn3⟩
end
end Go.Proofs.YtocmngpoemfpkaaGreatDoor

namespace Go.Proofs.YtocmngpoemfpkaaGreatDoor
open Go.ChangeShapes Go.WideShapes Go.ChangeAt Go.RowKit
set_option linter.unusedVariables false
def ntE : El Tryz.prog Nt where
  t := 62
  e := 69
  k := 4
  by' := 32
  z := .agg #[.int .i64 0, .int .i64 0, .int .i64 0, .int .i64 0]
  enc x := [.int .i64 x.kind, .int .i64 x.a, .int .i64 x.b, .int .i64 x.c]
  ht := Tryz.underlying62
  info := by kernel_rfl
  zc := rfl
  kpos := by omega
  bsm := by omega
  len _ := rfl
  one x v hv := by simp at hv; rcases hv with rfl | rfl | rfl | rfl <;> rfl
theorem nt_at {w : World} {a : Option Addr} {n c : Nat} {xs : List Nt} (h : ntE.Rd w (.slice a n c) xs) (i : Nat) (p : Nt) (hp : xs[i]? = some p) : ∃ b off, a = some ⟨b, off, none⟩ ∧ w.cell? ⟨b, off + i * 4, none⟩ = some (.int .i64 p.kind) ∧ w.cell? ⟨b, off + i * 4 + 1, none⟩ = some (.int .i64 p.a) ∧ w.cell? ⟨b, off + i * 4 + 2, none⟩ = some (.int .i64 p.b) ∧ w.cell? ⟨b, off + i * 4 + 3, none⟩ = some (.int .i64 p.c) := by
  obtain ⟨b, off, e, hc⟩ := El.Rd.at h i p hp
  exact ⟨b, off, e, hc 0 (by decide), hc 1 (by decide), hc 2 (by decide), hc 3 (by decide)⟩
section
variable {H : Type} {enc : TypeId × Value → H} {w : World} {base : Nat} {spare : Nat → Bool} {held : Bool} {fuel : Nat} {cs : List Value} {x : DataW H × List MemPlace}
theorem lyt_of_trod (h : DataW.trod enc Tryz.prog w base spare held fuel 25 cs = some x) : ∃ a c a' c' ns es, cs = [.slice a (ns : List Nd).length c, .slice a' (es : List Ed).length c'] ∧ Lyt w a a' c c' ns.length es.length ns es := by
  obtain ⟨a, c, a', c', ns, es, hcs, h1, h2, h3⟩ := layout_of_trod h
  refine ⟨a, c, a', c', ns, es, hcs, rfl, rfl, h1, h2, ?_, h3⟩
  subst hcs
  obtain ⟨xs, n, _, _, hl, hn, hf⟩ := DataW.trod_struct Tryz.underlying25 h
  have e23 : Tryz.prog.cellsOf 23 = 1 := by kernel_rfl
  have f1 : DataW.trod enc Tryz.prog w base spare held n 23 (([Value.slice a ns.length c, Value.slice a' es.length c'].drop 1).take (Tryz.prog.cellsOf 23)) = xs[1]? := hf 1 _ rfl
  rw [e23] at f1
  match xs, hn with
  | [y0, y1], _ =>
    rcases DataW.trod_slice Tryz.underlying23 f1 with ⟨h1, _⟩ | ⟨x0, len', cap', _, _, _, _, h1, _, _, hl, _⟩
    · simp at h1
      rw [h1.2.1, h1.2.2]; exact Nat.le_refl _
    · simp at h1
      rw [h1.2.1, h1.2.2]; exact hl
end
theorem Its.box1 {w0 w : World} {l : List It} (h : Its w0 l w) (C : Array Value) (t : TypeId) : Its w0 (.box w.heap.size C t :: l) (w.alloc (.cells C t)) := h.new (x := .box w.heap.size C t) (heap_new _ _) (fun k hk => Nat.le_of_eq hk.symm) (below_new _ _)
end Go.Proofs.YtocmngpoemfpkaaGreatDoor

namespace Go.Proofs.YtocmngpoemfpkaaGreatDoor
open Go.ChangeShapes Go.WideShapes Go.ChangeAt Go.RowKit
set_option linter.unusedVariables false
def byE : El Tryz.prog Int where
  t := 58
  e := 5
  k := 1
  by' := 1
  z := .int .u8 0
  enc x := [.int .u8 x]
  ht := Tryz.underlying58
  info := by kernel_rfl
  zc := rfl
  kpos := by omega
  bsm := by omega
  len _ := rfl
  one x v hv := by simp at hv; subst hv; rfl
theorem by_at {w : World} {a : Option Addr} {n c : Nat} {xs : List Int} (h : byE.Rd w (.slice a n c) xs) (i : Nat) (p : Int) (hp : xs[i]? = some p) : ∃ b off, a = some ⟨b, off, none⟩ ∧ w.cell? ⟨b, off + i, none⟩ = some (.int .u8 p) := by
  obtain ⟨b, off, h1, h2⟩ := h.at i p hp
  refine ⟨b, off, h1, ?_⟩
  have := h2 0 (by show 0 < 1; omega)
  simpa [byE] using this
theorem by_some {w : World} {a : Option Addr} {n c : Nat} {xs : List Int} (h : byE.Rd w (.slice a n c) xs) (hne : xs ≠ []) : ∃ b off, a = some ⟨b, off, none⟩ ∧ ∀ i p, xs[i]? = some p → w.cell? ⟨b, off + i, none⟩ = some (.int .u8 p) := by
  cases xs with
  | nil => exact absurd rfl hne
  | cons z t =>
    obtain ⟨b, off, h1, _⟩ := by_at h 0 z rfl
    refine ⟨b, off, h1, fun i p hp => ?_⟩
    obtain ⟨b', off', h3, h4⟩ := by_at h i p hp
    rw [h1] at h3
    simp only [Option.some.injEq, Addr.mk.injEq] at h3
    obtain ⟨rfl, rfl, _⟩ := h3
    exact h4
theorem nt_new (w : World) (p : Nt) (g : Nat) (hg : g = w.heap.size) : ntE.Rd (w.alloc (.cells #[.int .i64 p.kind, .int .i64 p.a, .int .i64 p.b, .int .i64 p.c] 69)) (.slice (some ⟨g, 0, none⟩) 1 1) [p] :=
  (El.Own.new ntE w w.heap.size (Nat.le_refl _) _ [p] rfl (by simp) _ _ _ hg rfl rfl).rd
theorem by_new1 (w : World) (x : Int) (g : Nat) (hg : g = w.heap.size) : byE.Rd (w.alloc (.cells #[.int .u8 x] 5)) (.slice (some ⟨g, 0, none⟩) 1 1) [x] :=
  (El.Own.new byE w w.heap.size (Nat.le_refl _) _ [x] rfl (by simp) _ _ _ hg rfl rfl).rd
theorem by_new2 (w : World) (x y : Int) (g : Nat) (hg : g = w.heap.size) : byE.Rd (w.alloc (.cells #[.int .u8 x, .int .u8 y] 5)) (.slice (some ⟨g, 0, none⟩) 2 2) [x, y] :=
  (El.Own.new byE w w.heap.size (Nat.le_refl _) _ [x, y] rfl (by simp) _ _ _ hg rfl rfl).rd
theorem by_fl (xs : List Int) : byE.fl xs = xs.map (Value.int .u8) := fl_map byE _ (fun _ => rfl) xs
theorem sum_rd {w : World} {v : Value} {l : List Int} (h : byE.Rd w v l) (hr : InB l) (hm : l.length ≤ 140737488355328) :
    Calls Tryz.prog 146 #[v] w fun e w' => e = .returned (.int .u16 (uv (sm 0xFFFF#16 l))) ∧ w' = w := by
  obtain ⟨a, cap, rfl⟩ := h.form
  cases l with
  | nil => exact sum_nil _ _ _
  | cons z t =>
    obtain ⟨b, off, rfl, hc⟩ := by_some h (by simp)
    exact sum_at b off cap _ (z :: t) w rfl (fun i hi => by rw [hc i _ (List.getElem?_eq_getElem hi), List.getElem?_eq_getElem hi]; rfl) hr hm
def str (l : List Int) : ByteArray := l.foldl (fun r n => r.push (UInt8.ofNat n.toNat)) ByteArray.empty
theorem conv_str {w : World} {v : Value} {l : List Int} (h : byE.Rd w v l) : (convert 58 9 v).run Tryz.prog w = .ok (.string (str l)) w := by
  rcases h with ⟨rfl, rfl⟩ | ⟨x, cap, rfl, hc⟩
  · exact run_convert_bytes_nil (P := Tryz.prog) w 58 5 Tryz.underlying58 Tryz.underlying5 0 0 9 Tryz.underlying9
  · have hl : (loadCells x l.length).run Tryz.prog w = .ok (l.map (Value.int .u8)).toArray w := by
      have := run_loadCells_list (P := Tryz.prog) w x (l.map (Value.int .u8)) (fun j y hy => by
        have hj : j < l.length := by
          rcases Nat.lt_or_ge j l.length with h | h
          · exact h
          · simp [List.getElem?_eq_none h] at hy
        have := hc j (by show j < l.length * 1; omega)
        rw [this, by_fl]; simpa [hj] using hy)
      simpa using this
    rw [run_convert_bytes_string (P := Tryz.prog) w 58 9 5 _ _ _ Tryz.underlying58 Tryz.underlying5 Tryz.underlying9, run_bytesToString w x _ cap l hl]
    rfl
theorem box_at {w w' : World} {C : Array Value} {t : TypeId} (hb : Below (w.alloc (.cells C t)).heap.size (w.alloc (.cells C t)) w') (i : Nat) : w'.cell? ⟨w.heap.size, i, none⟩ = C[i]? := by
  rw [hb.cell (by simp)]; exact (cells_at (heap_new _ _) i).1
end Go.Proofs.YtocmngpoemfpkaaGreatDoor

namespace Go.Proofs.YtocmngpoemfpkaaGreatDoor
open Go.ChangeShapes Go.WideShapes Go.ChangeAt Go.RowKit
set_option linter.unusedVariables false
theorem us_cases (k : Int) : k = 1 ∨ k = 2 ∨ k = 3 ∨ k = 4 ∨ k = 5 ∨ k = 6 ∨ k = 7 ∨ k = 8 ∨ (us k = 0 ∧ ¬ k = 1 ∧ ¬ k = 2 ∧ ¬ k = 3 ∧ ¬ k = 4 ∧ ¬ k = 5 ∧ ¬ k = 6 ∧ ¬ k = 7 ∧ ¬ k = 8) := by
  by_cases h : 1 ≤ k ∧ k ≤ 8
  · omega
  · have h1 : ¬ k = 1 := by omega
    have h2 : ¬ k = 2 := by omega
    have h3 : ¬ k = 3 := by omega
    have h4 : ¬ k = 4 := by omega
    have h5 : ¬ k = 5 := by omega
    have h6 : ¬ k = 6 := by omega
    have h7 : ¬ k = 7 := by omega
    have h8 : ¬ k = 8 := by omega
    simp [us, h1, h2, h3, h4, h5, h6, h7, h8]
theorem uses_any (k : Int) (w : World) : Calls Tryz.prog 185 #[.int .i64 k] w fun e w' => e = .returned (.int .i64 (us k)) ∧ w' = w := by
  rcases us_cases k with rfl | rfl | rfl | rfl | rfl | rfl | rfl | rfl | ⟨hu, h1, h2, h3, h4, h5, h6, h7, h8⟩
  · go_enter Tryz.func185, Tryz.ntmps185
    go_wp2
    go_ret
    exact ⟨rfl, rfl⟩
  · go_enter Tryz.func185, Tryz.ntmps185
    go_wp2
    go_ret
    exact ⟨rfl, rfl⟩
  · go_enter Tryz.func185, Tryz.ntmps185
    go_wp2
    go_ret
    exact ⟨rfl, rfl⟩
  · go_enter Tryz.func185, Tryz.ntmps185
    go_wp2
    go_ret
    exact ⟨rfl, rfl⟩
  · go_enter Tryz.func185, Tryz.ntmps185
    go_wp2
    go_ret
    exact ⟨rfl, rfl⟩
  · go_enter Tryz.func185, Tryz.ntmps185
    go_wp2
    go_ret
    exact ⟨rfl, rfl⟩
  · go_enter Tryz.func185, Tryz.ntmps185
    go_wp2
    go_ret
    exact ⟨rfl, rfl⟩
  · go_enter Tryz.func185, Tryz.ntmps185
    go_wp2
    go_ret
    exact ⟨rfl, rfl⟩
  · rw [hu]
    clear hu
    go_enter Tryz.func185, Tryz.ntmps185
    go_wp2
    go_ret
    exact ⟨rfl, rfl⟩
theorem below_put4 {B : Nat} {a w : World} (h : Below B a w) (g : Nat) (hg : B ≤ g) (u0 u1 u2 u3 : Value) : Below B a ((((w.setCell ⟨g, 0, none⟩ u0).setCell ⟨g, 1, none⟩ u1).setCell ⟨g, 2, none⟩ u2).setCell ⟨g, 3, none⟩ u3) :=
  (((h.setCell hg _).setCell hg _).setCell hg _).setCell hg _
theorem numbers_any (k a b c : Int) (w : World) : Calls Tryz.prog 184 #[.agg #[.int .i64 k, .int .i64 a, .int .i64 b, .int .i64 c]] w fun e w' => e = .returned (.agg #[.int .i64 a, .int .i64 b, .int .i64 c]) ∧ Below w.heap.size w w' := by
  go_enter Tryz.func184, Tryz.ntmps184
  go_wp2_with fail
  refine bodyPost_ret (v := .agg #[.int .i64 a, .int .i64 b, .int .i64 c]) (by simp [results, Tryz.results184, go_sem]) rfl ⟨rfl, ?_⟩
  exact (below_new w _).alloc (by simp) _
theorem okF_no {u i : Nat} {x : Int} (h : okF u i x = false) : x < 0 ∨ (0 ≤ x ∧ 2147483647 < x) ∨ (0 ≤ x ∧ x ≤ 2147483647 ∧ u ≤ i ∧ x ≠ 0) := by
  unfold okF at h
  rw [decide_eq_false_iff_not] at h
  by_cases h0 : 0 ≤ x
  · by_cases h1 : x ≤ 2147483647
    · refine .inr (.inr ⟨h0, h1, ?_⟩)
      by_cases h2 : u ≤ i
      · exact ⟨h2, fun e => h ⟨h0, h1, fun _ => e⟩⟩
      · exact absurd ⟨h0, h1, fun q => absurd q h2⟩ h
    · exact .inr (.inl ⟨h0, by omega⟩)
  · exact .inl (by omega)
theorem okF_yes {u i : Nat} {x : Int} (h : okF u i x = true) : 0 ≤ x ∧ x ≤ 2147483647 ∧ (i < u ∨ (u ≤ i ∧ x = 0)) := by
  unfold okF at h
  rw [decide_eq_true_eq] at h
  refine ⟨h.1, h.2.1, ?_⟩
  rcases Nat.lt_or_ge i u with q | q
  · exact .inl q
  · exact .inr ⟨q, h.2.2 q⟩
def Nt.code (n : Nt) : Int := if n.ok then 0 else 180
theorem code_no {n : Nt} (h : n.ok = false) : n.code = 180 := by simp [Nt.code, h]
theorem code_yes {n : Nt} (h : n.ok = true) : n.code = 0 := by simp [Nt.code, h]
theorem ok_parts (k a b c : Int) : (Nt.mk k a b c).ok = (decide (0 < us k) && okF (us k) 0 a && okF (us k) 1 b && okF (us k) 2 c && decide (k = 8 → b ≤ 1)) := rfl
set_option maxHeartbeats 4000000 in
theorem ncheck_any (k a b c : Int) (w : World) : Calls Tryz.prog 183 #[.agg #[.int .i64 k, .int .i64 a, .int .i64 b, .int .i64 c]] w fun e w' => e = .returned (.int .i64 (Nt.mk k a b c).code) ∧ Below w.heap.size w w' := by
  have hok := ok_parts k a b c
  obtain ⟨r, hr⟩ : ∃ r, (Nt.mk k a b c).code = r := ⟨_, rfl⟩
  rw [hr]
  have Hn : Hid ((Nt.mk k a b c).ok = false → r = 180) := hide (fun h => by rw [← hr]; exact code_no h)
  have Hy : Hid ((Nt.mk k a b c).ok = true → r = 0) := hide (fun h => by rw [← hr]; exact code_yes h)
  clear hr
  have Hok := hide hok
  clear hok
  have k22 : ∀ W, Calls Tryz.prog 185 #[.int .i64 k] W fun e w' => e = .returned (.int .i64 (us k)) ∧ w' = W := uses_any k
  have hu3 := us_le k
  obtain ⟨u, hu⟩ : ∃ u, us k = u := ⟨_, rfl⟩
  rw [hu] at k22 hu3 Hok
  clear hu
  have K22 := hide k22
  have K21 := hide (numbers_any k a b c)
  clear k22
  have Hw := hide (below_new w (.cells #[.int .i64 k, .int .i64 a, .int .i64 b, .int .i64 c] 69))
  by_cases h0 : u = 0
  · have Hr : Hid (r = 180) := hide (Hn.out (by rw [Hok.out, h0]; rfl))
    have e0 : ((u : Int) == 0) = true := by rw [h0]; rfl
    clear hu3 Hn Hy Hok h0
    go_enter Tryz.func183, Tryz.ntmps183
    go_wp2_with (go_at_call 185; refine (K22.out _).mono ?_; rintro e w1 ⟨rfl, rfl⟩)
    go_ret
    exact ⟨by have h := Hr.out; subst h; rfl, Hw.out⟩
  · have e0 : ((u : Int) == 0) = false := by rw [beq_eq_false_iff_ne]; omega
    have Hp : Hid (decide (0 < u) = true) := hide (by rw [decide_eq_true_eq]; omega)
    have Hu0 := hide h0
    clear h0
    go_enter Tryz.func183, Tryz.ntmps183
    go_wp2_with (first | (go_at_call 185; refine (K22.out _).mono ?_; rintro e w1 ⟨rfl, rfl⟩) | (go_at_call 184; refine (K21.out _).mono ?_; rintro e w2 ⟨rfl, hb2⟩))
    have Hb := hide (Hw.out.trans (hb2.mono Hw.out.size))
    have p0 : w2.cell? ⟨w.heap.size, 0, none⟩ = some (.int .i64 k) := box_at hb2 0
    have p2 : w2.cell? ⟨w.heap.size, 2, none⟩ = some (.int .i64 b) := box_at hb2 2
    clear hb2 Hw
    go_loop [13] (fun i => Hid ((i = .int .i64 0) ∨ (i = .int .i64 1 ∧ okF u 0 a = true) ∨ (i = .int .i64 2 ∧ okF u 0 a = true ∧ okF u 1 b = true) ∨ (i = .int .i64 3 ∧ okF u 0 a = true ∧ okF u 1 b = true ∧ okF u 2 c = true))) (fun i => 3 - (intOf i).toNat)
    case atStart => exact hide (.inl rfl)
    case round =>
      rcases hrel.out with rfl | ⟨rfl, a0⟩ | ⟨rfl, a0, a1⟩ | ⟨rfl, a0, a1, a2⟩
      · have q : ∀ w : World, (Instr.index 249 (.agg #[.int .i64 a, .int .i64 b, .int .i64 c]) (.int .i64 0)).run Tryz.prog w = .ok (.int .i64 a) w := fun _ => by kernel_rfl
        clear hrel
        cases a0 : okF u 0 a
        · have Hr : Hid (r = 180) := hide (Hn.out (by rw [Hok.out, Hp.out, a0]; simp))
          rcases okF_no a0 with h | ⟨h, h'⟩ | ⟨h, h', h2, h3⟩
          · clear a0
            go_wp2_with fail
            go_ret
            exact ⟨by have h := Hr.out; subst h; rfl, Hb.out⟩
          · clear a0
            go_wp2_with fail
            go_ret
            exact ⟨by have h := Hr.out; subst h; rfl, Hb.out⟩
          · exact absurd (Nat.le_zero.1 h2) Hu0.out
        · have Ha0 := hide a0
          obtain ⟨h, h', h2⟩ := okF_yes a0
          clear a0
          rcases h2 with h2 | ⟨h2, rfl⟩
          · have h4 : ¬ (u : Int) ≤ 0 := by omega
            go_wp2_with fail
            go_round
            case rel => exact hide (.inr (.inl ⟨rfl, (by first | exact Ha0.out | trivial)⟩))
            case measure => simp [intOf]
          · exact absurd (Nat.le_zero.1 h2) Hu0.out
      · have q : ∀ w : World, (Instr.index 249 (.agg #[.int .i64 a, .int .i64 b, .int .i64 c]) (.int .i64 1)).run Tryz.prog w = .ok (.int .i64 b) w := fun _ => by kernel_rfl
        clear hrel
        have a0 := hide a0
        cases a1 : okF u 1 b
        · have Hr : Hid (r = 180) := hide (Hn.out (by rw [Hok.out, Hp.out, a0.out, a1]; simp))
          rcases okF_no a1 with h | ⟨h, h'⟩ | ⟨h, h', h2, h3⟩
          · clear a1
            go_wp2_with fail
            go_ret
            exact ⟨by have h := Hr.out; subst h; rfl, Hb.out⟩
          · clear a1
            go_wp2_with fail
            go_ret
            exact ⟨by have h := Hr.out; subst h; rfl, Hb.out⟩
          · have h4 : (u : Int) ≤ 1 := by omega
            have h5 : (b != 0) = true := by simpa using h3
            clear a1
            go_wp2_with fail
            go_ret
            exact ⟨by have h := Hr.out; subst h; rfl, Hb.out⟩
        · have Ha1 := hide a1
          obtain ⟨h, h', h2⟩ := okF_yes a1
          clear a1
          rcases h2 with h2 | ⟨h2, rfl⟩
          · have h4 : ¬ (u : Int) ≤ 1 := by omega
            go_wp2_with fail
            go_round
            case rel => exact hide (.inr (.inr (.inl ⟨rfl, a0.out, (by first | exact Ha1.out | trivial)⟩)))
            case measure => simp [intOf]
          · have h4 : (u : Int) ≤ 1 := by omega
            go_wp2_with fail
            go_round
            case rel => exact hide (.inr (.inr (.inl ⟨rfl, a0.out, (by first | exact Ha1.out | trivial)⟩)))
            case measure => simp [intOf]
      · have q : ∀ w : World, (Instr.index 249 (.agg #[.int .i64 a, .int .i64 b, .int .i64 c]) (.int .i64 2)).run Tryz.prog w = .ok (.int .i64 c) w := fun _ => by kernel_rfl
        clear hrel
        have a0 := hide a0
        have a1 := hide a1
        cases a2 : okF u 2 c
        · have Hr : Hid (r = 180) := hide (Hn.out (by rw [Hok.out, Hp.out, a0.out, a1.out, a2]; simp))
          rcases okF_no a2 with h | ⟨h, h'⟩ | ⟨h, h', h2, h3⟩
          · clear a2
            go_wp2_with fail
            go_ret
            exact ⟨by have h := Hr.out; subst h; rfl, Hb.out⟩
          · clear a2
            go_wp2_with fail
            go_ret
            exact ⟨by have h := Hr.out; subst h; rfl, Hb.out⟩
          · have h4 : (u : Int) ≤ 2 := by omega
            have h5 : (c != 0) = true := by simpa using h3
            clear a2
            go_wp2_with fail
            go_ret
            exact ⟨by have h := Hr.out; subst h; rfl, Hb.out⟩
        · have Ha2 := hide a2
          obtain ⟨h, h', h2⟩ := okF_yes a2
          clear a2
          rcases h2 with h2 | ⟨h2, rfl⟩
          · have h4 : ¬ (u : Int) ≤ 2 := by omega
            go_wp2_with fail
            go_round
            case rel => exact hide (.inr (.inr (.inr (⟨rfl, a0.out, a1.out, (by first | exact Ha2.out | trivial)⟩))))
            case measure => simp [intOf]
          · have h4 : (u : Int) ≤ 2 := by omega
            go_wp2_with fail
            go_round
            case rel => exact hide (.inr (.inr (.inr (⟨rfl, a0.out, a1.out, (by first | exact Ha2.out | trivial)⟩))))
            case measure => simp [intOf]
      · clear hrel
        have a0 := hide a0
        have a1 := hide a1
        have a2 := hide a2
        by_cases h8 : k = 8
        · subst h8
          by_cases h1 : b ≤ 1
          · have Hr : Hid (r = 0) := hide (Hy.out (by rw [Hok.out, Hp.out, a0.out, a1.out, a2.out]; simp [h1]))
            go_wp2_with fail
            go_ret
            exact ⟨by have h := Hr.out; subst h; rfl, Hb.out⟩
          · have Hr : Hid (r = 180) := hide (Hn.out (by rw [Hok.out, Hp.out, a0.out, a1.out, a2.out]; simp; omega))
            go_wp2_with fail
            go_ret
            exact ⟨by have h := Hr.out; subst h; rfl, Hb.out⟩
        · have Hr : Hid (r = 0) := hide (Hy.out (by rw [Hok.out, Hp.out, a0.out, a1.out, a2.out]; simp [h8]))
          have h9 : (k == 8) = false := by simpa using h8
          go_wp2_with fail
          go_ret
          exact ⟨by have h := Hr.out; subst h; rfl, Hb.out⟩
end Go.Proofs.YtocmngpoemfpkaaGreatDoor

namespace Go.Proofs.YtocmngpoemfpkaaGreatDoor
open Go.ChangeShapes Go.WideShapes Go.ChangeAt Go.RowKit
set_option linter.unusedVariables false
theorem numI_low {x : Int} (h : x < 128) (h0 : 0 ≤ x) : num x.toNat = [x] := by rw [num_low (by omega)]; congr 1; omega
theorem numI_high {x : Int} (h : 128 ≤ x) : num x.toNat = (x % 128 + 128) :: num (x / 128).toNat := by
  rw [num_high (by omega)]
  have e : (x / 128).toNat = x.toNat / 128 := by omega
  rw [e]
  congr 1
  omega
set_option maxHeartbeats 1000000 in
theorem appn_any (v : Value) (l : List Int) (x : Int) (hx : 0 ≤ x ∧ x < 34359738368) (w w0 : World) (hb : Below w0.heap.size w0 w) (hown : byE.Own w w0.heap.size v l) (hm : l.length ≤ 1000) :
    Calls Tryz.prog 186 #[v, .int .i64 x] w fun e w' => ∃ v', e = .returned v' ∧ byE.Own w' w0.heap.size v' (l ++ num x.toNat) ∧ Below w0.heap.size w0 w' := by
  obtain ⟨L, hL⟩ : ∃ L, l ++ num x.toNat = L := ⟨_, rfl⟩
  have HL : Hid (L.length ≤ 1005) := hide (by rw [← hL, List.length_append]; have := num_five (v := x.toNat) (by omega); omega)
  rw [hL]
  have H0 := hide (show ∃ l', byE.Own w w0.heap.size v l' ∧ l' ++ num x.toNat = L from ⟨l, hown, hL⟩)
  have Hb := hide hb
  have Hx := hide hx
  clear hL hown hm hb hx
  go_enter Tryz.func186, Tryz.ntmps186
  go_wp2_with fail
  go_loopw [0, 1] (fun u y wr => Hid (∃ (z : Int) (l' : List Int), y = .int .i64 z ∧ 0 ≤ z ∧ z < 34359738368 ∧ byE.Own wr w0.heap.size u l' ∧ l' ++ num z.toNat = L ∧ Below w0.heap.size w0 wr)) (fun _ y _ => (intOf y).toNat)
  case atStart =>
    obtain ⟨l', h1, h2⟩ := H0.out
    exact hide ⟨x, l', rfl, Hx.out.1, Hx.out.2, h1, h2, Hb.out⟩
  case round =>
    obtain ⟨z, l', rfl, z0, z1, ho, hL, hb⟩ := hrel.out
    clear hrel H0 Hb Hx
    have hll : l'.length + 1 ≤ 1000000 := by
      have := HL.out
      rw [← hL, List.length_append] at this
      omega
    have Hll := hide hll
    clear hll
    by_cases h : 128 ≤ z
    · have hn := hide (numI_high h)
      have HL2 := hide hL
      clear hL
      go_wp2_with (at_builtin; refine byE.wp (hb.alloc hb.size _) (by rfl) _ _ rfl _ _ rfl rfl l' [_] (ho.keep (below_new _ _)) (by_new1 _ _ _ rfl) Hll.out ?_; intro v1 w1 hown1 hg1 hs1 hb1; refine Hid.out ?_)
      refine hide ?_
      clear hg1 hs1
      go_wp2_with fail
      go_roundw
      case rel => exact hide ⟨z / 128, _, rfl, by omega, by omega, hown1, by rw [← HL2.out, hn.out, List.append_assoc]; rfl, hb1⟩
      case measure => simp [intOf]; omega
    · have hn := hide (numI_low (show z < 128 by omega) z0)
      have HL2 := hide hL
      clear hL
      go_wp2_with (at_builtin; refine byE.wp (hb.alloc hb.size _) (by rfl) _ _ rfl _ _ rfl rfl l' [_] (ho.keep (below_new _ _)) (by_new1 _ _ _ rfl) Hll.out ?_; intro v1 w1 hown1 hg1 hs1 hb1; refine Hid.out ?_)
      refine hide ?_
      clear hg1 hs1
      go_wp2_with fail
      go_ret
      exact ⟨_, rfl, by rw [← HL2.out, hn.out]; exact hown1, hb1⟩
end Go.Proofs.YtocmngpoemfpkaaGreatDoor

namespace Go.Proofs.YtocmngpoemfpkaaGreatDoor
open Go.ChangeShapes Go.WideShapes Go.ChangeAt Go.RowKit
set_option linter.unusedVariables false
set_option maxHeartbeats 4000000 in
theorem number_any {w : World} {v : Value} {l : List Int} (h : byE.Rd w v l) (hr : InB l) (hm : l.length ≤ 1000000) :
    Calls Tryz.prog 242 #[v] w fun e w' => ∃ x s, e = .returned (.tuple #[.int .i64 x, .int .i64 s]) ∧ NumP l x s ∧ w' = w := by
  obtain ⟨a, cap, rfl⟩ := h.form
  obtain ⟨N, hN⟩ : ∃ N, l.length = N := ⟨_, rfl⟩
  rw [hN] at hm h ⊢
  have HN := hide hN
  have H := hide h
  have Hr := hide hr
  clear hN h hr
  go_enter Tryz.func242, Tryz.ntmps242
  go_upto_region 2 with fail
  go_cut [8, 9] (fun m i wx => wx = w ∧ i = .int .i64 0 ∧ ∃ M : Nat, m = .int .i64 M ∧ M ≤ 5 ∧ M ≤ N ∧ Hid (M = N ∨ M = 5))
  case first =>
    by_cases q : 5 < N
    · have q' : (5 : Int) < N := by omega
      go_wp2_with fail
      go_meet
      exact ⟨by first | rfl | trivial, by first | rfl | trivial, 5, rfl, by omega, by omega, hide (.inr rfl)⟩
    · have q' : ¬ (5 : Int) < N := by omega
      go_wp2_with fail
      go_meet
      exact ⟨by first | rfl | trivial, by first | rfl | trivial, N, rfl, by omega, by omega, hide (.inl rfl)⟩
  case rest =>
  obtain ⟨rfl, rfl, M, rfl, hM5, hMN, HMe⟩ := hcut
  go_wp2_with fail
  go_loop [4, 9] (fun x i => Hid (∃ n : Nat, n ≤ M ∧ i = .int .i64 n ∧ x = .int .i64 (val (l.take n) : Int) ∧ ∀ y ∈ l.take n, 128 ≤ y)) (fun _ i => 5 - (intOf i).toNat)
  case atStart => exact hide ⟨0, Nat.zero_le _, rfl, rfl, by simp⟩
  case round =>
    obtain ⟨n, hn, rfl, rfl, hp⟩ := hrel.out
    have Hp := hide hp
    clear hrel hp
    by_cases hlt : n < M
    · obtain ⟨z, hz⟩ : ∃ z, l[n]? = some z := ⟨_, List.getElem?_eq_getElem (by rw [HN.out]; omega)⟩
      have hz2 := Hr.out.at hz
      obtain ⟨z0, z1⟩ := hz2
      obtain ⟨b, off, rfl, hcell⟩ := by_at H.out n z hz
      have hv := val_more hz (by rw [HN.out]; omega)
      have hX := val_lt (l.take n)
      have hlen : (l.take n).length = n := by rw [List.length_take, HN.out]; omega
      rw [hlen] at hX
      obtain ⟨X, hXe⟩ : ∃ X, val (l.take n) = X := ⟨_, rfl⟩
      rw [hXe] at hv hX ⊢
      have Hv := hide hv
      have Hz := hide hz
      have HX := hide hX
      have HXe := hide hXe
      clear hv hz hX hXe hlen HMe
      have h5 : n = 0 ∨ n = 1 ∨ n = 2 ∨ n = 3 ∨ n = 4 := by omega
      rcases h5 with rfl | rfl | rfl | rfl | rfl
      · have hlt' : (0 : Int) < M := by omega
        have hltN : (0 : Int) < N := by omega
        have eo : bits .or .i64 (X : Int) (z % 128 * 1) = (X : Int) + z % 128 * 1 := by
          obtain ⟨d, hd⟩ := Int.eq_ofNat_of_zero_le (Int.emod_nonneg z (show (128 : Int) ≠ 0 by omega))
          have hd2 := Int.emod_lt_of_pos z (show (0 : Int) < 128 by omega)
          rw [hd] at hd2 ⊢
          have hx := HX.out
          have := or_add X d 0 (by simpa using hx) (by simp; omega) (by omega)
          simpa using this
        rw [Nat.add_zero] at hcell
        rw [Int.mul_one] at eo
        have Hpn := hide (fun h => take_more Hp.out Hz.out h)
        have HV : Hid ((X : Int) + z % 128 = (val (l.take (0 + 1)) : Int)) := hide (by rw [Hv.out]; simp)
        by_cases h128 : 128 ≤ z
        · go_wp2_with fail
          go_round
          case rel => exact hide ⟨1, by omega, by go_num, by rw [← HV.out], Hpn.out h128⟩
          case measure => simp [intOf]
        · have HP := hide (numP_yes Hr.out (by omega) Hp.out Hz.out (by omega) (by simp) (by rw [HN.out]; omega))
          by_cases hz0 : z = 0
          · subst hz0
            have e2 : bits .or .i64 (X : Int) 0 = (X : Int) := by simpa using eo
            go_wp2_with fail
            go_ret2
            exact ⟨_, _, rfl, by have := HP.out; rw [← HV.out] at this; simpa [e2] using this, rfl⟩
          · have hzb : (z == 0) = false := by simpa using hz0
            go_wp2_with fail
            go_ret2
            exact ⟨_, _, rfl, by have := HP.out; rw [← HV.out] at this; simpa using this, rfl⟩
      · have hlt' : (1 : Int) < M := by omega
        have hltN : (1 : Int) < N := by omega
        have eo : bits .or .i64 (X : Int) (z % 128 * 128) = (X : Int) + z % 128 * 128 := by
          obtain ⟨d, hd⟩ := Int.eq_ofNat_of_zero_le (Int.emod_nonneg z (show (128 : Int) ≠ 0 by omega))
          have hd2 := Int.emod_lt_of_pos z (show (0 : Int) < 128 by omega)
          rw [hd] at hd2 ⊢
          have hx := HX.out
          have := or_add X d 7 (by simpa using hx) (by simp; omega) (by omega)
          simpa using this
        have Hpn := hide (fun h => take_more Hp.out Hz.out h)
        have HV : Hid ((X : Int) + z % 128 * 128 = (val (l.take (1 + 1)) : Int)) := hide (by rw [Hv.out]; simp)
        by_cases h128 : 128 ≤ z
        · go_wp2_with fail
          go_round
          case rel => exact hide ⟨2, by omega, by go_num, by rw [← HV.out], Hpn.out h128⟩
          case measure => simp [intOf]
        · by_cases hz0 : z = 0
          · have HP : Hid (NumP l 0 0) := hide (numP_zero (i := 1) (by omega) Hp.out (by rw [← hz0]; exact Hz.out))
            subst hz0
            go_wp2_with fail
            go_ret2
            exact ⟨_, _, rfl, HP.out, rfl⟩
          · have HP := hide (numP_yes Hr.out (by omega) Hp.out Hz.out (by omega) (fun _ => hz0) (by rw [HN.out]; omega))
            have hzb : (z == 0) = false := by simpa using hz0
            go_wp2_with fail
            go_ret2
            exact ⟨_, _, rfl, by have := HP.out; rw [← HV.out] at this; simpa using this, rfl⟩
      · have hlt' : (2 : Int) < M := by omega
        have hltN : (2 : Int) < N := by omega
        have eo : bits .or .i64 (X : Int) (z % 128 * 16384) = (X : Int) + z % 128 * 16384 := by
          obtain ⟨d, hd⟩ := Int.eq_ofNat_of_zero_le (Int.emod_nonneg z (show (128 : Int) ≠ 0 by omega))
          have hd2 := Int.emod_lt_of_pos z (show (0 : Int) < 128 by omega)
          rw [hd] at hd2 ⊢
          have hx := HX.out
          have := or_add X d 14 (by simpa using hx) (by simp; omega) (by omega)
          simpa using this
        have Hpn := hide (fun h => take_more Hp.out Hz.out h)
        have HV : Hid ((X : Int) + z % 128 * 16384 = (val (l.take (2 + 1)) : Int)) := hide (by rw [Hv.out]; simp)
        by_cases h128 : 128 ≤ z
        · go_wp2_with fail
          go_round
          case rel => exact hide ⟨3, by omega, by go_num, by rw [← HV.out], Hpn.out h128⟩
          case measure => simp [intOf]
        · by_cases hz0 : z = 0
          · have HP : Hid (NumP l 0 0) := hide (numP_zero (i := 2) (by omega) Hp.out (by rw [← hz0]; exact Hz.out))
            subst hz0
            go_wp2_with fail
            go_ret2
            exact ⟨_, _, rfl, HP.out, rfl⟩
          · have HP := hide (numP_yes Hr.out (by omega) Hp.out Hz.out (by omega) (fun _ => hz0) (by rw [HN.out]; omega))
            have hzb : (z == 0) = false := by simpa using hz0
            go_wp2_with fail
            go_ret2
            exact ⟨_, _, rfl, by have := HP.out; rw [← HV.out] at this; simpa using this, rfl⟩
      · have hlt' : (3 : Int) < M := by omega
        have hltN : (3 : Int) < N := by omega
        have eo : bits .or .i64 (X : Int) (z % 128 * 2097152) = (X : Int) + z % 128 * 2097152 := by
          obtain ⟨d, hd⟩ := Int.eq_ofNat_of_zero_le (Int.emod_nonneg z (show (128 : Int) ≠ 0 by omega))
          have hd2 := Int.emod_lt_of_pos z (show (0 : Int) < 128 by omega)
          rw [hd] at hd2 ⊢
          have hx := HX.out
          have := or_add X d 21 (by simpa using hx) (by simp; omega) (by omega)
          simpa using this
        have Hpn := hide (fun h => take_more Hp.out Hz.out h)
        have HV : Hid ((X : Int) + z % 128 * 2097152 = (val (l.take (3 + 1)) : Int)) := hide (by rw [Hv.out]; simp)
        by_cases h128 : 128 ≤ z
        · go_wp2_with fail
          go_round
          case rel => exact hide ⟨4, by omega, by go_num, by rw [← HV.out], Hpn.out h128⟩
          case measure => simp [intOf]
        · by_cases hz0 : z = 0
          · have HP : Hid (NumP l 0 0) := hide (numP_zero (i := 3) (by omega) Hp.out (by rw [← hz0]; exact Hz.out))
            subst hz0
            go_wp2_with fail
            go_ret2
            exact ⟨_, _, rfl, HP.out, rfl⟩
          · have HP := hide (numP_yes Hr.out (by omega) Hp.out Hz.out (by omega) (fun _ => hz0) (by rw [HN.out]; omega))
            have hzb : (z == 0) = false := by simpa using hz0
            go_wp2_with fail
            go_ret2
            exact ⟨_, _, rfl, by have := HP.out; rw [← HV.out] at this; simpa using this, rfl⟩
      · have hlt' : (4 : Int) < M := by omega
        have hltN : (4 : Int) < N := by omega
        have eo : bits .or .i64 (X : Int) (z % 128 * 268435456) = (X : Int) + z % 128 * 268435456 := by
          obtain ⟨d, hd⟩ := Int.eq_ofNat_of_zero_le (Int.emod_nonneg z (show (128 : Int) ≠ 0 by omega))
          have hd2 := Int.emod_lt_of_pos z (show (0 : Int) < 128 by omega)
          rw [hd] at hd2 ⊢
          have hx := HX.out
          have := or_add X d 28 (by simpa using hx) (by simp; omega) (by omega)
          simpa using this
        have Hpn := hide (fun h => take_more Hp.out Hz.out h)
        have HV : Hid ((X : Int) + z % 128 * 268435456 = (val (l.take (4 + 1)) : Int)) := hide (by rw [Hv.out]; simp)
        by_cases h128 : 128 ≤ z
        · go_wp2_with fail
          go_round
          case rel => exact hide ⟨5, by omega, by go_num, by rw [← HV.out], Hpn.out h128⟩
          case measure => simp [intOf]
        · by_cases hz0 : z = 0
          · have HP : Hid (NumP l 0 0) := hide (numP_zero (i := 4) (by omega) Hp.out (by rw [← hz0]; exact Hz.out))
            subst hz0
            go_wp2_with fail
            go_ret2
            exact ⟨_, _, rfl, HP.out, rfl⟩
          · have HP := hide (numP_yes Hr.out (by omega) Hp.out Hz.out (by omega) (fun _ => hz0) (by rw [HN.out]; omega))
            have hzb : (z == 0) = false := by simpa using hz0
            go_wp2_with fail
            go_ret2
            exact ⟨_, _, rfl, by have := HP.out; rw [← HV.out] at this; simpa using this, rfl⟩
    · have HP : Hid (NumP l 0 0) := hide (numP_none (i := n) (by rw [HN.out]; have := HMe.out; omega) Hp.out)
      have hlt' : ¬ (n : Int) < M := by omega
      go_wp2_with fail
      go_ret2
      exact ⟨_, _, rfl, HP.out, rfl⟩
end Go.Proofs.YtocmngpoemfpkaaGreatDoor

namespace Go.Proofs.YtocmngpoemfpkaaGreatDoor
open Go.ChangeShapes Go.WideShapes Go.ChangeAt Go.RowKit
set_option linter.unusedVariables false
def Sl (w : World) (a : Option Addr) (n c : Nat) (l : List Int) : Prop := byE.Rd w (.slice a n c) l ∧ l.length = n ∧ n ≤ c
theorem Sl.rd {w : World} {a : Option Addr} {n c : Nat} {l : List Int} (h : Sl w a n c l) : byE.Rd w (.slice a n c) l := h.1
theorem Sl.len {w : World} {a : Option Addr} {n c : Nat} {l : List Int} (h : Sl w a n c l) : l.length = n := h.2.1
theorem Sl.cap {w : World} {a : Option Addr} {n c : Nat} {l : List Int} (h : Sl w a n c l) : n ≤ c := h.2.2
theorem Sl.keep {w w' : World} {a : Option Addr} {n c : Nat} {l : List Int} (h : Sl w a n c l) (hb : Below w.heap.size w w') : Sl w' a n c l := ⟨h.1.keep hb, h.2⟩
theorem Sl.own {w : World} {B : Nat} {v : Value} {l : List Int} (h : byE.Own w B v l) : ∃ a c, v = .slice a l.length c ∧ Sl w a l.length c l := by
  obtain ⟨a, c, e⟩ := h.rd.form
  refine ⟨a, c, e, by rw [← e]; exact h.rd, rfl, ?_⟩
  cases l with
  | nil => simp
  | cons z t =>
    obtain ⟨g, c', e', h1, _⟩ := El.Own.some h (by simp)
    rw [e] at e'
    simp only [Value.slice.injEq] at e'
    omega
theorem Sl.take {w : World} {a : Option Addr} {n c : Nat} {l : List Int} (h : Sl w a n c l) (m : Nat) (hm : m ≤ n) : Sl w a m c (l.take m) :=
  ⟨h.1.take m (by rw [h.len]; exact hm), by rw [List.length_take, h.len]; omega, Nat.le_trans hm h.cap⟩
theorem Sl.drop {w : World} {b off n c : Nat} {l : List Int} (h : Sl w (some ⟨b, off, none⟩) n c l) (m : Nat) (hm : m ≤ n) : Sl w (if c = m then some ⟨b, off, none⟩ else some ⟨b, off + m, none⟩) (n - m) (c - m) (l.drop m) := by
  have hc := h.cap
  refine ⟨?_, by rw [List.length_drop, h.len], by omega⟩
  by_cases e : c = m
  · rw [if_pos e]
    have : l.drop m = [] := List.drop_eq_nil_of_le (by rw [h.len]; omega)
    rw [this]
    exact .inr ⟨⟨b, off, none⟩, c - m, by rw [show n - m = 0 by omega]; rfl, by simp⟩
  · rw [if_neg e]
    have := El.Rd.drop (E := byE) (cap' := c - m) h.1 m (n - m) (by rw [h.len]) (by rw [h.len]; exact hm)
    have e2 : off + m * byE.k = off + m := by show off + m * 1 = off + m; omega
    rw [e2] at this
    exact this
theorem Sl.some {w : World} {a : Option Addr} {n c : Nat} {l : List Int} (h : Sl w a n c l) (hn : 0 < n) : ∃ b off, a = some ⟨b, off, none⟩ ∧ ∀ i p, l[i]? = some p → w.cell? ⟨b, off + i, none⟩ = some (.int .u8 p) :=
  by_some h.1 (by intro e; have := h.len; rw [e] at this; simp at this; omega)
theorem Its.put {w0 w : World} {l : List It} {g : Nat} {C : Array Value} {t : TypeId} (h : Its w0 (.box g C t :: l) w) (i : Nat) (u : Value) : Its w0 (.box g (C.setIfInBounds i u) t :: l) (w.setCell ⟨g, i, none⟩ u) :=
  h.chg (x' := .box g (C.setIfInBounds i u) t) (heap_put h.one u) (fun k hk => .inl hk) (Frm.set w g i u)
end Go.Proofs.YtocmngpoemfpkaaGreatDoor

namespace Go.Proofs.YtocmngpoemfpkaaGreatDoor
open Go.ChangeShapes Go.WideShapes Go.ChangeAt Go.RowKit
set_option linter.unusedVariables false
def ParP (l : List Int) (n : Nt) (ok : Bool) : Prop := ∀ m : Nt, m.ok = true → (m.body = l ↔ ok = true ∧ n = m)
theorem parP_no {l : List Int} (h : ∀ m : Nt, m.ok = true → m.body ≠ l) (n : Nt) : ParP l n false := fun m hm => ⟨fun e => absurd e (h m hm), fun e => by simp at e⟩
theorem parP_nil (n : Nt) : ParP [] n false := parP_no (fun m _ e => by simp [Nt.body] at e) n
structure Par (k : Int) (t : List Int) (xs : List Nat) (r : List Int) : Prop where
  eq : t = xs.flatMap num ++ r
  le : xs.length ≤ us k
theorem Par.no {k : Int} {t : List Int} {xs : List Nat} {r : List Int} (h : Par k t xs r) (hl : xs.length < us k) (hn : ∀ n, n < 34359738368 → ∀ s, r ≠ num n ++ s) (n : Nt) : ParP (k :: t) n false := by
  refine parP_no (fun m hm e => ?_) n
  unfold Nt.body at e
  simp only [List.cons.injEq] at e
  obtain ⟨ek, et⟩ := e
  rw [h.eq] at et
  obtain ⟨zs, e1, e2⟩ := num_pf.flat xs m.vs r [] (fun _ _ => trivial) (fun _ _ => trivial) (by rw [vs_len, ek]; omega) (by simpa using et.symm)
  cases zs with
  | nil =>
    have := congrArg List.length e1
    rw [vs_len, ek, List.append_nil] at this
    omega
  | cons z zs =>
    refine hn z ?_ (zs.flatMap num) (by rw [e2]; simp)
    have := vs_lt hm z (by rw [e1]; simp)
    omega
def pad (xs : List Nat) (i : Nat) : Int := ((xs[i]?.getD 0 : Nat) : Int)
theorem Par.yes {k : Int} {t : List Int} {xs : List Nat} {r : List Int} (h : Par k t xs r) (hl : xs.length = us k) : ParP (k :: t) ⟨k, pad xs 0, pad xs 1, pad xs 2⟩ (decide (r = [])) := by
  intro m hm
  have hk3 := us_le k
  have hvs : ∀ q : Nt, q.kind = k → q.a = pad xs 0 → q.b = pad xs 1 → q.c = pad xs 2 → q.vs = xs := by
    intro q hk h0 h1 h2
    apply List.ext_getElem?
    intro i
    rcases Nat.lt_or_ge i (us k) with hi | hi
    · rw [vs_at i (by rw [hk]; exact hi)]
      obtain ⟨y, hy⟩ : ∃ y, xs[i]? = some y := ⟨_, List.getElem?_eq_getElem (by omega)⟩
      rw [hy]
      match i with
      | 0 => simp [Nt.fs, h0, pad, hy]
      | 1 => simp [Nt.fs, h1, pad, hy]
      | 2 => simp [Nt.fs, h2, pad, hy]
      | i + 3 => omega
    · rw [List.getElem?_eq_none (by rw [vs_len, hk]; exact hi), List.getElem?_eq_none (by omega)]
  constructor
  · intro e
    unfold Nt.body at e
    simp only [List.cons.injEq] at e
    obtain ⟨ek, et⟩ := e
    rw [h.eq] at et
    obtain ⟨zs, e1, e2⟩ := num_pf.flat xs m.vs r [] (fun _ _ => trivial) (fun _ _ => trivial) (by rw [vs_len, ek]; omega) (by simpa using et.symm)
    have : zs = [] := by
      have := congrArg List.length e1
      rw [vs_len, ek, List.length_append] at this
      exact List.eq_nil_of_length_eq_zero (by omega)
    subst this
    simp at e1 e2
    refine ⟨by simp [e2], ?_⟩
    have hf := (ok_iff m).1 hm
    have key : ∀ (i : Nat) (x : Int), m.fs[i]? = some x → pad xs i = x := by
      intro i x hx
      have hb := hf.2.1 i x hx
      rcases Nat.lt_or_ge i (us k) with hi | hi
      · have := vs_at (n := m) i (by rw [ek]; exact hi)
        rw [e1, hx] at this
        simp [pad, this]
        omega
      · rw [hb.2.2 (by rw [ek]; exact hi)]
        simp [pad, List.getElem?_eq_none (show xs.length ≤ i by omega)]
    obtain ⟨mk, ma, mb, mc⟩ := m
    simp only at ek
    rw [ek, key 0 ma rfl, key 1 mb rfl, key 2 mc rfl]
  · rintro ⟨e, rfl⟩
    simp at e
    unfold Nt.body
    rw [hvs _ rfl rfl rfl rfl, h.eq, e]
    simp
def ParR (l : List Int) (w : World) (e : Ending) (w' : World) : Prop := ∃ (k x y z : Int) (ok : Bool), e = .returned (.tuple #[.agg #[.int .i64 k, .int .i64 x, .int .i64 y, .int .i64 z], .bool ok]) ∧ ParP l ⟨k, x, y, z⟩ ok ∧ Below w.heap.size w w'
theorem pad_snoc (xs : List Nat) (v : Nat) (h : xs.length < 3) : (#[Value.int .i64 (pad xs 0), .int .i64 (pad xs 1), .int .i64 (pad xs 2)]).setIfInBounds xs.length (.int .i64 (v : Int)) = #[.int .i64 (pad (xs ++ [v]) 0), .int .i64 (pad (xs ++ [v]) 1), .int .i64 (pad (xs ++ [v]) 2)] := by
  match xs, h with
  | [], _ => rfl
  | [x], _ => rfl
  | [x, y], _ => rfl
  | x :: y :: z :: t, h => simp at h; omega
set_option maxHeartbeats 4000000 in
theorem parse_nil (a : Option Addr) (c : Nat) (w : World) : Calls Tryz.prog 222 #[.slice a 0 c] w fun e w' => ParR [] w e w' := by
  go_enter Tryz.func222, Tryz.ntmps222
  go_wp2_with fail
  exact bodyPost_ret (v := .tuple #[.agg #[.int .i64 0, .int .i64 0, .int .i64 0, .int .i64 0], .bool false]) (by simp [results, Tryz.results222, go_sem]) rfl ⟨0, 0, 0, 0, false, rfl, parP_nil _, below_new _ _⟩
set_option maxHeartbeats 4000000 in
theorem parse_any {w : World} {a : Option Addr} {n c : Nat} {l : List Int} (h : Sl w a n c l) (hr : InB l) (hm : n ≤ 1000000) (hpos : 0 < n) :
    Calls Tryz.prog 222 #[.slice a n c] w fun e w' => ParR l w e w' := by
  have hl := h.len
  cases l with
  | nil => simp at hl; omega
  | cons k t =>
  obtain ⟨b, off, rfl, hc⟩ := h.some hpos
  have c0 := hc 0 k rfl
  rw [Nat.add_zero] at c0
  have cA : ∀ o, (w.alloc o).cell? ⟨b, off, none⟩ = some (.int .u8 k) := fun o => by rw [(below_new w o).cell (cell_lt c0)]; exact c0
  obtain ⟨k0, k1⟩ := hr k (by simp)
  have Hr : Hid (InB t) := hide (fun z hz => hr z (by simp [hz]))
  have HT := hide (h.drop 1 (by omega))
  have hcap := h.cap
  obtain ⟨N, rfl⟩ : ∃ N, n = N + 1 := ⟨n - 1, by omega⟩
  obtain ⟨C, rfl⟩ : ∃ C, c = C + 1 := ⟨c - 1, by omega⟩
  have hNC : N ≤ C := by omega
  have k22 : ∀ W, Calls Tryz.prog 185 #[.int .i64 k] W fun e w' => e = .returned (.int .i64 (us k)) ∧ w' = W := uses_any k
  have hu3 := us_le k
  have hPn := fun (xs : List Nat) (r : List Int) (p : Par k t xs r) (q : xs.length < us k) => p.no q
  have hPy := fun (xs : List Nat) (r : List Int) (p : Par k t xs r) (q : xs.length = us k) => p.yes q
  have HP0 : Hid (Par k t [] t) := hide ⟨by simp, by simp⟩
  have HPs : Hid (∀ xs r v s, Par k t xs r → xs.length < us k → r = num v ++ s → Par k t (xs ++ [v]) s) := hide (fun xs r v s p q e => ⟨by rw [p.eq, e]; simp, by simp; omega⟩)
  obtain ⟨u, hu⟩ : ∃ u, us k = u := ⟨_, rfl⟩
  rw [hu] at k22 hu3 hPn hPy HPs
  have HPn := hide hPn
  have HPy := hide hPy
  clear hPn hPy
  have K22 := hide k22
  have hN : ¬ ((N : Int) + 1 = 0) := by omega
  have hNb : (((N : Int) + 1) == 0) = false := by simpa using hN
  have Hm := hide hm
  simp only [List.drop_one, List.tail_cons, Nat.add_sub_cancel] at HT
  clear k22 hc c0 hl h hr hpos hm hu hcap
  have cl1 : (1 : Int) ≤ (C : Int) + 1 := by omega
  have cl2 : (N : Int) + 1 ≤ (C : Int) + 1 := by omega
  have cl3 : (1 : Int) ≤ (N : Int) + 1 := by omega
  go_enter Tryz.func222, Tryz.ntmps222
  go_upto_region 6 with fail
  have e1 : (C + 1 = 1) = (C = 0) := by apply propext; omega
  simp only [e1] at HT
  clear e1
  generalize (if C = 0 then some (Addr.mk b off none) else some (Addr.mk b (off + 1) none)) = aT at *
  have HI := hide (((Its.nil w).box1 #[.int .i64 0, .int .i64 0, .int .i64 0, .int .i64 0] 69).box1 #[.int .i64 0, .int .i64 0, .int .i64 0] 249)
  rw [show (w.alloc (.cells #[.int .i64 0, .int .i64 0, .int .i64 0, .int .i64 0] 69)).heap.size = w.heap.size + 1 by simp] at HI
  generalize (w.alloc (.cells #[.int .i64 0, .int .i64 0, .int .i64 0, .int .i64 0] 69)).alloc (.cells #[.int .i64 0, .int .i64 0, .int .i64 0] 249) = W1 at *
  go_wp2_with (go_at_call 185; refine (K22.out _).mono ?_; rintro e w3 ⟨rfl, rfl⟩)
  clear cA hN hNb cl1 cl2 cl3
  obtain ⟨gA, hgA⟩ : ∃ gA, w.heap.size + 1 = gA := ⟨_, rfl⟩
  rw [hgA] at HI ⊢
  clear hgA
  obtain ⟨gR, hgR⟩ : ∃ gR, w.heap.size = gR := ⟨_, rfl⟩
  rw [hgR] at HI ⊢
  have HgR := hide hgR
  clear hgR
  go_loopw [0, 21] (fun v i wr => Hid (∃ (j : Nat) (xs : List Nat) (r : List Int) (a' : Option Addr) (n' c' : Nat), j ≤ u ∧ i = .int .i64 j ∧ xs.length = j ∧ v = .slice a' n' c' ∧ Par k t xs r ∧ InB r ∧ n' ≤ 1000000 ∧ Sl w a' n' c' r ∧ Its w [.box gA #[.int .i64 (pad xs 0), .int .i64 (pad xs 1), .int .i64 (pad xs 2)] 249, .box gR #[.int .i64 0, .int .i64 0, .int .i64 0, .int .i64 0] 69] wr)) (fun _ i _ => 3 - (intOf i).toNat)
  case atStart => exact hide ⟨0, [], t, aT, N, C, by omega, rfl, rfl, rfl, HP0.out, Hr.out, by have := Hm.out; omega, HT.out, HI.out⟩
  case round =>
    obtain ⟨j, xs, r, a', n', c', hj, rfl, hxs, rfl, hpar, hin, hn1, hsl, hI⟩ := hrel.out
    clear hrel HI HT HP0 Hr Hm
    have Hxs := hide hxs
    have Hpar := hide hpar
    have Hin := hide hin
    have Hsl := hide hsl
    have HI := hide hI
    have hcap := hsl.cap
    have hlen := hide hsl.len
    have hsw := hsl.keep hI.bel
    clear hxs hpar hin hsl hI
    obtain ⟨r0, r1, r2, r3, rf⟩ : wr.cell? ⟨gR, 0, none⟩ = some (.int .i64 0) ∧ wr.cell? ⟨gR, 1, none⟩ = some (.int .i64 0) ∧ wr.cell? ⟨gR, 2, none⟩ = some (.int .i64 0) ∧ wr.cell? ⟨gR, 3, none⟩ = some (.int .i64 0) ∧ ∀ i, wr.frozen? ⟨gR, i, none⟩ = false := ⟨(cells_at HI.out.two 0).1, (cells_at HI.out.two 1).1, (cells_at HI.out.two 2).1, (cells_at HI.out.two 3).1, fun i => (cells_at HI.out.two i).2⟩
    obtain ⟨c0, c1, c2, cf⟩ : wr.cell? ⟨gA, 0, none⟩ = some (.int .i64 (pad xs 0)) ∧ wr.cell? ⟨gA, 1, none⟩ = some (.int .i64 (pad xs 1)) ∧ wr.cell? ⟨gA, 2, none⟩ = some (.int .i64 (pad xs 2)) ∧ ∀ i, wr.frozen? ⟨gA, i, none⟩ = false := ⟨(cells_at HI.out.one 0).1, (cells_at HI.out.one 1).1, (cells_at HI.out.one 2).1, fun i => (cells_at HI.out.one i).2⟩
    have rf0 := rf 0
    have rf1 := rf 1
    have rf2 := rf 2
    have rf3 := rf 3
    have cf0 := cf 0
    have cf1 := cf 1
    have cf2 := cf 2
    clear rf cf
    by_cases hlt : j < u
    · have hlt' : (j : Int) < u := by omega
      have K29 := hide (number_any hsw.rd Hin.out (by rw [hsw.len]; exact hn1))
      have Hnone := hide (HPn.out xs r Hpar.out (by rw [Hxs.out]; exact hlt))
      have Hsome := hide (fun v s => HPs.out xs r v s Hpar.out (by rw [Hxs.out]; exact hlt))
      clear hsw
      go_upto_region 10 with (go_at_call 242; refine K29.out.mono ?_; rintro e w5 ⟨x, s, rfl, hnum, rfl⟩)
      rcases hnum with ⟨v, hv, rfl, rfl, r', hr'⟩ | ⟨rfl, rfl, hno⟩
      · obtain ⟨q, hq⟩ : ∃ q, (num v).length = q := ⟨_, rfl⟩
        have hq1 : 1 ≤ q := by rw [← hq]; exact num_one v
        have hqn : q ≤ n' := by rw [← hlen.out, hr', List.length_append]; omega
        have HinR : Hid (InB r') := hide (by have := Hin.out; rw [hr'] at this; exact this.right)
        obtain ⟨b', off', rfl, _⟩ := Hsl.out.some (by omega)
        have HD := hide (Hsl.out.drop q hqn)
        have hdrop : r.drop q = r' := by rw [hr', ← hq, List.drop_left]
        rw [hdrop] at HD
        have Hpar2 := hide (Hsome.out v r' hr')
        rw [hq]
        clear hdrop hq hr' K29 Hsome Hnone Hin
        have qz : ¬ ((q : Int) = 0) := by omega
        have qb : ((q : Int) == 0) = false := by simpa using qz
        have q1 : (q : Int) ≤ n' := by omega
        have q2 : (n' : Int) ≤ c' := by omega
        have q3 : (q : Int) ≤ c' := by omega
        have h3 : j = 0 ∨ j = 1 ∨ j = 2 := by omega
        rcases h3 with rfl | rfl | rfl
        · go_upto_region 14 with fail
          generalize (if c' = q then some (Addr.mk b' off' none) else some (Addr.mk b' (off' + q) none)) = aD at *
          have HI2 := hide (HI.out.put 0 (.int .i64 (v : Int)))
          have hps := pad_snoc xs v (by rw [Hxs.out]; omega)
          rw [Hxs.out] at hps
          rw [hps] at HI2
          clear hps HI
          go_wp2_with fail
          go_roundw
          case rel => exact hide ⟨1, xs ++ [v], r', aD, n' - q, c' - q, by omega, by go_num, by simp [Hxs.out], rfl, Hpar2.out, HinR.out, by omega, HD.out, HI2.out⟩
          case measure => simp [intOf]
        · go_upto_region 14 with fail
          generalize (if c' = q then some (Addr.mk b' off' none) else some (Addr.mk b' (off' + q) none)) = aD at *
          have HI2 := hide (HI.out.put 1 (.int .i64 (v : Int)))
          have hps := pad_snoc xs v (by rw [Hxs.out]; omega)
          rw [Hxs.out] at hps
          rw [hps] at HI2
          clear hps HI
          go_wp2_with fail
          go_roundw
          case rel => exact hide ⟨2, xs ++ [v], r', aD, n' - q, c' - q, by omega, by go_num, by simp [Hxs.out], rfl, Hpar2.out, HinR.out, by omega, HD.out, HI2.out⟩
          case measure => simp [intOf]
        · go_upto_region 14 with fail
          generalize (if c' = q then some (Addr.mk b' off' none) else some (Addr.mk b' (off' + q) none)) = aD at *
          have HI2 := hide (HI.out.put 2 (.int .i64 (v : Int)))
          have hps := pad_snoc xs v (by rw [Hxs.out]; omega)
          rw [Hxs.out] at hps
          rw [hps] at HI2
          clear hps HI
          go_wp2_with fail
          go_roundw
          case rel => exact hide ⟨3, xs ++ [v], r', aD, n' - q, c' - q, by omega, by go_num, by simp [Hxs.out], rfl, Hpar2.out, HinR.out, by omega, HD.out, HI2.out⟩
          case measure => simp [intOf]
      · have HP := hide (Hnone.out hno nz)
        clear hno K29
        go_wp2_with fail
        refine bodyPost_ret (v := .tuple #[.agg #[.int .i64 0, .int .i64 0, .int .i64 0, .int .i64 0], .bool false]) (by simp [results, Tryz.results222, go_sem, r0, r1, r2, r3]) rfl ⟨0, 0, 0, 0, false, rfl, HP.out, ?_⟩
        exact below_put4 HI.out.bel _ (Nat.le_of_eq HgR.out) _ _ _ _
    · obtain rfl : j = u := by omega
      have hlt' : ¬ ((j : Int) < (j : Int)) := by omega
      have HP := hide (HPy.out xs r Hpar.out Hxs.out)
      by_cases hr0 : n' = 0
      · have q0 : ((n' : Int) == 0) = true := by rw [hr0]; rfl
        have Hr0 : Hid (r = []) := hide (List.eq_nil_of_length_eq_zero (by rw [hlen.out]; exact hr0))
        clear hr0
        go_wp2_with fail
        have HP2 := HP.out
        rw [Hr0.out] at HP2
        refine bodyPost_ret (v := .tuple #[.agg #[.int .i64 k, .int .i64 (pad xs 0), .int .i64 (pad xs 1), .int .i64 (pad xs 2)], .bool true]) (by simp [results, Tryz.results222, go_sem, r0, r1, r2, r3]) rfl ⟨k, _, _, _, true, rfl, HP2, ?_⟩
        exact below_put4 HI.out.bel _ (Nat.le_of_eq HgR.out) _ _ _ _
      · have q0 : ((n' : Int) == 0) = false := by rw [beq_eq_false_iff_ne]; omega
        have Hr0 : Hid (r ≠ []) := hide (fun e => hr0 (by rw [← hlen.out, e]; rfl))
        go_wp2_with fail
        have HP2 := HP.out
        rw [show decide (r = []) = false from decide_eq_false Hr0.out] at HP2
        refine bodyPost_ret (v := .tuple #[.agg #[.int .i64 k, .int .i64 (pad xs 0), .int .i64 (pad xs 1), .int .i64 (pad xs 2)], .bool false]) (by simp [results, Tryz.results222, go_sem, r0, r1, r2, r3]) rfl ⟨k, _, _, _, false, rfl, HP2, ?_⟩
        exact below_put4 HI.out.bel _ (Nat.le_of_eq HgR.out) _ _ _ _
end Go.Proofs.YtocmngpoemfpkaaGreatDoor
