/- New. -/
import Derived.Test.YthcdfclhenmleaaPrg
import Derived.BigRegion
namespace Go.Proofs.Ythcdfclhenmleaa
open Go.RowKit
set_option linter.unusedVariables false

/-- a layout that lies somewhere and is read -/
structure Lyt (w : World) (a a' : Option Addr) (c c' n m : Nat) (ns : List Nd) (es : List Ed) : Prop where
  hn : ns.length = n
  hm : es.length = m
  hv : ndE.Rd w (.slice a n c) ns
  hu : edE.Rd w (.slice a' m c') es
  hc : m ≤ c'
  hs : ∀ p ∈ ns, p.name.size ≤ maxLen
theorem Lyt.keep {w w' : World} {a a' : Option Addr} {c c' n m : Nat} {ns : List Nd} {es : List Ed} (h : Lyt w a a' c c' n m ns es) (hb : Below w.heap.size w w') : Lyt w' a a' c c' n m ns es := ⟨h.hn, h.hm, h.hv.keep hb, h.hu.keep hb, h.hc, h.hs⟩
theorem check_l {w : World} {a a' : Option Addr} {c c' n m : Nat} {ns : List Nd} {es : List Ed} (h : Lyt w a a' c c' n m ns es) :
    Calls Try.prog 27 #[.agg #[.slice a n c, .slice a' m c']] w fun e w' => e = .returned (.int .i64 (if good ns es = true then 0 else 61)) ∧ Below w.heap.size w w' := by
  have h1 := h.hn
  have h2 := h.hm
  subst h1
  subst h2
  exact check_any a a' c c' ns es w h.hv h.hu h.hc h.hs

def NewP (w : World) (n m : Nat) (es : List (Int × Int)) (e : Ending) (w' : World) : Prop := ∃ g H, e = .returned (.tuple #[.pointer (some ⟨g, 0, none⟩), .int .i64 0]) ∧ Its w [.pla w.heap.size g H n m es (Pl.nw n es)] w'

/-- both orders -/
theorem new_A {w w2 : World} {l : List It} {CI CD : Array Value} {n m : Nat} (h : Its w l w2)
    (oI : ∀ W : World, intE.Own (W.alloc (.cells CI 3)) W.heap.size (.slice (some ⟨W.heap.size, 0, none⟩) n n) (List.replicate n 0))
    (oD : ∀ W : World, dvE.Own (W.alloc (.cells CD 76)) W.heap.size (.slice (some ⟨W.heap.size, 0, none⟩) m m) (List.replicate m dv0)) :
    Its w (pparts w.heap.size (w2.heap.size + 1 + 1) (w2.heap.size, w2.heap.size + 1) n m ⟨List.replicate n 0, List.replicate m dv0, 0⟩ ++ l) (((w2.alloc (.cells CI 3)).alloc (.cells CD 76)).alloc (.cells #[.slice (some ⟨w2.heap.size, 0, none⟩) n n, .slice (some ⟨w2.heap.size + 1, 0, none⟩) m m, .int .i64 0] 74)) := by
  have s1 : (w2.alloc (.cells CI 3)).heap.size = w2.heap.size + 1 := by show (w2.heap.push _).size = _; simp
  have s2 : ((w2.alloc (.cells CI 3)).alloc (.cells CD 76)).heap.size = w2.heap.size + 1 + 1 := by show ((w2.alloc (.cells CI 3)).heap.push _).size = _; simp [s1]
  have h1 := h.fresh (oI w2) (below_new _ _)
  have h2 := h1.fresh (oD _) (below_new _ _)
  rw [s1] at h2
  have h3 := h2.new (x := .box (w2.heap.size + 1 + 1) #[.slice (some ⟨w2.heap.size, 0, none⟩) n n, .slice (some ⟨w2.heap.size + 1, 0, none⟩) m m, .int .i64 0] 74) (by rw [← s2]; exact heap_new _ _) (fun k hk => by rw [s2]; exact Nat.le_of_eq hk.symm) (below_new _ (.cells #[.slice (some ⟨w2.heap.size, 0, none⟩) n n, .slice (some ⟨w2.heap.size + 1, 0, none⟩) m m, .int .i64 0] 74))
  exact h3.rot3'
theorem new_B {w w2 : World} {l : List It} {CI CD : Array Value} {n m : Nat} (h : Its w l w2)
    (oI : ∀ W : World, intE.Own (W.alloc (.cells CI 3)) W.heap.size (.slice (some ⟨W.heap.size, 0, none⟩) n n) (List.replicate n 0))
    (oD : ∀ W : World, dvE.Own (W.alloc (.cells CD 76)) W.heap.size (.slice (some ⟨W.heap.size, 0, none⟩) m m) (List.replicate m dv0)) :
    Its w (pparts w.heap.size (w2.heap.size + 1 + 1) (w2.heap.size + 1, w2.heap.size) n m ⟨List.replicate n 0, List.replicate m dv0, 0⟩ ++ l) (((w2.alloc (.cells CD 76)).alloc (.cells CI 3)).alloc (.cells #[.slice (some ⟨w2.heap.size + 1, 0, none⟩) n n, .slice (some ⟨w2.heap.size, 0, none⟩) m m, .int .i64 0] 74)) := by
  have s1 : (w2.alloc (.cells CD 76)).heap.size = w2.heap.size + 1 := by show (w2.heap.push _).size = _; simp
  have s2 : ((w2.alloc (.cells CD 76)).alloc (.cells CI 3)).heap.size = w2.heap.size + 1 + 1 := by show ((w2.alloc (.cells CD 76)).heap.push _).size = _; simp [s1]
  have h1 := h.fresh (oD w2) (below_new _ _)
  have h2 := h1.fresh (oI _) (below_new _ _)
  rw [s1] at h2
  have h3 := h2.new (x := .box (w2.heap.size + 1 + 1) #[.slice (some ⟨w2.heap.size + 1, 0, none⟩) n n, .slice (some ⟨w2.heap.size, 0, none⟩) m m, .int .i64 0] 74) (by rw [← s2]; exact heap_new _ _) (fun k hk => by rw [s2]; exact Nat.le_of_eq hk.symm) (below_new _ (.cells #[.slice (some ⟨w2.heap.size + 1, 0, none⟩) n n, .slice (some ⟨w2.heap.size, 0, none⟩) m m, .int .i64 0] 74))
  exact h3.swap.rot3

section
variable {w : World} {a a' : Option Addr} {c c' n m : Nat} {ns : List Nd} {es : List Ed}
set_option maxRecDepth 100000 in
set_option maxHeartbeats 1000000 in
theorem new_no (h : Lyt w a a' c c' n m ns es) (hg : good ns es = false) : Calls Try.prog 12 #[.agg #[.slice a n c, .slice a' m c']] w fun e w' => e = .returned (.tuple #[.pointer none, .int .i64 61]) ∧ Below w.heap.size w w' := by
  obtain ⟨w1, hw1⟩ : ∃ w1, w.alloc (.cells #[.slice a n c, .slice a' m c'] 25) = w1 := ⟨_, rfl⟩
  have b1 : Below w.heap.size w w1 := by rw [← hw1]; exact below_new _ _
  have K := check_l (h.keep b1)
  rw [if_neg (by rw [hg]; simp)] at K
  have HK := hide K
  have HB := hide b1
  subst hw1
  clear h hg K b1
  go_enter Try.func12, Try.ntmps12
  go_wp2_with (go_at_call 27; refine HK.out.mono ?_; rintro e w2 ⟨rfl, B2⟩; have HB2 := hide (HB.out.trans (B2.mono HB.out.size)); clear B2)
  go_ret2
  exact ⟨rfl, HB2.out⟩
set_option maxRecDepth 100000 in
set_option maxHeartbeats 2000000 in
theorem new_ok (h : Lyt w a a' c c' n m ns es) (hg : good ns es = true) : Calls Try.prog 12 #[.agg #[.slice a n c, .slice a' m c']] w fun e w' => NewP w n m es e w' := by
  obtain ⟨w1, hw1⟩ : ∃ w1, w.alloc (.cells #[.slice a n c, .slice a' m c'] 25) = w1 := ⟨_, rfl⟩
  have b1 : Below w.heap.size w w1 := by rw [← hw1]; exact below_new _ _
  have K := check_l (h.keep b1)
  rw [if_pos hg] at K
  have HK := hide K
  have HI1 : Hid (Its w [.box w.heap.size #[.slice a n c, .slice a' m c'] 25] w1) := hide ((Its.nil w).new (x := .box w.heap.size #[.slice a n c, .slice a' m c'] 25) (by rw [← hw1]; exact heap_new _ _) (fun k hk => Nat.le_of_eq hk.symm) b1)
  obtain ⟨g1, g2, g3⟩ := good_he hg
  rw [h.hn] at g1 g3
  have HOK := hide (Pl.nw_ok g1 g2 g3)
  rw [h.hm] at g2
  have HL := hide h
  obtain ⟨CI, rI, oI⟩ := made_i n (by omega)
  obtain ⟨CD, rD, oD⟩ := made_d m (by omega)
  have HoI := hide oI
  have HoD := hide oD
  have X : Hid (∀ W, Its w [.box w.heap.size #[.slice a n c, .slice a' m c'] 25] W → W.cell? ⟨w.heap.size, 0, none⟩ = some (.slice a n c) ∧ W.cell? ⟨w.heap.size, 1, none⟩ = some (.slice a' m c')) := hide (fun W hW => ⟨(cells_at hW.one 0).1, (cells_at hW.one 1).1⟩)
  have i1 : (m : Int) ≤ 120 := by omega
  clear h hg K b1 g1 g2 g3 oI oD
  subst hw1
  go_enter Try.func12, Try.ntmps12
  go_upto_region 4 with (go_at_call 27; refine HK.out.mono ?_; rintro e w2 ⟨rfl, B2⟩; have HI2 := hide (HI1.out.keep B2); clear B2)
  obtain ⟨y0, y1⟩ := X.out _ HI2.out
  have z0 : ∀ o, (w2.alloc o).cell? ⟨w.heap.size, 0, none⟩ = some (.slice a n c) := fun o => (X.out _ (HI2.out.alloc o)).1
  have z1 : ∀ o, (w2.alloc o).cell? ⟨w.heap.size, 1, none⟩ = some (.slice a' m c') := fun o => (X.out _ (HI2.out.alloc o)).2
  go_cut [5] (fun v5 wx => ∃ (g : Nat) (H : Nat × Nat), v5 = .pointer (some ⟨g, 0, none⟩) ∧ Hid (Its w (pparts w.heap.size g H n m ⟨List.replicate n 0, List.replicate m dv0, 0⟩ ++ [.box w.heap.size #[.slice a n c, .slice a' m c'] 25]) wx))
  case first =>
    have qA := hide ((new_A HI2.out HoI.out HoD.out).drew 1)
    have qB := hide ((new_B HI2.out HoI.out HoD.out).drew 1)
    go_region
    · go_wp2_with fail
      go_meet
      exact ⟨_, _, rfl, qA⟩
    · go_wp2_with fail
      go_meet
      exact ⟨_, _, rfl, qB⟩
  case rest =>
    obtain ⟨g, H, rfl, HP⟩ := hcut
    obtain ⟨bt, bd⟩ := H
    have HE : Hid (∀ W, Its w (pparts w.heap.size g (bt, bd) n m ⟨List.replicate n 0, nwD es m, 0⟩ ++ [.box w.heap.size #[.slice a n c, .slice a' m c'] 25]) W → Its w [.pla w.heap.size g (bt, bd) n m es (Pl.nw n es)] W) := hide (fun W hW => by
      have e1 : nwD es m = es.map mkD := by rw [← HL.out.hm]; exact nwD_end es
      rw [e1] at hW
      have h3 : Its w (pparts w.heap.size g (bt, bd) n m (Pl.nw n es) ++ []) W := (hW.perm (List.perm_append_comm (l₁ := pparts w.heap.size g (bt, bd) n m (Pl.nw n es)) (l₂ := [.box w.heap.size #[.slice a n c, .slice a' m c'] 25]))).tail
      exact h3.pshut ⟨HOK.out, HL.out.hm⟩)
    have Y : Hid (∀ (W : World) (ds : List Dv), Its w (pparts w.heap.size g (bt, bd) n m ⟨List.replicate n 0, ds, 0⟩ ++ [.box w.heap.size #[.slice a n c, .slice a' m c'] 25]) W → W.cell? ⟨w.heap.size, 0, none⟩ = some (.slice a n c) ∧ W.cell? ⟨w.heap.size, 1, none⟩ = some (.slice a' m c') ∧ W.cell? ⟨g, 1, none⟩ = some (.slice (some ⟨bd, 0, none⟩) m m)) := hide (fun W ds hW => by
      have h4 : W.heap[w.heap.size]? = some (.cells #[.slice a n c, .slice a' m c'] 25) := hW.four
      have h3 : W.heap[g]? = some (.cells #[.slice (some ⟨bt, 0, none⟩) n n, .slice (some ⟨bd, 0, none⟩) m m, .int .i64 0] 74) := hW.three
      exact ⟨(cells_at h4 0).1, (cells_at h4 1).1, (cells_at h3 1).1⟩)
    have HP0 : Hid (Its w (pparts w.heap.size g (bt, bd) n m ⟨List.replicate n 0, nwD es 0, 0⟩ ++ [.box w.heap.size #[.slice a n c, .slice a' m c'] 25]) wc) := hide (by rw [nwD_zero, HL.out.hm]; exact HP.out)
    obtain ⟨y0, y1, y2⟩ := Y.out _ _ HP.out
    clear HP
    obtain ⟨wA, rfl⟩ : ∃ W, W = wc := ⟨_, rfl⟩
    go_wp2_with fail
    go_loopw [26] (fun v26 wr => ∃ k : Nat, v26 = .int .i64 k ∧ k ≤ m ∧ Hid (Its w (pparts w.heap.size g (bt, bd) n m ⟨List.replicate n 0, nwD es k, 0⟩ ++ [.box w.heap.size #[.slice a n c, .slice a' m c'] 25]) wr)) (fun v26 _ => m - (intOf v26).toNat)
    case atStart => exact ⟨0, rfl, Nat.zero_le _, HP0⟩
    case round =>
      obtain ⟨k, rfl, hk, HR⟩ := hrel
      by_cases hlt : k < m
      · obtain ⟨e, he⟩ : ∃ e, es[k]? = some e := ⟨_, List.getElem?_eq_getElem (by rw [HL.out.hm]; exact hlt)⟩
        obtain ⟨b, off, rfl, e0, e1⟩ := ed_at (HL.out.hu.keep HR.out.bel) k e he
        have j0 : (0 : Int) ≤ (k : Int) := by omega
        have j1 : (k : Int) < (m : Int) := by omega
        have hat := nwD_at es k (by rw [HL.out.hm]; exact hlt)
        have HN := hide ((Its.dset (Its.dset (HR.out.alloc (.cells #[.int .i64 e.1, .int .i64 e.2] 42)) hat { dv0 with fr := e.1 } 0 (.int .i64 e.1) (by omega) rfl) (set_at hat) (mkD e) 1 (.int .i64 e.2) (by omega) rfl).drew 1)
        rw [List.set_set, nwD_set es k e he] at HN
        replace HN : Hid (Its w (pparts w.heap.size g (bt, bd) n m ⟨List.replicate n 0, nwD es (k + 1), 0⟩ ++ [.box w.heap.size #[.slice a n c, .slice (some ⟨b, off, none⟩) m c'] 25]) (((wr.alloc (.cells #[.int .i64 e.1, .int .i64 e.2] 42)).setCell ⟨bd, k * 5, none⟩ (.int .i64 e.1)).setCell ⟨bd, k * 5 + 1, none⟩ (.int .i64 e.2)).drew) := HN
        have HA := hide (HR.out.alloc (.cells #[.int .i64 e.1, .int .i64 e.2] 42))
        obtain ⟨x0, x1, x2⟩ := Y.out _ _ HR.out
        obtain ⟨z0, z1, z2⟩ := Y.out _ _ HA.out
        have o1 : dvE.Own (wr.alloc (.cells #[.int .i64 e.1, .int .i64 e.2] 42)) w.heap.size (.slice (some ⟨bd, 0, none⟩) m m) (nwD es k) := HA.out.one
        have hll : (nwD es k).length = m := o1.rd.form.choose_spec.choose_spec |> fun q => by simp only [Value.slice.injEq] at q; exact q.2.1.symm
        obtain ⟨p0, p1, _⟩ := dv_at o1.rd k _ hat
        have f0 := (o1.cell (k * 5 + 0) (by show k * 5 + 0 < (nwD es k).length * 5; omega)).2.1
        have f1 := (o1.cell (k * 5 + 1) (by show k * 5 + 1 < (nwD es k).length * 5; omega)).2.1
        rw [Nat.add_zero] at f0
        have c0 := (cells_at (heap_new wr (.cells #[.int .i64 e.1, .int .i64 e.2] 42)) 0).1
        have c1 := (cells_at (heap_new wr (.cells #[.int .i64 e.1, .int .i64 e.2] 42)) 1).1
        obtain ⟨ea, eb⟩ := e
        dsimp only at *
        clear hat he o1 hll
        go_upto_region 8 with fail
        generalize wr.alloc (.cells #[.int .i64 ea, .int .i64 eb] 42) = wz at *
        go_region
        generalize ((wz.setCell ⟨bd, k * 5, none⟩ (.int .i64 ea)).setCell ⟨bd, k * 5 + 1, none⟩ (.int .i64 eb)).drew = wy at *
        go_wp2_with fail
        go_roundw
        case rel => exact ⟨k + 1, by go_num, by omega, HN⟩
        case measure => simp [intOf]; omega
      · obtain rfl : k = m := by omega
        have j1 : ¬ (k : Int) < (k : Int) := by omega
        go_wp2_with fail
        go_ret2
        exact ⟨g, (bt, bd), rfl, HE.out _ HR.out⟩
end
end Go.Proofs.Ythcdfclhenmleaa
