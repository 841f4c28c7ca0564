/- New, Put. -/
import Derived.Test.YtddcjkbdgneklaaGrb
namespace Go.Proofs.Ytddcjkbdgneklaa
open Go.RowKit
set_option linter.unusedVariables false

/-- depths of a rack -/
def Okd (ds : List Int) : Prop := (1 ≤ ds.length ∧ ds.length ≤ 32) ∧ ∀ d ∈ ds, 1 ≤ d ∧ d ≤ 8
/-- an empty rack -/
def mk (ds : List Int) : Rack := ds.map (fun d => (d.toNat, []))

section
variable {W W' : World} {B r : Nat} {a : Option Addr} {c : Nat} {gs : List Nat} {R : Rack}
theorem Rk.glt (h : Rk W B r a c gs R) (g : Nat) (hg : g ∈ gs) : g < W.heap.size := by
  obtain ⟨i, hi⟩ := List.getElem?_of_mem hg
  have hl := List.getElem?_eq_getElem (l := R) (i := i) (by rw [← h.len]; exact idx_lt hi)
  exact (h.lns i g _ hi hl).lt
theorem Rk.push (h : Rk W B r a c gs R) {g d : Nat} (hL : Ln W g d []) (hg : B ≤ g) (hn : g ∉ gs) (h32 : gs.length < 32) {a' : Option Addr} {n' c' : Nat} (ho : ptrE.Own W' B (.slice a' n' c') (gs ++ [g])) (hb : W.grownBy W' (Value.slice a gs.length c).ownBlock) :
    Rk (W'.setCell ⟨r, 0, none⟩ (.slice a' n' c')) B r a' c' (gs ++ [g]) (R ++ [(d, [])]) := by
  have hr := heap_lt h.box
  have n1 : (Value.slice a gs.length c).ownBlock ≠ some r := zown_ne h.row h.box (by decide)
  have box1 : W'.heap[r]? = some (.cells #[.slice a gs.length c] 70) := by rw [hb.block r hr (fun e => n1 e.symm)]; exact h.box
  have n2 := zown_ne ho box1 (by decide)
  have lane : ∀ {k e : Nat} {xs : List Int}, Ln W k e xs → Ln (W'.setCell ⟨r, 0, none⟩ (.slice a' n' c')) k e xs := fun {k e xs} hl => by
    obtain ⟨s, hs⟩ := hl
    have hne : k ≠ r := fun e => by have h1 := hs.box; rw [e, h.box] at h1; simp at h1
    refine Ln.stay (w := W) ⟨s, hs⟩ ?_
    rw [Below.heap_setCell _ _ _ _ hne]
    exact hb.block k (heap_lt hs.box) (fun e => zown_ne h.row hs.box (by decide) e.symm)
  have hle : n' = (gs ++ [g]).length := by
    obtain ⟨x, y, hv⟩ := ho.rd.form
    simp only [Value.slice.injEq] at hv
    exact hv.2.1
  subst hle
  refine ⟨by rw [heap_put box1]; rfl, h.br, own_set_other ho n2, by simp [h.len], by simp; omega, ?_, fun k hk => ?_, fun i k l hi hl => ?_⟩
  · rw [List.nodup_append]
    exact ⟨h.nd, by simp, fun x hx y hy e => by simp at hy; subst hy; subst e; exact hn hx⟩
  · rcases List.mem_append.1 hk with hk | hk
    · exact h.ge k hk
    · simp at hk; subst hk; exact hg
  · rcases Nat.lt_or_ge i gs.length with hi' | hi'
    · rw [List.getElem?_append_left hi'] at hi
      rw [List.getElem?_append_left (by rw [← h.len]; exact hi')] at hl
      exact lane (h.lns i k l hi hl)
    · have hi2 := idx_lt hi
      simp at hi2
      obtain rfl : i = gs.length := by omega
      rw [List.getElem?_append_right (Nat.le_refl _)] at hi
      rw [h.len, List.getElem?_append_right (Nat.le_refl _)] at hl
      simp at hi hl
      subst hi hl
      exact lane hL
theorem rk_new (w : World) (r : Nat) (hr : r = w.heap.size) : Rk (w.alloc (.cells #[.slice none 0 0] 70)) r r none 0 [] [] := by
  subst hr
  exact ⟨heap_new _ _, Nat.le_refl _, El.Own.nil _ _ _, rfl, by simp, by simp, by simp, by simp⟩
end
theorem mk_take {ds : List Int} {k : Nat} {d : Int} (h : ds[k]? = some d) : mk (ds.take (k + 1)) = mk (ds.take k) ++ [(d.toNat, [])] := by
  unfold mk; rw [List.take_add_one, h]; simp
theorem mk_len (ds : List Int) : (mk ds).length = ds.length := by simp [mk]
theorem mk_at {ds : List Int} {k : Nat} {d : Int} (h : ds[k]? = some d) : (mk ds)[k]? = some (d.toNat, []) := by simp [mk, h]
theorem ptr_new (w : World) (x : Nat) (g : Nat) (hg : g = w.heap.size) : ptrE.Rd (w.alloc (.cells #[.pointer (some ⟨x, 0, none⟩)] 71)) (.slice (some ⟨g, 0, none⟩) 1 1) [x] :=
  (El.Own.new ptrE w w.heap.size (Nat.le_refl _) _ [x] rfl (by simp) _ _ _ hg rfl rfl).rd

/-- New answers so -/
def NewP (w0 : World) (ds : List Int) (e : Ending) (w' : World) : Prop := Below w0.heap.size w0 w' ∧ ((¬ Okd ds ∧ e = .returned (.tuple #[.pointer none, .int .i64 1])) ∨ (Okd ds ∧ ∃ r a c gs, e = .returned (.tuple #[.pointer (some ⟨r, 0, none⟩), .int .i64 0]) ∧ Rk w' w0.heap.size r a c gs (mk ds)))

set_option maxRecDepth 100000 in
set_option maxHeartbeats 4000000 in
theorem new_rk (a : Option Addr) (n c : Nat) (ds : List Int) (w : World) (hn : ds.length = n) (hv : intE.Rd w (.slice a n c) ds) :
    Calls Try.prog 10 #[.slice a n c] w (NewP w ds) := by
  obtain ⟨w0, rfl⟩ : ∃ w0, w0 = w := ⟨_, rfl⟩
  have Hn := hide hn
  by_cases h1 : n < 1
  · have j0 : (n : Int) < 1 := by omega
    have HF : Hid (¬ Okd ds) := hide (fun h => by have := h.1; omega)
    clear hv hn
    go_enter Try.func10, Try.ntmps10
    go_wp2_with fail
    go_ret2
    exact ⟨Below.refl _ _, .inl ⟨HF.out, rfl⟩⟩
  have j0 : ¬ (n : Int) < 1 := by omega
  by_cases h2 : 32 < n
  · have j1 : (n : Int) > 32 := by omega
    have HF : Hid (¬ Okd ds) := hide (fun h => by have := h.1; omega)
    clear hv hn h1
    go_enter Try.func10, Try.ntmps10
    go_wp2_with fail
    go_ret2
    exact ⟨Below.refl _ _, .inl ⟨HF.out, rfl⟩⟩
  have j1 : ¬ (n : Int) > 32 := by omega
  have HV := hide hv
  obtain ⟨g, hg⟩ : ∃ g, w0.heap.size = g := ⟨_, rfl⟩
  have HN := hide (rk_new w0 g hg.symm)
  have HBa : Hid (∀ o : Obj, Below g w0 (w0.alloc o)) := hide (fun o => by rw [← hg]; exact (Below.refl _ _).alloc (Nat.le_refl _) o)
  have Hg := hide hg
  have KN : Hid (∀ (d : Int) (W : World), d < 1 ∨ 8 < d → Calls Try.prog 25 #[.int .i64 d] W fun e w' => e = .returned (.tuple #[.pointer none, .int .i64 1]) ∧ w' = W) := hide (fun d W h => new_no d W h)
  have KY : Hid (∀ (d : Int) (W : World) (s : Nat), 1 ≤ d → d ≤ 8 → W.heap.size = s → Calls Try.prog 25 #[.int .i64 d] W fun e w' => e = .returned (.tuple #[.pointer (some ⟨s, 0, none⟩), .int .i64 0]) ∧ Ln w' s d.toNat [] ∧ Below W.heap.size W w') := hide (fun d W s h1 h2 hs => by
    obtain ⟨k, rfl⟩ : ∃ k : Nat, d = (k : Int) := ⟨d.toNat, by omega⟩
    subst hs
    exact new_ok k W (by omega) (by omega))
  clear hv hn
  go_enter Try.func10, Try.ntmps10
  go_upto_region 4 with fail
  try rw [hg]
  clear hg
  go_wp2_with fail
  go_loopw [21] (fun v21 wr => ∃ (k : Nat) (a1 : Option Addr) (c1 : Nat) (gs : List Nat), v21 = .int .i64 k ∧ k ≤ n ∧ Hid (Below g w0 wr) ∧ Hid (Rk wr g g a1 c1 gs (mk (ds.take k))) ∧ Hid (∀ (i : Nat) (d : Int), i < k → ds[i]? = some d → 1 ≤ d ∧ d ≤ 8)) (fun v21 _ => n - (intOf v21).toNat)
  case atStart => exact ⟨0, none, 0, [], rfl, Nat.zero_le _, hide (HBa.out _), HN, hide (fun i d hi => by omega)⟩
  case round =>
    obtain ⟨k, a1, c1, gs, rfl, hk, HB, HR, HD⟩ := hrel
    by_cases hlt : k < n
    · obtain ⟨d, hd⟩ : ∃ d, ds[k]? = some d := ⟨_, List.getElem?_eq_getElem (by rw [Hn.out]; exact hlt)⟩
      obtain ⟨b, off, rfl, z0⟩ := int_at (HV.out.keep (by rw [Hg.out]; exact HB.out)) k d hd
      have i0 : (0 : Int) ≤ (k : Int) := by omega
      have i1 : (k : Int) < (n : Int) := by omega
      by_cases hd1 : d < 1 ∨ 8 < d
      · have HF : Hid (¬ Okd ds) := hide (fun h => by have := h.2 d (List.mem_of_getElem? hd); omega)
        have K := hide (KN.out d wr hd1)
        clear hd hd1 hlt
        go_wp2_with (go_at_call 25; refine K.out.mono ?_; rintro e W1 ⟨rfl, rfl⟩)
        go_ret2
        exact ⟨by rw [Hg.out]; exact HB.out, .inl ⟨HF.out, rfl⟩⟩
      · obtain ⟨s, hs⟩ : ∃ s, wr.heap.size = s := ⟨_, rfl⟩
        have K := hide (KY.out d wr s (by omega) (by omega) hs)
        have Hs := hide hs
        have Hmk := hide (mk_take hd)
        have HD1 : Hid (∀ (i : Nat) (d : Int), i < k + 1 → ds[i]? = some d → 1 ≤ d ∧ d ≤ 8) := hide (fun i d' hi hd' => by
          rcases Nat.lt_or_ge i k with g | g
          · exact HD.out i d' g hd'
          · obtain rfl : i = k := by omega
            rw [hd] at hd'
            cases hd'
            omega)
        have hgl : gs.length = k := by rw [HR.out.len, mk_len, List.length_take, Hn.out]; omega
        have Hgl := hide hgl
        have Hbs : Hid (∀ W (o : Obj), Below W.heap.size W (W.alloc o)) := hide (fun W o => (Below.refl _ _).alloc (Nat.le_refl _) o)
        have HLn : Hid (gs.length + [s].length ≤ 1000000) := hide (by simp; omega)
        have HX : Hid (∀ W1 : World, Below wr.heap.size wr W1 → W1.cell? ⟨g, 0, none⟩ = some (.slice a1 k c1) ∧ W1.frozen? ⟨g, 0, none⟩ = false ∧ Below g w0 W1 ∧ g ≤ W1.heap.size ∧ Rk W1 g g a1 c1 gs (mk (ds.take k))) := hide (fun W1 hb => by
          have h' := HR.out.keep hb
          have hx := h'.cell
          rw [mk_len, List.length_take, Nat.min_eq_left (by rw [Hn.out]; omega)] at hx
          have hB' := HB.out.size
          have hs' := hb.size
          refine ⟨hx, (cells_at h'.box 0).2, HB.out.trans (hb.mono ?_), ?_, h'⟩
          · have := heap_lt HR.out.box; omega
          · have := heap_lt h'.box; omega)
        clear hd hd1 hlt hs hgl
        go_upto_region 10 with (go_at_call 25; refine K.out.mono ?_; rintro e W1 ⟨rfl, hL, hb⟩; have HL := hide hL; have HB1 := hide hb; clear hL hb)
        obtain ⟨c0, f0, hB1, hsz, hR1⟩ := HX.out W1 HB1.out
        have HR1 := hide hR1
        have HBw := hide hB1
        have Hsz := hide hsz
        have HO := hide hR1.row
        rw [Hgl.out] at HO
        have Hkeep : Hid (∀ (W2 : World) (v : Value) (c2 : Nat) (a2 : Option Addr), ptrE.Own W2 g (.slice a2 (gs.length + 1) c2) (gs ++ [s]) → (W1.alloc (.cells #[.pointer (some ⟨s, 0, none⟩)] 71)).grownBy W2 (Value.slice a1 gs.length c1).ownBlock → Rk (W2.setCell ⟨g, 0, none⟩ (.slice a2 (gs.length + 1) c2)) g g a2 c2 (gs ++ [s]) (mk (ds.take (k + 1))) ∧ W2.cell? ⟨g, 0, none⟩ = some (.slice a1 k c1) ∧ W2.frozen? ⟨g, 0, none⟩ = false ∧ Below g w0 (W2.setCell ⟨g, 0, none⟩ (.slice a2 (gs.length + 1) c2))) := hide (fun W2 v c2 a2 ho hb => by
          have h2 := HR1.out.keep (Hbs.out W1 (.cells #[.pointer (some ⟨s, 0, none⟩)] 71))
          have hne : (Value.slice a1 gs.length c1).ownBlock ≠ some g := zown_ne h2.row h2.box (by decide)
          have hbx : W2.heap[g]? = some (.cells #[.slice a1 gs.length c1] 70) := by rw [hb.block g (heap_lt h2.box) (fun e => hne e.symm)]; exact h2.box
          refine ⟨?_, by rw [(cells_at hbx 0).1, Hgl.out]; rfl, (cells_at hbx 0).2, ?_⟩
          · rw [Hmk.out]
            refine h2.push (HL.out.keep (Hbs.out _ _)) ?_ ?_ ?_ ho hb
            · rw [← Hs.out]; have := heap_lt HR.out.box; omega
            · intro hm
              have := HR.out.glt s hm
              have := Hs.out
              omega
            · rw [Hgl.out]; omega
          · exact ((HBw.out.alloc Hsz.out _).grown hb (Nat.le_trans Hsz.out (Hbs.out W1 (.cells #[.pointer (some ⟨s, 0, none⟩)] 71)).size) (fun k hk => h2.row.ge k hk)).setCell (Nat.le_refl _) _)
        have HOa : Hid (ptrE.Own (W1.alloc (.cells #[.pointer (some ⟨s, 0, none⟩)] 71)) g (.slice a1 k c1) gs) := hide (HO.out.keep (Hbs.out _ _))
        have Hsa : Hid (g ≤ (W1.alloc (.cells #[.pointer (some ⟨s, 0, none⟩)] 71)).heap.size) := hide (Nat.le_trans Hsz.out (Hbs.out _ _).size)
        have HNw : Hid (ptrE.Rd (W1.alloc (.cells #[.pointer (some ⟨s, 0, none⟩)] 71)) (.slice (some ⟨W1.heap.size, 0, none⟩) 1 1) [s]) := hide (ptr_new _ _ _ rfl)
        clear hR1 hB1 hsz
        go_wp2_with (at_builtin; refine ptrE.wpB Hsa.out (by rfl) _ _ rfl _ _ rfl rfl _ [s] HOa.out HNw.out HLn.out ?_; intro v' w' ho hg hs; obtain ⟨a2, c2, rfl⟩ := ho.rd.form; rw [List.length_append, List.length_singleton] at ho; obtain ⟨hA, hC, hF, hB2⟩ := Hkeep.out w' (.slice none 0 0) c2 a2 ho (by rw [Hgl.out]; exact hg); rw [List.length_append, List.length_singleton]; have HA := hide hA; have HB2 := hide hB2; clear ho hg hs hA hB2)
        go_roundw
        case rel => exact ⟨k + 1, a2, c2, gs ++ [s], by go_num, by omega, HB2, HA, HD1⟩
        case measure => simp [intOf]; omega
    · obtain rfl : k = n := by omega
      have i1 : ¬ (k : Int) < (k : Int) := by omega
      have HK : Hid (Okd ds) := hide ⟨⟨by have := Hn.out; omega, by have := Hn.out; omega⟩, fun d hd => by
        obtain ⟨i, hi⟩ := List.getElem?_of_mem hd
        exact HD.out i d (by rw [← Hn.out]; exact idx_lt hi) hi⟩
      have HR1 : Hid (Rk wr g g a1 c1 gs (mk ds)) := hide (by have := HR.out; rwa [← Hn.out, List.take_length] at this)
      go_wp2_with fail
      go_ret2
      exact ⟨by rw [Hg.out]; exact HB.out, .inr ⟨HK.out, g, a1, c1, gs, rfl, by rw [Hg.out]; exact HR1.out⟩⟩
end Go.Proofs.Ytddcjkbdgneklaa
