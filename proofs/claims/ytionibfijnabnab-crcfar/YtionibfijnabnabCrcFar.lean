/- For every number the law CrcFar answers true: in a list of 4,000 bytes the turned bit is found, and a list of one byte more is refused; no conditions. -/
import Derived.Test.YtionibfijnabnabFind
import Derived.Test.YtionibfijnabnabMake
namespace Go.Proofs.Ytionibfijnabnab.crcFar
open Go.ChangeShapes Go.WideShapes Go.ChangeAt Go.RowKit
set_option linter.unusedVariables false

theorem own : ownKnob Try.prog.godebug = none := by kernel_rfl

theorem at_bd (a : Int) : 0 ≤ wrap64 ((IntKind.u64.wrap a).tmod 32000) ∧ wrap64 ((IntKind.u64.wrap a).tmod 32000) ≤ 31999 := by
  have h0 : 0 ≤ IntKind.u64.wrap a := by simp [IntKind.wrap, IntKind.bits, IntKind.signed]; omega
  have e : (IntKind.u64.wrap a).tmod 32000 = IntKind.u64.wrap a % 32000 := Int.tmod_eq_emod_of_nonneg h0
  rw [e]
  generalize IntKind.u64.wrap a = b at h0
  unfold wrap64
  omega

def zs : List Int := List.replicate 4000 0
theorem zs_len : zs.length = 4000 := List.length_replicate
theorem zs_in : InB zs := fun z hz => by rw [List.eq_of_mem_replicate hz]; omega

/-- the bit that was turned is found -/
theorem found {l : List Int} (hl : l.length ≤ 4000) {k : Nat} (hk : k < 8 * l.length) : Fnd (turn l k) (sm 0xFFFF#16 l) k 0 := by
  have hne : sm 0xFFFF#16 (turn l k) ≠ sm 0xFFFF#16 l := by
    rw [sm_turn _ _ _ hk]
    intro h
    have h2 : sm 0xFFFF#16 l ^^^ chg (8 * l.length - 1 - k) = sm 0xFFFF#16 l ^^^ 0#16 := by rw [h]; simp
    have h3 := xor_cancel h2
    unfold chg at h3
    rw [← pw_zero (8 * l.length - 1 - k)] at h3
    exact absurd (pw_inj h3) (by decide)
  refine .inr (.inl ⟨hne, k, by rw [turn_length]; exact hk, rfl, rfl, ?_⟩)
  rw [sm_turn _ _ _ (by rw [turn_length]; exact hk), sm_turn _ _ _ hk, turn_length, BitVec.xor_assoc]
  simp

theorem bs_one (w : World) (z : Int) (n : Nat) (hn : n = w.heap.size) : Bs (w.alloc (.cells #[.int .u8 z] 5)) (.slice (some ⟨n, 0, none⟩) 1 1) [z] := by
  subst hn
  refine .inr ⟨⟨w.heap.size, 0, none⟩, 1, rfl, fun i hi => ?_⟩
  have : i = 0 := by simp at hi; omega
  subst this
  rw [add_plain, cell_new]
  rfl

set_option maxHeartbeats 1000000 in
theorem walk (a0 : Int) (w0 : (Lit.int .i64 a0).wf = true) (w : World) :
    Calls Try.prog 3 #[.int .i64 a0] w fun e w' => e = .returned (.bool true) ∧ Below w.heap.size w w' := by
  clear w0
  go_enter Try.func3, Try.ntmps3
  go_wp2_with fail
  refine (awake_any _).mono ?_; rintro e w1 ⟨rfl, rfl⟩
  have hb0 : Below w.heap.size w (w.alloc digitsObj) := (Below.refl _ _).alloc (Nat.le_refl _) _
  go_wp2_with (at_make; refine wpList_mk hb0 rfl _ _ rfl _ _ 4000 rfl rfl rfl rfl (by omega) ?_; intro w1 hown hb1; refine Hid.out ?_)
  refine hide ?_
  have hown1 : Ow w1 w.heap.size (.slice (some ⟨w.heap.size + 1, 0, none⟩) 4000 4000) zs := by rw [show (w.alloc digitsObj).heap.size = w.heap.size + 1 by simp] at hown; exact hown
  clear hown
  have hg1 : w.heap.size ≤ w.heap.size + 1 := by omega
  have hs1 := Bs.own hown1
  go_wp2_with fail
  generalize w.heap.size + 1 = g at *
  refine (sum_bs hs1 zs_in (by rw [zs_len]; omega)).mono ?_; rintro e w2 ⟨rfl, rfl⟩
  have hbd := at_bd a0
  go_wp2_with fail
  generalize wrap64 ((IntKind.u64.wrap a0).tmod 32000) = k0 at *
  obtain ⟨k, rfl⟩ := Int.eq_ofNat_of_zero_le hbd.1
  generalize IntKind.u64.wrap a0 = b0 at *
  have hk2 : (k : Int) ≤ 31999 := hbd.2
  have hd : (0:Int) ≤ (k : Int) := by omega
  have hlt' : (k : Int) / 8 < 4000 := by omega
  obtain ⟨hc, hfr⟩ := hown1.cell (i := k / 8) (by rw [zs_len]; omega)
  have hown2 := hown1.set (k / 8) (tb (zs[k / 8]?.getD 0) (k % 8))
  have hb2 := hb1.setCell (p := ⟨g, k / 8, none⟩) hg1 (.int .u8 (tb (zs[k / 8]?.getD 0) (k % 8)))
  have Hown2 : Hid (Ow ((w2.setCell ⟨g, k / 8, none⟩ (.int .u8 (tb (zs[k / 8]?.getD 0) (k % 8)))).drew) w.heap.size (.slice (some ⟨g, 0, none⟩) 4000 4000) (turn zs k)) := hide hown2
  have Hb2 := hide hb2.drew
  clear hown2 hb2 hown1 hs1 hb0 hbd
  go_region
  have e2 : (w2.setCell ⟨g, k / 8, none⟩ (.int .u8 (bits BinOp.xor IntKind.u8 (zs[k / 8]?.getD 0) (128 / 2 ^ (k % 8))))).drew = (w2.setCell ⟨g, k / 8, none⟩ (.int .u8 (tb (zs[k / 8]?.getD 0) (k % 8)))).drew := rfl
  rw [e2]
  have hown3 := unhide Hown2
  have hb3 := unhide Hb2
  clear Hown2 Hb2 e2 hc hfr
  generalize (w2.setCell ⟨g, k / 8, none⟩ (.int .u8 (tb (zs[k / 8]?.getD 0) (k % 8)))).drew = w3 at *
  generalize bits BinOp.xor IntKind.u8 (zs[k / 8]?.getD 0) (128 / 2 ^ (k % 8)) = t3 at *
  generalize zs[k / 8]?.getD 0 = t4 at *
  have hlen3 : (turn zs k).length = 4000 := by rw [turn_length, zs_len]
  have Hlen3 := hide hlen3
  clear hlen3
  go_wp2_with fail
  refine (find_any _ 4000 4000 (turn zs k) (sm 0xFFFF#16 zs) _ (Bs.own hown3) (unhide Hlen3) (turn_in zs_in k) (by omega)).mono ?_; rintro e w4 ⟨⟨i, er, rfl, hf⟩, rfl⟩
  obtain ⟨rfl, rfl⟩ := hf.unique (by rw [unhide Hlen3]; omega) (found (by rw [zs_len]; omega) (by rw [zs_len]; omega))
  clear hf
  have hb4 : Below w.heap.size w (w4.alloc (.cells #[.int .u8 0] 5)) := hb3.alloc hb3.size _
  have hb5 : Below w4.heap.size w4 (w4.alloc (.cells #[.int .u8 0] 5)) := (Below.refl _ _).alloc (Nat.le_refl _) _
  go_wp2_with (at_builtin; refine wpList_app hb4 (by rfl) _ _ rfl _ _ rfl rfl (turn zs k) [0] (World.ownsRow.alloc hown3 _) (bs_one _ _ _ rfl) (by rw [unhide Hlen3]; simp) ?_; intro v5 w5 hown5 hb6; refine Hid.out ?_)
  refine hide ?_
  obtain ⟨a5, cap5, rfl⟩ := (Bs.own hown5).form
  have h5 : (turn zs k ++ [0]).length = 4001 := by rw [List.length_append, unhide Hlen3]; rfl
  rw [h5]
  clear h5 hown5 hown3 hb3 hb4 hb5
  go_wp2_with fail
  refine (find_far a5 4001 cap5 (sm 0xFFFF#16 zs) _ (by omega)).mono ?_; rintro e w6 ⟨rfl, rfl⟩
  go_wp2_with fail
  go_ret
  exact ⟨rfl, hb6⟩

set_option maxRecDepth 100000 in
theorem lifted (os : Os) (started : os.Started) (H : Type) (enc : TypeId × Value → H) :
    ReturnsInHanded {} Try.checked os 3 .any (Rows.crcFarSpec.pre6 enc Try.prog Try.f3 Rows.crcFarRow.domain false) (Rows.crcFarSpec.post enc Try.prog Try.f3 false true false false) := by
  refine returnsInHanded_of_change (C := Try.checked) own started (by kernel_rfl) Try.func3
    (ChangeSpec.witness6 (enc := enc) (C := Try.checked) false ⟨#[], #[.int .i64 0], []⟩ 8 (by kernel_rfl) (by kernel_rfl) (by kernel_rfl) (by kernel_rfl)) ?_
  intro W base args ds gs before hval0 hW hcnd _
  have hval : ∀ (j : Nat) t v, Try.f3.params[j]? = some t → args[j]? = some v → Value.okWide Try.prog W .any base t v := hval0
  have hW' := hW
  obtain ⟨p, q, hA0, hV, rfl, hfz, hnd⟩ := hW
  have hA : DataW.TrodAll enc Try.prog W 0 (fun _ => true) true Try.f3.params.toList args.toList ds p := hA0
  rw [Try.params3] at hA hval
  obtain ⟨v0, vs0, d0, ds0, p0, q0, hargs, rfl, rfl, h0, r0⟩ := trodAll_cons hA
  obtain ⟨rfl, rfl, rfl⟩ := trodAll_nil r0
  obtain rfl : args = #[v0] := by cases args; simp_all
  obtain ⟨rfl, rfl⟩ := trodVars_none hV
  obtain ⟨a0, rfl, rfl, rfl, w0⟩ := open_int Try.underlying3 (hval 0 3 v0 rfl rfl) h0
  clear hA0 hval0
  refine (walk a0 w0 W).mono fun e W' ⟨he, bel⟩ => ?_
  subst he
  exact ⟨_, rfl, _, _, _, [], _, [], hW', trodAll_mk1 (shut_bool Try.underlying4 _), (trodAll_cons_mk (shut_int Try.underlying3 w0) trodAll_mk0), rfl, bel.frame _, fun h => by cases h⟩

theorem over : Rows.crcFarRow.holds Try.pinned (OpenSpec.ofChange Rows.crcFarSpec) :=
  OpenClaim.holds_of_wide 3 Try.f3 rfl rfl rfl rfl rfl rfl rfl ⟨rfl, rfl, rfl, rfl, rfl⟩ rfl rfl rfl rfl rfl (by kernel_rfl) Try.func3 (by kernel_rfl)
    (of_decide_eq_true (by kernel_rfl)) (by unfold Func.isWrapper; first | (rw [if_pos (by decide +kernel)]; kernel_rfl) | (rw [if_neg (by decide +kernel)]; exact ⟨rfl, rfl⟩))
    (fun os started H enc _ => lifted os started H enc)

theorem proved : Rows.CrcFarSaid := over
end Go.Proofs.Ytionibfijnabnab.crcFar
