/- For every three lists of bytes the law CrcMixed answers true: of three lists of one length, turned by one another, the sum is that of their sums (the first 2,000 bytes at most are looked at, as the law says); no conditions. -/
import Derived.Test.YtionibfijnabnabFind
import Derived.Test.YtionibfijnabnabMake
import Derived.Deep.QuietTactic
import Derived.BigQuiet
import Derived.Deep.RegionWith
namespace Go.Proofs.Ytionibfijnabnab.crcMixed
open Go.ChangeShapes Go.WideShapes Go.ChangeAt Go.RowKit
set_option linter.unusedVariables false

theorem own : ownKnob Try.prog.godebug = none := by kernel_rfl
theorem laidOut : laidOutB Try.prog = true := by kernel_rfl

def mn4 (x y z u : Int) : Int := if u < (if z < (if y < x then y else x) then z else (if y < x then y else x)) then u else (if z < (if y < x then y else x) then z else (if y < x then y else x))
theorem run_min4 (w : World) (ts : Array TypeId) (t : TypeId) (x y z u : Int) : Sem.run Try.prog (Builtin.min_ ts t #[.int .i64 x, .int .i64 y, .int .i64 z, .int .i64 u]) w = .ok (.int .i64 (mn4 x y z u)) w := by
  simp [Builtin.min_, Builtin.min2, mn4]
theorem mn4_is (x y z : Nat) : ∃ n : Nat, mn4 x y z 2000 = (n : Int) ∧ n ≤ x ∧ n ≤ y ∧ n ≤ z ∧ n ≤ 2000 := by
  refine ⟨(mn4 x y z 2000).toNat, ?_⟩
  unfold mn4
  split <;> split <;> split <;> omega

/-- three lists turned by one another -/
def mix (a b c : List Int) : List Int := List.zipWith (bits .xor .u8) (List.zipWith (bits .xor .u8) a b) c

theorem xor3 (a b c d e f : BitVec 16) : (a ^^^ b ^^^ c) ^^^ (d ^^^ e ^^^ f) = (a ^^^ d) ^^^ (b ^^^ e) ^^^ (c ^^^ f) := by
  rw [xor_mid, xor_mid a b]

theorem sm_mix (la lb lc : List Int) (a b c : BitVec 16) (h1 : la.length = lb.length) (h2 : lb.length = lc.length) : sm (a ^^^ b ^^^ c) (mix la lb lc) = sm a la ^^^ sm b lb ^^^ sm c lc := by
  induction la generalizing lb lc a b c with
  | nil =>
    cases lb with
    | nil => cases lc with
      | nil => rfl
      | cons z lc => simp at h2
    | cons y lb => simp at h1
  | cons x la ih =>
    cases lb with
    | nil => simp at h1
    | cons y lb =>
      cases lc with
      | nil => simp at h2
      | cons z lc =>
        have e : stp (a ^^^ b ^^^ c) (bits .xor .u8 (bits .xor .u8 x y) z) = stp a x ^^^ stp b y ^^^ stp c z := by
          unfold stp
          rw [hi_xor, hi_xor, xor3, pw_xor, pw_xor]
        have := ih lb lc (stp a x) (stp b y) (stp c z) (by simpa using h1) (by simpa using h2)
        show sm (stp (a ^^^ b ^^^ c) (bits .xor .u8 (bits .xor .u8 x y) z)) (mix la lb lc) = _
        rw [e, this]
        rfl

theorem mix_length (la lb lc : List Int) (h1 : la.length = lb.length) (h2 : lb.length = lc.length) : (mix la lb lc).length = la.length := by
  unfold mix; simp; omega

theorem mix_at (la lb lc : List Int) (k : Nat) (h1 : k < la.length) (h2 : k < lb.length) (h3 : k < lc.length) : (mix la lb lc)[k]?.getD 0 = bits .xor .u8 (bits .xor .u8 (la[k]?.getD 0) (lb[k]?.getD 0)) (lc[k]?.getD 0) := by
  have hl : k < (mix la lb lc).length := by unfold mix; simp; omega
  rw [List.getElem?_eq_getElem hl, List.getElem?_eq_getElem h1, List.getElem?_eq_getElem h2, List.getElem?_eq_getElem h3]
  simp only [mix, Option.getD_some, List.getElem_zipWith]

theorem mix_in (la lb lc : List Int) : InB (mix la lb lc) := by
  intro z hz
  unfold mix at hz
  obtain ⟨i, hi, rfl⟩ := List.mem_iff_getElem.1 hz
  rw [List.getElem_zipWith, xor8]
  have := (BitVec.ofInt 8 ((List.zipWith (bits .xor .u8) la lb)[i]'(by simp at hi ⊢; omega)) ^^^ BitVec.ofInt 8 (lc[i]'(by simp at hi; omega))).isLt
  omega

/-- the first k are laid -/
def laid (m : List Int) (k : Nat) : List Int := m.take k ++ List.replicate (m.length - k) 0
theorem laid_zero (m : List Int) : laid m 0 = List.replicate m.length 0 := by simp [laid]
theorem laid_all (m : List Int) : laid m m.length = m := by simp [laid]
theorem laid_length (m : List Int) (k : Nat) (h : k ≤ m.length) : (laid m k).length = m.length := by simp [laid]; omega
theorem laid_set (m : List Int) (k : Nat) (h : k < m.length) : (laid m k).set k (m[k]?.getD 0) = laid m (k + 1) := by
  unfold laid
  rw [List.set_append_right _ _ (by simp; omega)]
  have e : m.length - k = (m.length - (k + 1)) + 1 := by omega
  rw [e, List.replicate_succ, show k - (m.take k).length = 0 by simp; omega, List.set_cons_zero, List.take_succ_eq_append_getElem h, List.getElem?_eq_getElem h]
  simp only [Option.getD_some, List.append_assoc, List.singleton_append]

theorem bs_at {w : World} {a : Option Addr} {len cap : Nat} {l : List Int} (h : Bs w (.slice a len cap) l) (k : Nat) (hk : k < l.length) : ∃ b off, a = some ⟨b, off, none⟩ ∧ w.cell? ⟨b, off + k, none⟩ = some (.int .u8 (l[k]?.getD 0)) := by
  rcases h with ⟨h, rfl⟩ | ⟨x, c, h, hc⟩
  · simp at hk
  · simp only [Value.slice.injEq] at h
    obtain ⟨b, off, spot⟩ := x
    have hspot : spot = none := by simpa [Addr.add] using World.cell?_spot (hc 0 (by omega))
    subst hspot
    have h1 := hc k hk
    rw [add_plain] at h1
    exact ⟨b, off, h.1, h1⟩
theorem bs_take {w : World} {a : Option Addr} {len cap : Nat} {l : List Int} (h : Bs w (.slice a len cap) l) (hl : l.length = len) (k : Nat) (hk : k ≤ len) : Bs w (.slice a k cap) (l.take k) := by
  rcases h with ⟨h, rfl⟩ | ⟨x, c, h, hc⟩
  · simp only [Value.slice.injEq] at h
    obtain ⟨rfl, rfl, rfl⟩ := h
    have : k = 0 := by omega
    subst this
    exact .inl ⟨rfl, rfl⟩
  · simp only [Value.slice.injEq] at h
    have e : (l.take k).length = k := by simp; omega
    refine .inr ⟨x, c, by rw [h.1, e, h.2.2], fun i hi => ?_⟩
    rw [e] at hi
    rw [List.getElem?_take_of_lt hi]
    exact hc i (by omega)

theorem in_take {l : List Int} (h : InB l) (k : Nat) : InB (l.take k) := fun z hz => h z (List.mem_of_mem_take hz)

set_option maxHeartbeats 1000000 in
theorem walk0 (a0 : Option Addr) (len0 cap0 : Nat) (a1 : Option Addr) (len1 cap1 : Nat) (a2 : Option Addr) (len2 cap2 : Nat) (w : World) (la lb lc : List Int)
   (hba : Bs w (.slice a0 len0 cap0) la) (hla : la.length = len0) (hbb : Bs w (.slice a1 len1 cap1) lb) (hlb : lb.length = len1) (hbc : Bs w (.slice a2 len2 cap2) lc) (hlc : lc.length = len2) (hca : len0 ≤ cap0) (hcb : len1 ≤ cap1) (hcc : len2 ≤ cap2) (ina : InB la) (inb : InB lb) (inc : InB lc)  :
    Calls Try.prog 5 #[.slice a0 len0 cap0, .slice a1 len1 cap1, .slice a2 len2 cap2] w fun e w' => e = .returned (.bool true) ∧ Below w.heap.size w w' := by
  have hb0 : Below w.heap.size w (w.alloc digitsObj) := (Below.refl _ _).alloc (Nat.le_refl _) _
  have km := fun w => run_min4 w #[3, 3, 3, 3] 3
  obtain ⟨n, hn, n0, n1, n2, n3⟩ := mn4_is len0 len1 len2
  obtain ⟨M, hM⟩ : ∃ M, M = mix (la.take n) (lb.take n) (lc.take n) := ⟨_, rfl⟩
  have hMl : M.length = n := by rw [hM, mix_length] <;> simp <;> omega
  have HM := hide hM
  have HMl := hide hMl
  have Hla := hide hla
  have Hlb := hide hlb
  have Hlc := hide hlc
  clear hM hMl hla hlb hlc
  go_enter Try.func5, Try.ntmps5
  go_wp2_with fail
  refine (awake_any _).mono ?_; rintro e w1 ⟨rfl, rfl⟩
  go_wp2_with (at_make; refine wpList_mk hb0 rfl _ _ rfl _ _ n rfl rfl rfl rfl (by omega) ?_; intro w1 hown hb1; refine Hid.out ?_)
  refine hide ?_
  clear km hn
  have hown1 : Ow w1 w.heap.size (.slice (some ⟨w.heap.size + 1, 0, none⟩) n n) (laid M 0) := by
    rw [show (w.alloc digitsObj).heap.size = w.heap.size + 1 by simp] at hown; rw [laid_zero, unhide HMl]; exact hown
  clear hown
  have hg1 : w.heap.size ≤ w.heap.size + 1 := by omega
  go_wp2_with fail
  generalize w.heap.size + 1 = g at *
  have Hown1 := hide hown1
  clear hown1
  go_loopw [9] (fun i W => ∃ k : Nat, k ≤ n ∧ i = .int .i64 k ∧ Ow W w.heap.size (.slice (some ⟨g, 0, none⟩) n n) (laid M k) ∧ Below w.heap.size w W) (fun i _ => n - (intOf i).toNat)
  case atStart => exact ⟨0, by omega, rfl, unhide Hown1, hb1⟩
  case round =>
    obtain ⟨k, hk, rfl, hown, hb⟩ := hrel
    by_cases hlt : k < n
    · obtain ⟨ba, oa, rfl, hcA⟩ := bs_at (hba.keep hb) k (by rw [unhide Hla]; omega)
      obtain ⟨bb, ob, rfl, hcB⟩ := bs_at (hbb.keep hb) k (by rw [unhide Hlb]; omega)
      obtain ⟨bc, oc, rfl, hcC⟩ := bs_at (hbc.keep hb) k (by rw [unhide Hlc]; omega)
      have hMk : (M[k]?.getD 0) = bits .xor .u8 (bits .xor .u8 (la[k]?.getD 0) (lb[k]?.getD 0)) (lc[k]?.getD 0) := by
        rw [unhide HM, mix_at _ _ _ _ (by simp; have := unhide Hla; omega) (by simp; have := unhide Hlb; omega) (by simp; have := unhide Hlc; omega)]
        rw [List.getElem?_take_of_lt hlt, List.getElem?_take_of_lt hlt, List.getElem?_take_of_lt hlt]
      generalize la[k]?.getD 0 = x at *
      generalize lb[k]?.getD 0 = y at *
      generalize lc[k]?.getD 0 = z at *
      obtain ⟨hc, hfr⟩ := hown.cell (i := k) (by rw [laid_length _ _ (by rw [unhide HMl]; omega), unhide HMl]; exact hlt)
      have hown2 := hown.set k (bits .xor .u8 (bits .xor .u8 x y) z)
      rw [← hMk, laid_set M k (by rw [unhide HMl]; exact hlt), hMk] at hown2
      have hb2 := hb.setCell (p := ⟨g, k, none⟩) hg1 (.int .u8 (bits .xor .u8 (bits .xor .u8 x y) z))
      have Hown2 := hide hown2
      have Hb2 := hide hb2
      have hk0 : (k : Int) < (len0 : Int) := by omega
      have hk1 : (k : Int) < (len1 : Int) := by omega
      have hk2 : (k : Int) < (len2 : Int) := by omega
      have hk3 : (k : Int) < (n : Int) := by omega
      clear hown2 hb2 hown hMk
      go_wp2_with fail
      go_region
      go_wp2_with fail
      go_roundw
      case rel => exact ⟨k + 1, by omega, by go_num, unhide Hown2, (unhide Hb2).drew⟩
      case measure => simp [intOf]; omega
    · have : k = n := by omega
      subst this
      have hown2 : Ow wr w.heap.size (.slice (some ⟨g, 0, none⟩) k k) M := by have := hown; rw [← unhide HMl, laid_all] at this; rw [← unhide HMl]; exact this
      have q3 : ∀ n, Bs (wr.drewN n) (.slice (some ⟨g, 0, none⟩) k k) M := fun _ => Bs.own hown2
      have q0 : ∀ n, Bs (wr.drewN n) (.slice a0 k cap0) (la.take k) := fun _ => bs_take (hba.keep hb) (unhide Hla) k n0
      have q1 : ∀ n, Bs (wr.drewN n) (.slice a1 k cap1) (lb.take k) := fun _ => bs_take (hbb.keep hb) (unhide Hlb) k n1
      have q2 : ∀ n, Bs (wr.drewN n) (.slice a2 k cap2) (lc.take k) := fun _ => bs_take (hbc.keep hb) (unhide Hlc) k n2
      have hin3 : InB M := by rw [unhide HM]; exact mix_in _ _ _
      have hl3 : M.length ≤ 140737488355328 := by rw [unhide HMl]; omega
      have hl0 : (la.take k).length ≤ 140737488355328 := by simp; omega
      have hl1 : (lb.take k).length ≤ 140737488355328 := by simp; omega
      have hl2 : (lc.take k).length ≤ 140737488355328 := by simp; omega
      have hin0 := in_take ina k
      have hin1 := in_take inb k
      have hin2 := in_take inc k
      have hsum : sm 0xFFFF#16 M = sm 0xFFFF#16 (la.take k) ^^^ sm 0xFFFF#16 (lb.take k) ^^^ sm 0xFFFF#16 (lc.take k) := by
        rw [unhide HM, ← sm_mix _ _ _ _ _ _ (by simp; have := unhide Hla; have := unhide Hlb; omega) (by simp; have := unhide Hlb; have := unhide Hlc; omega)]
        rfl
      have hx1 := xor_uv (sm 0xFFFF#16 (la.take k)) (sm 0xFFFF#16 (lb.take k))
      have hx2 := xor_uv (sm 0xFFFF#16 (la.take k) ^^^ sm 0xFFFF#16 (lb.take k)) (sm 0xFFFF#16 (lc.take k))
      rw [← hsum] at hx2
      clear hown2 hown hsum hba hbb hbc ina inb inc
      generalize la.take k = ta at *
      generalize lb.take k = tb at *
      generalize lc.take k = tc at *
      have Q0 := hide q0
      have Q1 := hide q1
      have Q2 := hide q2
      have Q3 := hide q3
      clear q0 q1 q2 q3
      go_wp2_with fail
      go_quiet ((first
        | (go_at_call_of 7 (Value.slice (some ⟨g, 0, none⟩) k k); exact Calls.quiet_of_same (sum_bs (unhide Q3 _) hin3 hl3))
        | (go_at_call_of 7 (a0); exact Calls.quiet_of_same (sum_bs (unhide Q0 _) hin0 hl0))
        | (go_at_call_of 7 (a1); exact Calls.quiet_of_same (sum_bs (unhide Q1 _) hin1 hl1))
        | (go_at_call_of 7 (a2); exact Calls.quiet_of_same (sum_bs (unhide Q2 _) hin2 hl2))))
      go_wp2_with fail
      go_ret
      exact ⟨rfl, ⟨hb.os, hb.tape, hb.output, hb.size, hb.block⟩⟩

theorem walk (a0 : Option Addr) (len0 cap0 : Nat) (z0 : List Int) (a1 : Option Addr) (len1 cap1 : Nat) (z1 : List Int) (a2 : Option Addr) (len2 cap2 : Nat) (z2 : List Int) (w : World) (w0 : IsRow .u8 w a0 len0 cap0 z0) (w1 : IsRow .u8 w a1 len1 cap1 z1) (w2 : IsRow .u8 w a2 len2 cap2 z2) :
    Calls Try.prog 5 #[.slice a0 len0 cap0, .slice a1 len1 cap1, .slice a2 len2 cap2] w fun e w' => e = .returned (.bool true) ∧ Below w.heap.size w w' := by
  obtain ⟨la, hla, hba, ina, _, hca⟩ := bs_of_row w0
  obtain ⟨lb, hlb, hbb, inb, _, hcb⟩ := bs_of_row w1
  obtain ⟨lc, hlc, hbc, inc, _, hcc⟩ := bs_of_row w2
  exact walk0 a0 len0 cap0 a1 len1 cap1 a2 len2 cap2 w la lb lc hba hla hbb hlb hbc hlc hca hcb hcc ina inb inc


set_option maxRecDepth 100000 in
theorem lifted (os : Os) (started : os.Started) (H : Type) (enc : TypeId × Value → H) :
    ReturnsInHanded {} Try.checked os 5 .any (Rows.crcMixedSpec.pre6 enc Try.prog Try.f5 Rows.crcMixedRow.domain false) (Rows.crcMixedSpec.post enc Try.prog Try.f5 false true false false) := by
  refine returnsInHanded_of_change (C := Try.checked) own started (by kernel_rfl) Try.func5
    (ChangeSpec.witness6 (enc := enc) (C := Try.checked) false ⟨#[], #[.slice none 0 0, .slice none 0 0, .slice none 0 0], []⟩ 8 (by kernel_rfl) (by kernel_rfl) (by kernel_rfl) (by kernel_rfl)) ?_
  intro W base args ds gs before hval0 hW hcnd _
  have hval : ∀ (j : Nat) t v, Try.f5.params[j]? = some t → args[j]? = some v → Value.okWide Try.prog W .any base t v := hval0
  have hW' := hW
  obtain ⟨p, q, hA0, hV, rfl, hfz, hnd⟩ := hW
  have hA : DataW.TrodAll enc Try.prog W 0 (fun _ => true) true Try.f5.params.toList args.toList ds p := hA0
  rw [Try.params5] at hA hval
  obtain ⟨v0, vs0, d0, ds0, p0, q0, hargs, rfl, rfl, h0, r0⟩ := trodAll_cons hA
  obtain ⟨v1, vs1, d1, ds1, p1, q1, rfl, rfl, rfl, h1, r1⟩ := trodAll_cons r0
  obtain ⟨v2, vs2, d2, ds2, p2, q2, rfl, rfl, rfl, h2, r2⟩ := trodAll_cons r1
  obtain ⟨rfl, rfl, rfl⟩ := trodAll_nil r2
  obtain rfl : args = #[v0, v1, v2] := by cases args; simp_all
  obtain ⟨rfl, rfl⟩ := trodVars_none hV
  obtain ⟨a0, len0, cap0, rfl⟩ := okWide_slice Try.underlying23 (hval 0 23 v0 rfl rfl)
  have k0 := h0
  have lt0 : ∀ x ∈ p0, x.block < W.heap.size := by obtain ⟨m, hm⟩ := k0; exact DataW.trod_lt m _ _ _ hm
  obtain ⟨z0, w0⟩ : ∃ zs, IsRow .u8 W a0 len0 cap0 zs := by
    obtain ⟨fuel, hf⟩ := h0
    rcases open_ints Try.underlying23 Try.underlying5 (by kernel_rfl) hf with ⟨hcs, _⟩ | ⟨x, l, c, zs, hcs, _, hl, hm, hz, _, hcell, hwz⟩
    · simp [Value.cells] at hcs
      obtain ⟨rfl, rfl, rfl⟩ := hcs
      exact ⟨[], .inl ⟨rfl, rfl, rfl, rfl⟩⟩
    · simp [Value.cells] at hcs
      obtain ⟨rfl, rfl, rfl⟩ := hcs
      exact ⟨zs, .inr ⟨_, rfl, hl, hm, by simpa using hz, hcell, hwz⟩⟩
  obtain ⟨a1, len1, cap1, rfl⟩ := okWide_slice Try.underlying23 (hval 1 23 v1 rfl rfl)
  have k1 := h1
  have lt1 : ∀ x ∈ p1, x.block < W.heap.size := by obtain ⟨m, hm⟩ := k1; exact DataW.trod_lt m _ _ _ hm
  obtain ⟨z1, w1⟩ : ∃ zs, IsRow .u8 W a1 len1 cap1 zs := by
    obtain ⟨fuel, hf⟩ := h1
    rcases open_ints Try.underlying23 Try.underlying5 (by kernel_rfl) hf with ⟨hcs, _⟩ | ⟨x, l, c, zs, hcs, _, hl, hm, hz, _, hcell, hwz⟩
    · simp [Value.cells] at hcs
      obtain ⟨rfl, rfl, rfl⟩ := hcs
      exact ⟨[], .inl ⟨rfl, rfl, rfl, rfl⟩⟩
    · simp [Value.cells] at hcs
      obtain ⟨rfl, rfl, rfl⟩ := hcs
      exact ⟨zs, .inr ⟨_, rfl, hl, hm, by simpa using hz, hcell, hwz⟩⟩
  obtain ⟨a2, len2, cap2, rfl⟩ := okWide_slice Try.underlying23 (hval 2 23 v2 rfl rfl)
  have k2 := h2
  have lt2 : ∀ x ∈ p2, x.block < W.heap.size := by obtain ⟨m, hm⟩ := k2; exact DataW.trod_lt m _ _ _ hm
  obtain ⟨z2, w2⟩ : ∃ zs, IsRow .u8 W a2 len2 cap2 zs := by
    obtain ⟨fuel, hf⟩ := h2
    rcases open_ints Try.underlying23 Try.underlying5 (by kernel_rfl) hf with ⟨hcs, _⟩ | ⟨x, l, c, zs, hcs, _, hl, hm, hz, _, hcell, hwz⟩
    · simp [Value.cells] at hcs
      obtain ⟨rfl, rfl, rfl⟩ := hcs
      exact ⟨[], .inl ⟨rfl, rfl, rfl, rfl⟩⟩
    · simp [Value.cells] at hcs
      obtain ⟨rfl, rfl, rfl⟩ := hcs
      exact ⟨zs, .inr ⟨_, rfl, hl, hm, by simpa using hz, hcell, hwz⟩⟩
  clear hA0 hval0
  refine (walk a0 len0 cap0 z0 a1 len1 cap1 z1 a2 len2 cap2 z2 W w0 w1 w2).mono fun e W' ⟨he, bel⟩ => ?_
  subst he
  exact ⟨_, rfl, _, _, _, [], _, [], hW', trodAll_mk1 (shut_bool Try.underlying4 _), (trodAll_cons_mk (Below.trod laidOut (by kernel_rfl) (of_decide_eq_true (by kernel_rfl)) k0 bel lt0) (trodAll_cons_mk (Below.trod laidOut (by kernel_rfl) (of_decide_eq_true (by kernel_rfl)) k1 bel lt1) (trodAll_cons_mk (Below.trod laidOut (by kernel_rfl) (of_decide_eq_true (by kernel_rfl)) k2 bel lt2) trodAll_mk0))), rfl, bel.frame _, fun h => by cases h⟩

theorem over : Rows.crcMixedRow.holds Try.pinned (OpenSpec.ofChange Rows.crcMixedSpec) :=
  OpenClaim.holds_of_wide 5 Try.f5 rfl rfl rfl rfl rfl rfl rfl ⟨rfl, rfl, rfl, rfl, rfl⟩ rfl rfl rfl rfl rfl (by kernel_rfl) Try.func5 (by kernel_rfl)
    (of_decide_eq_true (by kernel_rfl)) (by unfold Func.isWrapper; first | (rw [if_pos (by decide +kernel)]; kernel_rfl) | (rw [if_neg (by decide +kernel)]; exact ⟨rfl, rfl⟩))
    (fun os started H enc _ => lifted os started H enc)

theorem proved : Rows.CrcMixedSaid := over
end Go.Proofs.Ytionibfijnabnab.crcMixed
