/- For every list of bytes, every telegram and every place the law TeleNoise answers true: a stream without the mark has no telegram, and one that is put into it is found there, and nothing else (lists of at most 500 bytes are looked at, as the law says); no conditions. -/
import Derived.Test.YtglleofhcokeiabTAwake
import Derived.Test.YtglleofhcokeiabArgs
import Derived.Test.YtglleofhcokeiabSplM
namespace Go.Proofs.Ytglleofhcokeiab.teleNoise
open Go.ChangeShapes Go.WideShapes Go.ChangeAt Go.RowKit
set_option linter.unusedVariables false

theorem own : ownKnob Try.prog.godebug = none := by kernel_rfl
theorem laidOut : laidOutB Try.prog = true := by kernel_rfl

def mn2 (x y : Int) : Int := if y < x then y else x
theorem run_min2 (w : World) (ts : Array TypeId) (t : TypeId) (x y : Int) : Sem.run Try.prog (Builtin.min_ ts t #[.int .i64 x, .int .i64 y]) w = .ok (.int .i64 (mn2 x y)) w := by
  simp [Builtin.min_, Builtin.min2, mn2]

theorem at_is (a : Int) (n : Nat) (h1 : n ≤ 4000) : ∃ k : Nat, wrap64 ((IntKind.u64.wrap a).tmod ((n : Int) + 1)) = (k : Int) ∧ k ≤ n := by
  have hw : 0 ≤ IntKind.u64.wrap a := by simp [IntKind.wrap, IntKind.bits, IntKind.signed]; omega
  have h2 := Int.emod_nonneg (IntKind.u64.wrap a) (b := (n : Int) + 1) (by omega)
  have h3 := Int.emod_lt_of_pos (IntKind.u64.wrap a) (b := (n : Int) + 1) (by omega)
  rw [Int.tmod_eq_emod_of_nonneg hw]
  refine ⟨(IntKind.u64.wrap a % ((n : Int) + 1)).toNat, ?_, by omega⟩
  unfold wrap64
  omega

theorem step_app {w0 w : World} (hb : Below w0.heap.size w0 w) {ops : Array Oper} {o : Oper} {a : Act} {K : Act → World → Prop} {Q : Exit → Act → World → Prop} {E : Prop} (hgd : o.guard = none) (s x : Operand)
    (ho : o.op = .call { callee := .builtin .append, args := #[s, x], argTypes := #[22, 22] }) (v u : Value) (hs : a.eval s = v) (hx : a.eval x = u)
    (xs l : List Int) (hown : Ow w w0.heap.size v xs) (hu : Bs w u l) (hn : xs.length + l.length ≤ 1000000)
    (h : ∀ v' w', Ow w' w0.heap.size v' (xs ++ l) → Below w0.heap.size w0 w' → K (a.put o.dst v') w') :
    if Region.wanted o (yielded ops a.tmps) = true then Oper.wp Try.prog o a w K Q else E := by
  have hw : Region.wanted o (yielded ops a.tmps) = true := by simp [Region.wanted, hgd]
  rw [if_pos hw]
  obtain ⟨v', w', hr, h2, h3⟩ := run_app hown hb.size hu hn o.type
  unfold Oper.wp execOp
  simp only [ho, resolve, invoke, builtin, Sem.run_bind, Sem.run_pure, Result.andThen_ok, List.map_toArray, List.map_cons, List.map_nil, hs, hx, hr]
  exact h v' w' h2 (hb.grown h3 hb.size (own_row hown))

theorem ow_at {w : World} {B n cap : Nat} {a : Option Addr} {l : List Int} (h : Ow w B (.slice a n cap) l) (k : Nat) (hk : k < l.length) :
    ∃ g, a = some ⟨g, 0, none⟩ ∧ B ≤ g ∧ w.cell? ⟨g, k, none⟩ = some (.int .u8 (l[k]?.getD 0)) ∧ w.frozen? ⟨g, k, none⟩ = false := by
  obtain ⟨g, c, hv, hg1, hg2⟩ := World.ownsRow.form h (by omega)
  simp only [Value.slice.injEq] at hv
  obtain ⟨rfl, rfl, rfl⟩ := hv
  obtain ⟨h1, h2⟩ := h.cell hk
  exact ⟨g, rfl, hg1, h1, h2⟩

theorem noise_left (l : List Int) (h : ∀ z ∈ l, z ≠ 165) : (spl l).2.1.length = min l.length 11 := by
  refine spl_ind (fun l => (∀ z ∈ l, z ≠ 165) → (spl l).2.1.length = min l.length 11) (fun l ih hl => ?_) l h
  by_cases h12 : 12 ≤ l.length
  · cases l with
    | nil => simp at h12
    | cons z l =>
      rw [spl_off (hl z (by simp)) l (by simp at h12; omega)]
      have := ih l (by simp) (fun y hy => hl y (by simp [hy]))
      simp at h12 ⊢
      rw [this]; omega
  · rw [spl_short (by omega)]
    show l.length = _
    omega

set_option maxHeartbeats 1000000 in
theorem walk_far (a0 : Option Addr) (n cap : Nat) (k d s a b q : Int) (w : World) (h : (500 : Int) < (n : Int)) :
    Calls Try.prog 3 #[.slice a0 n cap, .agg #[.int .u8 k, .int .u16 d, .int .u16 s, .int .u16 a, .int .u16 b], .int .i64 q] w fun e w' => e = .returned (.bool true) ∧ Below w.heap.size w w' := by
  go_enter Try.func3, Try.ntmps3
  go_wp2_with fail
  refine (tawake_any _).mono ?_; rintro e w1 ⟨rfl, hb1⟩
  go_wp2_with fail
  refine (tawake_any _).mono ?_; rintro e w2 ⟨rfl, hb2⟩
  go_wp2_with fail
  go_ret
  exact ⟨rfl, ((Below.refl _ _).alloc (Nat.le_refl _) _).trans ((hb1.trans (hb2.mono hb1.size)).mono (by simp))⟩

set_option maxHeartbeats 4000000 in
set_option maxRecDepth 100000 in
theorem walk_l (a0 : Option Addr) (n cap : Nat) (k d s a b q : Int) (l : List Int) (w : World) (hin : Tl.In ⟨k, d, s, a, b⟩) (hbs : Bs w (.slice a0 n cap) l) (hn : l.length = n) (hinl : InB l) (hm : n ≤ 500) :
    Calls Try.prog 3 #[.slice a0 n cap, .agg #[.int .u8 k, .int .u16 d, .int .u16 s, .int .u16 a, .int .u16 b], .int .i64 q] w fun e w' => e = .returned (.bool true) ∧ Below w.heap.size w w' := by
  have i0 : ¬ (500 : Int) < (n : Int) := by omega
  have Hin := hide hin
  have Hinl := hide hinl
  have Hbs := hide hbs
  have Hn := hide hn
  have Ha := hide ((Below.refl w.heap.size w).alloc (Nat.le_refl _) (.cells #[.int .u8 k, .int .u16 d, .int .u16 s, .int .u16 a, .int .u16 b] 25))
  have HB : Hid (∀ W, Below (w.alloc (.cells #[.int .u8 k, .int .u16 d, .int .u16 s, .int .u16 a, .int .u16 b] 25)).heap.size (w.alloc (.cells #[.int .u8 k, .int .u16 d, .int .u16 s, .int .u16 a, .int .u16 b] 25)) W → W.cell? ⟨w.heap.size, 0, none⟩ = some (.int .u8 k) ∧ W.cell? ⟨w.heap.size, 1, none⟩ = some (.int .u16 d) ∧ W.cell? ⟨w.heap.size, 2, none⟩ = some (.int .u16 s) ∧ W.cell? ⟨w.heap.size, 3, none⟩ = some (.int .u16 a) ∧ W.cell? ⟨w.heap.size, 4, none⟩ = some (.int .u16 b)) := hide (fun W hW => box5 hW)
  clear hbs hn hinl hin
  go_enter Try.func3, Try.ntmps3
  go_upto_region 4 with (first
    | (go_at_call 5; refine (tawake_any _).mono ?_; rintro e w1 ⟨rfl, hb1⟩; have hbs1 := Hbs.out.keep (Ha.out.trans (hb1.mono Ha.out.size)))
    | (at_builtin; refine wpList_app (hb1.alloc hb1.size _) (by rfl) _ _ rfl _ _ rfl rfl [] l (own_empty _ _ hb1.size _ (by simp)) (hbs1.keep ((Below.refl _ _).alloc (Nat.le_refl _) _)) (by simp; rw [Hn.out]; omega) ?_; intro v1 w2 hown2 hb2; rw [List.nil_append] at hown2))
  generalize hW0 : w.alloc (.cells #[.int .u8 k, .int .u16 d, .int .u16 s, .int .u16 a, .int .u16 b] 25) = W0 at *
  clear hW0 hbs1
  obtain ⟨an, capn, rfl⟩ := (Bs.own hown2).form
  rw [Hn.out] at hown2 ⊢
  have i1 : (n : Int) ≤ 500 := by omega
  go_wp2_with fail
  go_loopw [27] (fun i wr => ∃ (j : Nat) (L : List Int), j ≤ n ∧ i = .int .i64 j ∧ L.length = n ∧ InB L ∧ (∀ m, m < j → L[m]?.getD 0 ≠ 165) ∧ Ow wr W0.heap.size (.slice an n capn) L ∧ Below W0.heap.size W0 wr) (fun i _ => n - (intOf i).toNat)
  case atStart => exact ⟨0, l, by omega, rfl, Hn.out, Hinl.out, by omega, hown2, hb2⟩
  case round =>
    obtain ⟨j, L, hj, rfl, hL, hLi, hLn, hown, hb⟩ := hrel
    have HL := hide hL
    have HLi := hide hLi
    have HLn := hide hLn
    clear hL hLi hLn hown2 hb2 hb1
    have j0 : (0 : Int) ≤ (j : Int) := by omega
    by_cases hlt : j < n
    · have j1 : (j : Int) < (n : Int) := by omega
      obtain ⟨g, rfl, hg, hcell, hfr⟩ := ow_at hown j (by rw [HL.out]; exact hlt)
      obtain ⟨z0, hz0⟩ : ∃ z0, L[j]?.getD 0 = z0 := ⟨_, rfl⟩
      rw [hz0] at hcell
      have Hz := hide hz0
      have Hown := hide hown
      have Hb := hide hb
      clear hown hb hz0
      by_cases hz : z0 = 165
      · subst hz
        go_wp2_with fail
        go_roundw
        case rel =>
          refine ⟨j + 1, L.set j 0, by omega, by go_num, by rw [List.length_set]; exact HL.out, ?_, ?_, Ow.set Hown.out j 0, Hb.out.setCell hg _⟩
          · intro z hz
            rcases List.mem_or_eq_of_mem_set hz with h' | rfl
            · exact HLi.out z h'
            · omega
          · intro m hm
            by_cases he : m = j
            · subst he
              rw [List.getElem?_set_self (by rw [HL.out]; exact hlt)]
              simp
            · rw [List.getElem?_set_ne (by omega)]
              exact HLn.out m (by omega)
        case measure => simp [intOf]; omega
      · have hzb : (z0 == 165) = false := by simpa using hz
        go_wp2_with fail
        go_roundw
        case rel =>
          refine ⟨j + 1, L, by omega, by go_num, HL.out, HLi.out, ?_, Hown.out, Hb.out⟩
          intro m hm
          by_cases he : m = j
          · subst he; rw [Hz.out]; exact hz
          · exact HLn.out m (by omega)
        case measure => simp [intOf]; omega
    · have hjn : j = n := by omega
      have Hno : Hid (∀ z ∈ L, z ≠ 165) := hide (by
        intro z hz
        obtain ⟨m, hm, rfl⟩ := List.getElem_of_mem hz
        have := HLn.out m (by rw [hjn, ← HL.out]; exact hm)
        rw [List.getElem?_eq_getElem hm] at this
        exact this)
      have K6 := hide (split_any (Bs.own hown) (Cp.own hown) HLi.out (by rw [HL.out]; omega))
      have HF : Hid (∀ vf, Ot wr 0 vf [] → True) := hide (fun _ _ => trivial)
      have Hs1 := hide (spl_none L Hno.out)
      have Hs2 := hide (noise_left L Hno.out)
      have Hs3 := hide (spl_count L)
      subst hjn
      clear HLn hj hlt
      go_upto_region 11 with (go_at_call 6; refine K6.out.mono ?_; rintro e w3 ⟨vf, vl, rfl, hot3, hown3, hb3⟩)
      rw [Hs1.out] at hot3
      have hvf : ∃ af capf, vf = .slice af 0 capf := by
        rcases hot3.2 with ⟨h, _⟩ | ⟨g, c, cur, h, _⟩
        · exact ⟨_, _, h⟩
        · exact ⟨_, _, h⟩
      obtain ⟨af, capf, rfl⟩ := hvf
      obtain ⟨al, capl, rfl⟩ := (Bs.own hown3).form
      have Hc3 : Hid ((spl L).2.1.length + (spl L).2.2 = j) := hide (by have := Hs3.out; rw [Hs1.out, HL.out] at this; simpa using this)
      rw [HL.out] at Hs2
      generalize (spl L).2.1.length = nl at *
      generalize (spl L).2.2 = kk at *
      have km := fun W => run_min2 W #[3, 3] 3 j 11
      have hmn : mn2 j 11 = (nl : Int) := by rw [Hs2.out]; unfold mn2; split <;> omega
      have e1 : (kk : Int) + (nl : Int) = (j : Int) := by have := Hc3.out; omega
      have e2 : (kk : Int) ≤ 500 := by omega
      have e3 : (nl : Int) ≤ 500 := by omega
      have hb03 := hb.trans (hb3.mono hb.size)
      have hownN := hown.keep hb3
      obtain ⟨p0, p1, p2, p3, p4⟩ := HB.out _ hb03
      have HLi2 := HLi
      have Hcnt0 := Hs3
      clear hot3 hown3 hb3 hb hown HLi K6 HF Hs1 Hs3
      by_cases hz : chk ⟨k, d, s, a, b⟩ = 0
      · have K7 := hide (fun W => encode_yes k d s a b W hz Hin.out)
        have Hz := hide hz
        clear hz
        go_upto_region 17 with (go_at_call 7; refine (K7.out _).mono ?_; rintro e w4 ⟨vx, rfl, hownx, hb4⟩)
        obtain ⟨p, hp, hpl⟩ := at_is q j (by omega)
        rw [hp]
        have hb04 := hb03.trans (hb4.mono hb03.size)
        have hown4 := hownN.keep hb4
        have Hcnt := hide (spl_count (L.take p ++ enc ⟨k, d, s, a, b⟩ ++ L.drop p))
        have Hone := hide (spl_between (L.take p) (L.drop p) ⟨k, d, s, a, b⟩ Hz.out (fun z hz => Hno.out z (List.mem_of_mem_take hz)) (fun z hz => Hno.out z (List.mem_of_mem_drop hz)))
        have Hlen : Hid ((L.take p ++ enc ⟨k, d, s, a, b⟩ ++ L.drop p).length = j + 12) := hide (by rw [List.length_append, List.length_append, enc_len, List.length_take, List.length_drop, HL.out]; omega)
        have Hinn : Hid (InB (L.take p ++ enc ⟨k, d, s, a, b⟩ ++ L.drop p)) := hide (((in_take HLi2.out p).append (enc_in _ Hin.out)).append (in_drop HLi2.out p))
        have K6 := hide (fun W B v (h : Ow W B v (L.take p ++ enc ⟨k, d, s, a, b⟩ ++ L.drop p)) => split_any (Bs.own h) (Cp.own h) Hinn.out (by rw [Hlen.out]; omega))
        have HE := hide (enc_len ⟨k, d, s, a, b⟩)
        generalize enc ⟨k, d, s, a, b⟩ = le at *
        have t0 : (0 : Int) ≤ (p : Int) := by omega
        have t1 : (p : Int) ≤ (j : Int) := by omega
        have Hb04 := hide hb04
        clear K7 p0 p1 p2 p3 p4 hb03 hb4 hownN hb04 hp Hcnt0
        have hE := (Below.refl w4.heap.size w4).alloc (Nat.le_refl _) (.cells #[] 5)
        rcases hown4.2 with ⟨h1, h2⟩ | ⟨g, cp, cur, h1, h3, h4, h5, h6⟩
        · simp only [Value.slice.injEq] at h1
          obtain ⟨rfl, rfl, rfl⟩ := h1
          have hpp : p = 0 := by omega
          subst hpp
          obtain rfl : L = [] := List.eq_nil_of_length_eq_zero HL.out
          simp only [List.take_nil, List.drop_nil, List.nil_append, List.append_nil] at Hcnt Hone Hlen K6
          have FB : Hid (∀ W, Below w4.heap.size w4 W → Bs W (.slice none 0 0) [] ∧ Bs W (.slice none 0 0) [] ∧ Bs W vx le) := hide (fun W hW => ⟨.inl ⟨rfl, rfl⟩, .inl ⟨rfl, rfl⟩, Bs.own (hownx.keep hW)⟩)
          clear hown4 hownx
          go_region_held3 (fun _ => True) (trivial)
            (first
              | (refine step_app (w0 := w4) ?_ (by rfl) (.tmp 81) (.tmp 84) (by rfl) _ _ (by rfl) (by rfl) [] [] ?_ (FB.out _ ?_).1 ?_ ?_; exact ⟨hE.os, hE.tape, hE.output, hE.size, hE.block⟩; exact own_empty _ _ (Nat.le_refl _) _ rfl; exact ⟨hE.os, hE.tape, hE.output, hE.size, hE.block⟩; (simp); intro v5 w5 hown5 hb5; rw [List.nil_append] at hown5)
              | (refine step_app (w0 := w4) ?_ (by rfl) (.tmp 85) (.tmp 86) (by rfl) _ _ (by rfl) (by rfl) [] le ?_ (FB.out _ ?_).2.2 ?_ ?_; exact ⟨hb5.os, hb5.tape, hb5.output, hb5.size, hb5.block⟩; exact hown5; exact ⟨hb5.os, hb5.tape, hb5.output, hb5.size, hb5.block⟩; (simp; rw [HE.out]; omega); intro v6 w6 hown6 hb6; rw [List.nil_append] at hown6)
              | (refine step_app (w0 := w4) ?_ (by rfl) (.tmp 87) (.tmp 90) (by rfl) _ _ (by rfl) (by rfl) le [] ?_ (FB.out _ ?_).2.1 ?_ ?_; exact ⟨hb6.os, hb6.tape, hb6.output, hb6.size, hb6.block⟩; exact hown6; exact ⟨hb6.os, hb6.tape, hb6.output, hb6.size, hb6.block⟩; (simp; rw [HE.out]; omega); intro v7 w7 hown7 hb7; rw [List.append_nil] at hown7)
              | (go_at_call 6; refine (K6.out _ w4.heap.size _ ?_).mono ?_; exact hown7; rintro e w8 ⟨vf8, vl8, rfl, hot8, hown8, hb8⟩))
          rw [Hone.out] at hot8
          obtain ⟨al8, capl8, rfl⟩ := (Bs.own hown8).form
          have hc8 : (spl le).2.1.length + (spl le).2.2 = 0 := by
            have := Hcnt.out; rw [Hone.out, Hlen.out] at this; simp at this; omega
          generalize (spl le).2.1.length = n8 at *
          generalize (spl le).2.2 = k8 at *
          have f1 : (k8 : Int) + (n8 : Int) = 0 := by omega
          have f2 : (k8 : Int) ≤ 500 := by omega
          have f3 : (n8 : Int) ≤ 500 := by omega
          have hd8 : Below w4.heap.size w4 w8 := hb7.trans ⟨hb8.os, hb8.tape, hb8.output, Nat.le_trans (Nat.le_refl _) hb8.size, fun i hi => hb8.block i (Nat.lt_of_lt_of_le hi hb7.size)⟩
          have hd0 := Hb04.out.trans (hd8.mono Hb04.out.size)
          obtain ⟨p0, p1, p2, p3, p4⟩ := HB.out _ hd0
          have Hend := hide (Ha.out.trans (hd0.mono Ha.out.size))
          rcases hot8.2 with ⟨hv, h0⟩ | ⟨g8, cp8, cur8, hv, hB8, hh8, hn8, hm8, hs8, ht8⟩
          · simp at h0
          subst hv
          have cc : ∀ i, i < 5 → w8.cell? ⟨g8, i, none⟩ = (fl [⟨k, d, s, a, b⟩])[i]? := fun i hi => by
            unfold World.cell?
            simp only [hh8]
            show cur8[i]? = _
            rw [← ht8, List.getElem?_take_of_lt (by simpa using hi), Array.getElem?_toList]
          have r0 : w8.cell? ⟨g8, 0, none⟩ = some (.int .u8 k) := cc 0 (by omega)
          have r1 : w8.cell? ⟨g8, 1, none⟩ = some (.int .u16 d) := cc 1 (by omega)
          have r2 : w8.cell? ⟨g8, 2, none⟩ = some (.int .u16 s) := cc 2 (by omega)
          have r3 : w8.cell? ⟨g8, 3, none⟩ = some (.int .u16 a) := cc 3 (by omega)
          have r4 : w8.cell? ⟨g8, 4, none⟩ = some (.int .u16 b) := cc 4 (by omega)
          clear cc hot8 hown8 hh8 hs8 ht8 hb8 hd8 hd0 Hcnt Hone Hlen hc8 hown5 hown6 hown7 hb5 hb6 hb7 FB K6
          go_wp2_with fail
          go_quiet (fail)
          go_wp2_with fail
          go_ret
          exact ⟨rfl, Hend.out.drewN _⟩
        · simp only [Value.slice.injEq] at h1
          obtain ⟨rfl, hjj, rfl⟩ := h1
          rw [HL.out] at h5
          clear hjj h4 h6
          have t2 : (p : Int) ≤ (capn : Int) := by omega
          have t3 : (j : Int) ≤ (capn : Int) := by omega
          by_cases hcp : capn = p
          · have hjp : j = capn := by omega
            have hpp : p = capn := by omega
            subst hpp
            subst hjp
            have hnil : L.drop j = [] := List.drop_eq_nil_of_le (by rw [HL.out]; omega)
            have FB : Hid (∀ W, Below w4.heap.size w4 W → Bs W (.slice (some ⟨g, 0, none⟩) j j) (L.take j) ∧ Bs W (.slice (some ⟨g, 0, none⟩) 0 0) (L.drop j) ∧ Bs W vx le) := hide (fun W hW => by
              have hB := Bs.own (hown4.keep hW)
              refine ⟨bs_take hB j (by rw [HL.out]; omega), ?_, Bs.own (hownx.keep hW)⟩
              rw [hnil]
              exact .inr ⟨_, _, rfl, fun i hi => by simp at hi⟩)
            clear hnil
            clear hown4 hownx
            go_region_held3 (fun _ => True) (trivial)
              (first
                | (refine step_app (w0 := w4) ?_ (by rfl) (.tmp 81) (.tmp 84) (by rfl) _ _ (by rfl) (by rfl) [] (L.take j) ?_ (FB.out _ ?_).1 ?_ ?_; exact ⟨hE.os, hE.tape, hE.output, hE.size, hE.block⟩; exact own_empty _ _ (Nat.le_refl _) _ rfl; exact ⟨hE.os, hE.tape, hE.output, hE.size, hE.block⟩; (simp; omega); intro v5 w5 hown5 hb5)
                | (refine step_app (w0 := w4) ?_ (by rfl) (.tmp 85) (.tmp 86) (by rfl) _ _ (by rfl) (by rfl) (L.take j) le ?_ (FB.out _ ?_).2.2 ?_ ?_; exact ⟨hb5.os, hb5.tape, hb5.output, hb5.size, hb5.block⟩; exact hown5; exact ⟨hb5.os, hb5.tape, hb5.output, hb5.size, hb5.block⟩; (simp; rw [HE.out]; omega); intro v6 w6 hown6 hb6)
                | (refine step_app (w0 := w4) ?_ (by rfl) (.tmp 87) (.tmp 90) (by rfl) _ _ (by rfl) (by rfl) (L.take j ++ le) (L.drop j) ?_ (FB.out _ ?_).2.1 ?_ ?_; exact ⟨hb6.os, hb6.tape, hb6.output, hb6.size, hb6.block⟩; exact hown6; exact ⟨hb6.os, hb6.tape, hb6.output, hb6.size, hb6.block⟩; (simp; rw [HE.out, HL.out]; omega); intro v7 w7 hown7 hb7)
                | (go_at_call 6; refine (K6.out _ w4.heap.size _ ?_).mono ?_; exact hown7; rintro e w8 ⟨vf8, vl8, rfl, hot8, hown8, hb8⟩))
            rw [List.append_assoc] at Hcnt Hone Hlen hot8 hown8
            rw [Hone.out] at hot8
            obtain ⟨al8, capl8, rfl⟩ := (Bs.own hown8).form
            have hc8 : (spl (L.take j ++ (le ++ L.drop j))).2.1.length + (spl (L.take j ++ (le ++ L.drop j))).2.2 = j := by
              have := Hcnt.out; rw [Hone.out, Hlen.out] at this; simp at this; omega
            generalize (spl (L.take j ++ (le ++ L.drop j))).2.1.length = n8 at *
            generalize (spl (L.take j ++ (le ++ L.drop j))).2.2 = k8 at *
            have f1 : (k8 : Int) + (n8 : Int) = (j : Int) := by omega
            have f2 : (k8 : Int) ≤ 500 := by omega
            have f3 : (n8 : Int) ≤ 500 := by omega
            have hd8 : Below w4.heap.size w4 w8 := hb7.trans ⟨hb8.os, hb8.tape, hb8.output, Nat.le_trans (Nat.le_refl _) hb8.size, fun i hi => hb8.block i (Nat.lt_of_lt_of_le hi hb7.size)⟩
            have hd0 := Hb04.out.trans (hd8.mono Hb04.out.size)
            obtain ⟨p0, p1, p2, p3, p4⟩ := HB.out _ hd0
            have Hend := hide (Ha.out.trans (hd0.mono Ha.out.size))
            rcases hot8.2 with ⟨hv, h0⟩ | ⟨g8, cp8, cur8, hv, hB8, hh8, hn8, hm8, hs8, ht8⟩
            · simp at h0
            subst hv
            have cc : ∀ i, i < 5 → w8.cell? ⟨g8, i, none⟩ = (fl [⟨k, d, s, a, b⟩])[i]? := fun i hi => by
              unfold World.cell?
              simp only [hh8]
              show cur8[i]? = _
              rw [← ht8, List.getElem?_take_of_lt (by simpa using hi), Array.getElem?_toList]
            have r0 : w8.cell? ⟨g8, 0, none⟩ = some (.int .u8 k) := cc 0 (by omega)
            have r1 : w8.cell? ⟨g8, 1, none⟩ = some (.int .u16 d) := cc 1 (by omega)
            have r2 : w8.cell? ⟨g8, 2, none⟩ = some (.int .u16 s) := cc 2 (by omega)
            have r3 : w8.cell? ⟨g8, 3, none⟩ = some (.int .u16 a) := cc 3 (by omega)
            have r4 : w8.cell? ⟨g8, 4, none⟩ = some (.int .u16 b) := cc 4 (by omega)
            clear cc hot8 hown8 hh8 hs8 ht8 hb8 hd8 hd0 Hcnt Hone Hlen hc8 hown5 hown6 hown7 hb5 hb6 hb7 FB K6
            go_wp2_with fail
            go_quiet (fail)
            go_wp2_with fail
            go_ret
            exact ⟨rfl, Hend.out.drewN _⟩
          · have FB : Hid (∀ W, Below w4.heap.size w4 W → Bs W (.slice (some ⟨g, 0, none⟩) p capn) (L.take p) ∧ Bs W (.slice (some ⟨g, p, none⟩) (j - p) (capn - p)) (L.drop p) ∧ Bs W vx le) := hide (fun W hW => by
              have hB := Bs.own (hown4.keep hW)
              refine ⟨bs_take hB p (by rw [HL.out]; omega), ?_, Bs.own (hownx.keep hW)⟩
              have := bs_drop (cap' := capn - p) hB p (j - p) (by rw [HL.out])
              rw [Nat.zero_add] at this
              exact this)
            clear hown4 hownx
            go_region_held3 (fun _ => True) (trivial)
              (first
                | (refine step_app (w0 := w4) ?_ (by rfl) (.tmp 81) (.tmp 84) (by rfl) _ _ (by rfl) (by rfl) [] (L.take p) ?_ (FB.out _ ?_).1 ?_ ?_; exact ⟨hE.os, hE.tape, hE.output, hE.size, hE.block⟩; exact own_empty _ _ (Nat.le_refl _) _ rfl; exact ⟨hE.os, hE.tape, hE.output, hE.size, hE.block⟩; (simp; omega); intro v5 w5 hown5 hb5)
                | (refine step_app (w0 := w4) ?_ (by rfl) (.tmp 85) (.tmp 86) (by rfl) _ _ (by rfl) (by rfl) (L.take p) le ?_ (FB.out _ ?_).2.2 ?_ ?_; exact ⟨hb5.os, hb5.tape, hb5.output, hb5.size, hb5.block⟩; exact hown5; exact ⟨hb5.os, hb5.tape, hb5.output, hb5.size, hb5.block⟩; (simp; rw [HE.out]; omega); intro v6 w6 hown6 hb6)
                | (refine step_app (w0 := w4) ?_ (by rfl) (.tmp 87) (.tmp 90) (by rfl) _ _ (by rfl) (by rfl) (L.take p ++ le) (L.drop p) ?_ (FB.out _ ?_).2.1 ?_ ?_; exact ⟨hb6.os, hb6.tape, hb6.output, hb6.size, hb6.block⟩; exact hown6; exact ⟨hb6.os, hb6.tape, hb6.output, hb6.size, hb6.block⟩; (simp; rw [HE.out, HL.out]; omega); intro v7 w7 hown7 hb7)
                | (go_at_call 6; refine (K6.out _ w4.heap.size _ ?_).mono ?_; exact hown7; rintro e w8 ⟨vf8, vl8, rfl, hot8, hown8, hb8⟩))
            rw [List.append_assoc] at Hcnt Hone Hlen hot8 hown8
            rw [Hone.out] at hot8
            obtain ⟨al8, capl8, rfl⟩ := (Bs.own hown8).form
            have hc8 : (spl (L.take p ++ (le ++ L.drop p))).2.1.length + (spl (L.take p ++ (le ++ L.drop p))).2.2 = j := by
              have := Hcnt.out; rw [Hone.out, Hlen.out] at this; simp at this; omega
            generalize (spl (L.take p ++ (le ++ L.drop p))).2.1.length = n8 at *
            generalize (spl (L.take p ++ (le ++ L.drop p))).2.2 = k8 at *
            have f1 : (k8 : Int) + (n8 : Int) = (j : Int) := by omega
            have f2 : (k8 : Int) ≤ 500 := by omega
            have f3 : (n8 : Int) ≤ 500 := by omega
            have hd8 : Below w4.heap.size w4 w8 := hb7.trans ⟨hb8.os, hb8.tape, hb8.output, Nat.le_trans (Nat.le_refl _) hb8.size, fun i hi => hb8.block i (Nat.lt_of_lt_of_le hi hb7.size)⟩
            have hd0 := Hb04.out.trans (hd8.mono Hb04.out.size)
            obtain ⟨p0, p1, p2, p3, p4⟩ := HB.out _ hd0
            have Hend := hide (Ha.out.trans (hd0.mono Ha.out.size))
            rcases hot8.2 with ⟨hv, h0⟩ | ⟨g8, cp8, cur8, hv, hB8, hh8, hn8, hm8, hs8, ht8⟩
            · simp at h0
            subst hv
            have cc : ∀ i, i < 5 → w8.cell? ⟨g8, i, none⟩ = (fl [⟨k, d, s, a, b⟩])[i]? := fun i hi => by
              unfold World.cell?
              simp only [hh8]
              show cur8[i]? = _
              rw [← ht8, List.getElem?_take_of_lt (by simpa using hi), Array.getElem?_toList]
            have r0 : w8.cell? ⟨g8, 0, none⟩ = some (.int .u8 k) := cc 0 (by omega)
            have r1 : w8.cell? ⟨g8, 1, none⟩ = some (.int .u16 d) := cc 1 (by omega)
            have r2 : w8.cell? ⟨g8, 2, none⟩ = some (.int .u16 s) := cc 2 (by omega)
            have r3 : w8.cell? ⟨g8, 3, none⟩ = some (.int .u16 a) := cc 3 (by omega)
            have r4 : w8.cell? ⟨g8, 4, none⟩ = some (.int .u16 b) := cc 4 (by omega)
            clear cc hot8 hown8 hh8 hs8 ht8 hb8 hd8 hd0 Hcnt Hone Hlen hc8 hown5 hown6 hown7 hb5 hb6 hb7 FB K6
            go_wp2_with fail
            go_quiet (fail)
            go_wp2_with fail
            go_ret
            exact ⟨rfl, Hend.out.drewN _⟩
      · have K7 := hide (fun W => encode_no k d s a b W hz)
        generalize chk ⟨k, d, s, a, b⟩ = zc at *
        have hzb : (zc != 0) = true := by simpa using hz
        go_wp2_with (go_at_call 7; refine (K7.out _).mono ?_; rintro e w4 ⟨rfl, hb4⟩)
        go_ret
        exact ⟨rfl, Ha.out.trans ((hb03.trans (hb4.mono hb03.size)).mono Ha.out.size)⟩

theorem walk (a0 : Option Addr) (len0 cap0 : Nat) (z0 : List Int) (t1 : Tl) (n2 : Int) (w : World) (w0 : IsRow .u8 w a0 len0 cap0 z0) (s0 : cap0 * Try.prog.bytesOf 5 ≤ 140737488351232) (i1 : t1.In) (h2 : -9223372036854775808 ≤ n2 ∧ n2 ≤ 9223372036854775807) :
    Calls Try.prog 3 #[.slice a0 len0 cap0, .agg #[.int .u8 t1.k, .int .u16 t1.d, .int .u16 t1.s, .int .u16 t1.a, .int .u16 t1.b], .int .i64 n2] w fun e w' => e = .returned (.bool true) ∧ Below w.heap.size w w' := by
  obtain ⟨k, d, s, a, b⟩ := t1
  obtain ⟨l, hl, hbs, hin, hm, hc⟩ := bs_of_row w0
  by_cases h : (500 : Int) < (len0 : Int)
  · exact walk_far _ _ _ _ _ _ _ _ _ w h
  · exact walk_l a0 len0 cap0 k d s a b n2 l w i1 hbs hl hin (by omega)

set_option maxRecDepth 100000 in
theorem lifted (os : Os) (started : os.Started) (H : Type) (enc : TypeId × Value → H) :
    ReturnsInHanded {} Try.checked os 3 .any (Rows.teleNoiseSpec.pre6 enc Try.prog Try.f3 Rows.teleNoiseRow.domain false) (Rows.teleNoiseSpec.post enc Try.prog Try.f3 false true false false) := by
  refine returnsInHanded_of_change_sized (C := Try.checked) own started (by kernel_rfl) Try.func3
    (ChangeSpec.witness6 (enc := enc) (C := Try.checked) false ⟨#[], #[.slice none 0 0, .agg #[.int .u8 0, .int .u16 0, .int .u16 0, .int .u16 0, .int .u16 0], .int .i64 0], []⟩ 8 (by kernel_rfl) (by kernel_rfl) (by kernel_rfl) (by kernel_rfl)) ?_
  intro W base args ds gs before hval0 hW hcnd hsz0 _
  have hval : ∀ (j : Nat) t v, Try.f3.params[j]? = some t → args[j]? = some v → Value.okWide Try.prog W .any base t v := hval0
  have hsz : (DataW.weightsEach Try.prog (Try.f3.params.toList ++ Rows.teleNoiseSpec.plain.varTypes Try.prog) (ds ++ gs)).all (· ≤ reachBytes) = true := hsz0
  have hW' := hW
  obtain ⟨p, q, hA0, hV, rfl, hfz, hnd⟩ := hW
  have hA : DataW.TrodAll enc Try.prog W 0 (fun _ => true) true Try.f3.params.toList args.toList ds p := hA0
  rw [Try.params3] at hA hval hsz
  obtain ⟨v0, vs0, d0, ds0, p0, q0, hargs, rfl, rfl, h0, r0⟩ := trodAll_cons hA
  obtain ⟨v1, vs1, d1, ds1, p1, q1, rfl, rfl, rfl, h1, r1⟩ := trodAll_cons r0
  obtain ⟨v2, vs2, d2, ds2, p2, q2, rfl, rfl, rfl, h2, r2⟩ := trodAll_cons r1
  obtain ⟨rfl, rfl, rfl⟩ := trodAll_nil r2
  obtain rfl : args = #[v0, v1, v2] := by cases args; simp_all
  obtain ⟨rfl, rfl⟩ := trodVars_none hV
  obtain ⟨a0, len0, cap0, rfl⟩ := okWide_slice Try.underlying22 (hval 0 22 v0 rfl rfl)
  have k0 := h0
  have lt0 : ∀ x ∈ p0, x.block < W.heap.size := by obtain ⟨m, hm⟩ := k0; exact DataW.trod_lt m _ _ _ hm
  obtain ⟨z0, w0⟩ : ∃ zs, IsRow .u8 W a0 len0 cap0 zs := by
    obtain ⟨fuel, hf⟩ := h0
    rcases open_ints Try.underlying22 Try.underlying5 (by kernel_rfl) hf with ⟨hcs, _⟩ | ⟨x, l, c, zs, hcs, _, hl, hm, hz, _, hcell, hwz⟩
    · simp [Value.cells] at hcs
      obtain ⟨rfl, rfl, rfl⟩ := hcs
      exact ⟨[], .inl ⟨rfl, rfl, rfl, rfl⟩⟩
    · simp [Value.cells] at hcs
      obtain ⟨rfl, rfl, rfl⟩ := hcs
      exact ⟨zs, .inr ⟨_, rfl, hl, hm, by simpa using hz, hcell, hwz⟩⟩
  have s0 : cap0 * Try.prog.bytesOf 5 ≤ 140737488351232 := by
    obtain ⟨fuel, hf⟩ := k0
    rcases open_ints Try.underlying22 Try.underlying5 (by kernel_rfl) hf with ⟨hcs, _⟩ | ⟨x, l, c, zs, hcs, _, hl, hm, hz, hx, _, _⟩
    · simp [Value.cells] at hcs
      rw [hcs.2.2]; omega
    · simp [Value.cells] at hcs
      obtain ⟨rfl, rfl, rfl⟩ := hcs
      have hd : d0 = _ := congrArg Prod.fst hx
      have := sized_slice hsz (j := 0) (t := 22) (e := 5) rfl (by rw [hd]; rfl) Try.underlying22
      simp only [lits, List.length_map, List.length_take, List.length_drop, reachBytes] at this
      simp only [if_true] at hz
      rw [hz, Nat.min_eq_left hl, Nat.add_sub_cancel' hl] at this
      exact this
  have k1 := h1
  have lt1 : ∀ x ∈ p1, x.block < W.heap.size := by obtain ⟨m, hm⟩ := k1; exact DataW.trod_lt m _ _ _ hm
  obtain ⟨cs1, rfl, _⟩ := okWide_struct Try.underlying25 (hval 1 25 v1 rfl rfl)
  obtain ⟨t1, w1, e1⟩ : ∃ t : Tl, t.In ∧ cs1 = #[.int .u8 t.k, .int .u16 t.d, .int .u16 t.s, .int .u16 t.a, .int .u16 t.b] := by
    obtain ⟨fuel, hf⟩ := h1
    obtain ⟨t, ht, he⟩ := tele_of_trod hf
    exact ⟨t, ht, by apply Array.toList_inj.1; exact he⟩
  subst e1
  have k2 := h2
  have lt2 : ∀ x ∈ p2, x.block < W.heap.size := by obtain ⟨m, hm⟩ := k2; exact DataW.trod_lt m _ _ _ hm
  obtain ⟨n2, rfl⟩ := okWide_int Try.underlying3 (hval 2 3 v2 rfl rfl)
  have w2 : (Lit.int .i64 n2).wf = true := by
    obtain ⟨fuel, hf⟩ := h2
    obtain ⟨m, e, _, hw⟩ := DataW.trod_int Try.underlying3 hf
    simp [Value.cells] at e
    rw [e]; exact hw
  clear hA0 hval0
  refine (walk a0 len0 cap0 z0 t1 n2 W w0 s0 w1 (bounds_i64 w2)).mono fun e W' ⟨he, bel⟩ => ?_
  subst he
  exact ⟨_, rfl, _, _, _, [], _, [], hW', trodAll_mk1 (shut_bool Try.underlying4 _), (trodAll_cons_mk (Below.trod laidOut (by kernel_rfl) (of_decide_eq_true (by kernel_rfl)) k0 bel lt0) (trodAll_cons_mk (Below.trod laidOut (by kernel_rfl) (of_decide_eq_true (by kernel_rfl)) k1 bel lt1) (trodAll_cons_mk (Below.trod laidOut (by kernel_rfl) (of_decide_eq_true (by kernel_rfl)) k2 bel lt2) trodAll_mk0))), rfl, bel.frame _, fun h => by cases h⟩

theorem over : Rows.teleNoiseRow.holds Try.pinned (OpenSpec.ofChange Rows.teleNoiseSpec) :=
  OpenClaim.holds_of_wide 3 Try.f3 rfl rfl rfl rfl rfl rfl rfl ⟨rfl, rfl, rfl, rfl, rfl⟩ rfl rfl rfl rfl rfl (by kernel_rfl) Try.func3 (by kernel_rfl)
    (of_decide_eq_true (by kernel_rfl)) (by unfold Func.isWrapper; first | (rw [if_pos (by decide +kernel)]; kernel_rfl) | (rw [if_neg (by decide +kernel)]; exact ⟨rfl, rfl⟩))
    (fun os started H enc _ => lifted os started H enc)

theorem proved : Rows.TeleNoiseSaid := over
end Go.Proofs.Ytglleofhcokeiab.teleNoise
