/- The document's Stuck and Ring. -/
import Derived.Test.YtmmkfcmbmecleaaZst
import Derived.Test.YtmmkfcmbmecleaaBtw
namespace Go.Proofs.Ytmmkfcmbmecleaa
open Go.RowKit
set_option linter.unusedVariables false

/-- what stands in a block of bools -/
def rdb (w : World) (g n : Nat) : List Bool := (List.range n).map (fun i => match w.cell? ⟨g, i, none⟩ with | some (.bool x) => x | _ => false)
theorem rdb_own {w : World} {B g n : Nat} {l : List Bool} (h : boolE.Own w B (.slice (some ⟨g, 0, none⟩) n n) l) (hl : l.length = n) : rdb w g n = l := by
  apply List.ext_getElem?
  intro i
  rcases Nat.lt_or_ge i n with hi | hi
  · have hz : l[i]? = some l[i] := List.getElem?_eq_getElem (by omega)
    have hc := (h.at1 Value.bool (fun _ => rfl) rfl i _ hz).1
    rw [hz]
    simp [rdb, hi, hc]
  · rw [List.getElem?_eq_none (by simp [rdb, hi]), List.getElem?_eq_none (by omega)]

/-- who is gone is safe -/
structure Gn (hs : List Hl) (gl : List Bool) : Prop where
  len : gl.length = hs.length
  safe : ∀ x : Nat, gl[x]? = some true → Safe hs x
/-- each of the first i that is left waits for one that is left -/
def Left (hs : List Hl) (gl : List Bool) (i : Nat) : Prop := ∀ x : Nat, x < i → gl[x]? = some false → ∃ k : Nat, gl[k]? = some false ∧ Wt hs x k
theorem Left.stuck {hs : List Hl} {gl : List Bool} (hg : gl.length = hs.length) (h : Left hs gl hs.length) {x : Nat} (hx : gl[x]? = some false) : ¬ Safe hs x := by
  intro hs'
  unfold Safe at hs'
  induction hs' with
  | intro x _ ih =>
    obtain ⟨k, hk, hw⟩ := h x (by have := idx_lt hx; omega) hx
    exact ih k hw hk
theorem Gn.mark {hs : List Hl} {gl : List Bool} {i : Nat} (h : Gn hs gl) (hi : i < hs.length) (hw : ∀ k : Nat, gl[k]? = some false → ¬ Wt hs i k) : Gn hs (gl.set i true) where
  len := by rw [List.length_set]; exact h.len
  safe := fun x hx => by
    by_cases e : i = x
    · subst e
      refine safe_all fun k hk => ?_
      have hk2 := hk.lt.2
      rw [← h.len] at hk2
      cases hb : gl[k] with
      | true => exact h.safe k (by rw [List.getElem?_eq_getElem hk2, hb])
      | false => exact absurd hk (hw k (by rw [List.getElem?_eq_getElem hk2, hb]))
    · rw [List.getElem?_set_ne e] at hx
      exact h.safe x hx
theorem Gn.free {hs : List Hl} {gl : List Bool} (h : Gn hs gl) (hall : ∀ i : Nat, i < hs.length → gl[i]? = some true) : Free hs := fun i hi => h.safe i (hall i hi)
theorem Gn.start (hs : List Hl) : Gn hs (List.replicate hs.length false) := ⟨by simp, fun x h => by
  rw [List.getElem?_replicate] at h
  split at h <;> simp at h⟩

/-- how a pass stands -/
def P2 (hs : List Hl) (w0 : World) (g n : Nat) (gl0 : List Bool) (i : Nat) (v4 : Value) (wr : World) : Prop := ∃ (ag : Bool) (gl : List Bool), v4 = .bool ag ∧ Below w0.heap.size w0 wr ∧ boolE.Own wr w0.heap.size (.slice (some ⟨g, 0, none⟩) n n) gl ∧ Gn hs gl ∧
  ((ag = false ∧ gl = gl0 ∧ Left hs gl i) ∨ (ag = true ∧ gl.count false < gl0.count false))
def P1 (hs : List Hl) (w0 : World) (g n : Nat) (v4 : Value) (wr : World) : Prop := ∃ (ag : Bool) (gl : List Bool), v4 = .bool ag ∧ Below w0.heap.size w0 wr ∧ boolE.Own wr w0.heap.size (.slice (some ⟨g, 0, none⟩) n n) gl ∧ Gn hs gl ∧ (ag = false → Left hs gl hs.length)
/-- whether one that is left is waited for -/
def P3 (hs : List Hl) (gl : List Bool) (i k : Nat) (v6 : Value) : Prop := ∃ wb : Bool, v6 = .bool wb ∧ (wb = true ↔ ∃ k' : Nat, k' < k ∧ gl[k']? = some false ∧ Wt hs i k')

theorem P3.step {hs : List Hl} {gl : List Bool} {i k : Nat} {wb gb : Bool} (h : wb = true ↔ ∃ k' : Nat, k' < k ∧ gl[k']? = some false ∧ Wt hs i k') (hg : gl[k]? = some gb) :
    (wb || (!gb && waitB hs i k)) = true ↔ ∃ k' : Nat, k' < k + 1 ∧ gl[k']? = some false ∧ Wt hs i k' := by
  rw [Bool.or_eq_true, Bool.and_eq_true, h, waitB_iff]
  constructor
  · rintro (⟨k', h1, h2⟩ | ⟨h1, h2⟩)
    · exact ⟨k', by omega, h2⟩
    · exact ⟨k, by omega, by rw [hg]; cases gb <;> simp_all, h2⟩
  · rintro ⟨k', h1, h2, h3⟩
    by_cases e : k' = k
    · subst e
      rw [hg] at h2
      exact .inr ⟨by cases gb <;> simp_all, h3⟩
    · exact .inl ⟨k', by omega, h2, h3⟩

set_option maxRecDepth 100000 in
set_option maxHeartbeats 8000000 in
theorem rstuck_any (a : Option Addr) (c n : Nat) (hs : List Hl) (w : World) (hn : hs.length = n) (hv : Hds rvE w (.slice a n c) hs) (hl : n ≤ 1000) (hb : ∀ p ∈ hs, p.has.length ≤ 30) (res : Bool) (hyes : ¬ Free hs → res = true) (hno : Free hs → res = false) :
    Calls Try.prog 27 #[.slice a n c] w fun e w' => e = .returned (.bool res) ∧ Below w.heap.size w w' := by
  obtain ⟨w0, rfl⟩ : ∃ w0, w0 = w := ⟨_, rfl⟩
  have yes : Hid (∀ (gl : List Bool) (x : Nat), gl.length = hs.length → Left hs gl hs.length → gl[x]? = some false → res = true) := hide (fun gl x h1 h2 h3 => hyes (fun hf => Left.stuck h1 h2 h3 (hf x (by have := idx_lt h3; omega))))
  have no : Hid (∀ (gl : List Bool), Gn hs gl → (∀ i : Nat, i < n → gl[i]? = some true) → res = false) := hide (fun gl h1 h2 => hno (h1.free (fun i hi => h2 i (by omega))))
  have K38 : Hid (∀ (x y : Nat) (W : World), Below w0.heap.size w0 W → x < n → y < n → Calls Try.prog 38 #[.slice a n c, .int .i64 (x : Int), .int .i64 (y : Int)] W fun e w' => e = .returned (.bool (waitB hs x y)) ∧ ∃ q, w' = W.drewN q) := hide (fun x y W hbw hx hy => waits_any a c n hs x y W hn (hv.keep hbw) hx hy hb)
  obtain ⟨W1, hm1, hown, hbm, _⟩ := made_bools w0 n (by omega)
  have HB1 := hide hbm
  have HO1 := hide hown
  have Hn := hide hn
  have i0 : (n : Int) ≤ 1000 := by omega
  obtain ⟨g, hg⟩ : ∃ g, w0.heap.size = g := ⟨_, rfl⟩
  have Hg := hide hg
  rw [hg] at hm1
  have HO1 : Hid (boolE.Own W1 w0.heap.size (.slice (some ⟨g, 0, none⟩) n n) (List.replicate n false)) := hide (by rw [← hg]; exact hown)
  clear hn hv hl hb hown hbm hg hyes hno
  go_enter Try.func27, Try.ntmps27
  go_upto_region 3 with fail
  clear hm1
  go_loopw [4] (fun v4 wr => Hid (P1 hs w0 g n v4 wr)) (fun v4 wr => (rdb wr g n).count false + boolN v4)
  case atStart => exact hide ⟨true, _, rfl, HB1.out, HO1.out, by have := Gn.start hs; rw [Hn.out] at this; exact this, fun h => by cases h⟩
  case round =>
    obtain ⟨ag, gl0, rfl, hB0, hO0, hG0, hL0⟩ := hrel.out
    clear hrel HB1 HO1
    have Hmeas : Hid ((rdb wr g n).count false = gl0.count false) := hide (by rw [rdb_own hO0 (by rw [hG0.len]; exact Hn.out)])
    have HB0 := hide hB0
    have HO0 := hide hO0
    have HG0 := hide hG0
    cases ag with
    | true =>
      clear hB0 hO0 hG0 hL0
      obtain ⟨cc, hcc⟩ : ∃ cc, (rdb wr g n).count false = cc := ⟨_, rfl⟩
      rw [hcc] at Hmeas
      have Hcc := hide hcc
      clear hcc
      go_upto_region 6 with fail
      go_loopw [4, 15] (fun v4 v15 wr => ∃ i : Nat, v15 = .int .i64 i ∧ i ≤ n ∧ Hid (P2 hs w0 g n gl0 i v4 wr)) (fun _ v15 _ => n - (intOf v15).toNat)
      case atStart => exact ⟨0, rfl, Nat.zero_le _, hide ⟨false, gl0, rfl, HB0.out, HO0.out, HG0.out, .inl ⟨rfl, rfl, fun x hx => by omega⟩⟩⟩
      case round =>
        clear HB0 HO0 HG0
        obtain ⟨i, rfl, hi, HP⟩ := hrel
        obtain ⟨ag, gl, rfl, hB, hO, hG, hP⟩ := HP.out
        have HB := hide hB
        have HO := hide hO
        have HG := hide hG
        have HPs := hide hP
        clear HP hB hO hG hP
        by_cases hlt : i < n
        · have g0 : (0 : Int) ≤ (i : Int) := by omega
          have g1 : (i : Int) < (n : Int) := by omega
          obtain ⟨wA, hwA⟩ : ∃ W, W = wr := ⟨_, rfl⟩
          subst hwA
          go_upto_region 10 with fail
          go_loopw [6, 20] (fun v6 v20 wr => ∃ k q : Nat, v20 = .int .i64 k ∧ k ≤ n ∧ wr = wA.drewN q ∧ Hid (P3 hs gl i k v6)) (fun _ v20 _ => n - (intOf v20).toNat)
          case atStart => exact ⟨0, 0, rfl, Nat.zero_le _, rfl, hide ⟨false, rfl, by constructor; intro h; cases h; rintro ⟨k', h, _⟩; omega⟩⟩
          case round =>
            obtain ⟨k, q, rfl, hk, rfl, HP3⟩ := hrel
            obtain ⟨wb, rfl, hwb⟩ := HP3.out
            clear HP3
            by_cases hkl : k < n
            · obtain ⟨gb, hgb⟩ : ∃ gb, gl[k]? = some gb := ⟨_, List.getElem?_eq_getElem (by rw [HG.out.len, Hn.out]; exact hkl)⟩
              have c0 := (HO.out.at1 Value.bool (fun _ => rfl) rfl k gb hgb).1
              have Hst := hide (P3.step hwb hgb)
              have Kw := hide (K38.out i k (wA.drewN q) (below_heap HB.out rfl rfl rfl rfl) hlt hkl)
              have k0 : (0 : Int) ≤ (k : Int) := by omega
              have k1 : (k : Int) < (n : Int) := by omega
              clear hwb hgb
              cases wb with
              | true =>
                go_wp2_with fail
                go_roundw
                case rel => exact ⟨k + 1, _, by go_num, by omega, rfl, hide ⟨true, rfl, by have := Hst.out; simpa using this⟩⟩
                case measure => simp [intOf]; omega
              | false =>
                cases gb with
                | true =>
                  go_wp2_with fail
                  go_roundw
                  case rel => exact ⟨k + 1, _, by go_num, by omega, rfl, hide ⟨false, rfl, by have := Hst.out; simpa using this⟩⟩
                  case measure => simp [intOf]; omega
                | false =>
                  have Hst2 : Hid (waitB hs i k = true ↔ ∃ k' : Nat, k' < k + 1 ∧ gl[k']? = some false ∧ Wt hs i k') := hide (by have := Hst.out; simpa using this)
                  clear Hst
                  generalize waitB hs i k = wv at *
                  go_wp2_with (go_at_call 38; refine (Kw.out).mono ?_; rintro e W5 ⟨rfl, q2, rfl⟩)
                  go_roundw
                  case rel => exact ⟨k + 1, _, by go_num, by omega, rfl, hide ⟨wv, rfl, Hst2.out⟩⟩
                  case measure => simp [intOf]; omega
            · obtain rfl : k = n := by omega
              have k1 : ¬ (k : Int) < (k : Int) := by omega
              obtain ⟨gb, hgb⟩ : ∃ gb, gl[i]? = some gb := ⟨_, List.getElem?_eq_getElem (by rw [HG.out.len, Hn.out]; exact hlt)⟩
              obtain ⟨c0, c1⟩ := HO.out.at1 Value.bool (fun _ => rfl) rfl i gb hgb
              have Hwb := hide hwb
              have Hgb := hide hgb
              have HB2 : Hid (Below w0.heap.size w0 (wA.drewN q)) := hide (below_heap HB.out rfl rfl rfl rfl)
              have HO2 : Hid (boolE.Own (wA.drewN q) w0.heap.size (.slice (some ⟨g, 0, none⟩) k k) gl) := hide (own_heap HO.out rfl)
              clear hwb hgb
              cases gb with
              | true =>
                have HPn : Hid (P2 hs w0 g k gl0 (i + 1) (.bool ag) (wA.drewN q)) := hide ⟨ag, gl, rfl, HB2.out, HO2.out, HG.out, by
                  rcases HPs.out with ⟨h1, h2, h3⟩ | h
                  · refine .inl ⟨h1, h2, fun x hx hxf => ?_⟩
                    by_cases e : x = i
                    · subst e; rw [Hgb.out] at hxf; cases hxf
                    · exact h3 x (by omega) hxf
                  · exact .inr h⟩
                go_wp2_with fail
                go_roundw
                case rel => exact ⟨i + 1, by go_num, by omega, HPn⟩
                case measure => simp [intOf]; omega
              | false =>
                cases wb with
                | true =>
                  have HPn : Hid (P2 hs w0 g k gl0 (i + 1) (.bool ag) (wA.drewN q)) := hide ⟨ag, gl, rfl, HB2.out, HO2.out, HG.out, by
                    rcases HPs.out with ⟨h1, h2, h3⟩ | h
                    · refine .inl ⟨h1, h2, fun x hx hxf => ?_⟩
                      by_cases e : x = i
                      · subst e
                        obtain ⟨k', _, hk1, hk2⟩ := Hwb.out.1 rfl
                        exact ⟨k', hk1, hk2⟩
                      · exact h3 x (by omega) hxf
                    · exact .inr h⟩
                  go_wp2_with fail
                  go_roundw
                  case rel => exact ⟨i + 1, by go_num, by omega, HPn⟩
                  case measure => simp [intOf]; omega
                | false =>
                  have HPn : Hid (P2 hs w0 g k gl0 (i + 1) (.bool true) ((wA.drewN q).setCell ⟨g, i, none⟩ (.bool true))) := hide ⟨true, gl.set i true, rfl, HB2.out.setCell (p := ⟨g, i, none⟩) (by rw [← Hg.out]; exact Nat.le_refl _) _, HO2.out.set Value.bool (fun _ => rfl) rfl i true, HG.out.mark (by rw [Hn.out]; exact hlt) (fun k' h1 h2 => by
                    have := Hwb.out.2 ⟨k', by have := idx_lt h1; rw [HG.out.len, Hn.out] at this; exact this, h1, h2⟩
                    cases this), .inr ⟨rfl, by
                      have := count_set Hgb.out
                      rcases HPs.out with ⟨_, h2, _⟩ | ⟨_, h⟩
                      · rw [← h2]; omega
                      · omega⟩⟩
                  go_wp2_with fail
                  go_roundw
                  case rel => exact ⟨i + 1, by go_num, by omega, HPn⟩
                  case measure => simp [intOf]; omega
        · obtain rfl : i = n := by omega
          have g1 : ¬ (i : Int) < (i : Int) := by omega
          have HP1 : Hid (P1 hs w0 g i (.bool ag) wr) := hide ⟨ag, gl, rfl, HB.out, HO.out, HG.out, fun h => by
            rcases HPs.out with ⟨_, _, h3⟩ | ⟨h1, _⟩
            · rw [Hn.out]; exact h3
            · rw [h] at h1; cases h1⟩
          have Hm2 : Hid ((rdb wr g i).count false + boolN (.bool ag) < cc + 1) := hide (by
            rw [rdb_own HO.out (by rw [HG.out.len]; exact Hn.out)]
            rcases HPs.out with ⟨rfl, rfl, _⟩ | ⟨rfl, h⟩
            · rw [Hmeas.out]; simp [boolN]
            · rw [Hmeas.out]; simp [boolN]; exact h)
          go_wp2_with fail
          go_roundw
          case rel => exact HP1
          case measure => rw [Hcc.out]; exact Hm2.out
    | false =>
      have HL := hide (hL0 rfl)
      clear hB0 hO0 hG0 hL0 Hmeas
      go_upto_region 19 with fail
      go_loopw [53] (fun v53 wr => ∃ i : Nat, v53 = .int .i64 i ∧ i ≤ n ∧ Hid (Below w0.heap.size w0 wr) ∧ Hid (boolE.Own wr w0.heap.size (.slice (some ⟨g, 0, none⟩) n n) gl0) ∧ Hid (∀ j : Nat, j < i → gl0[j]? = some true)) (fun v53 _ => n - (intOf v53).toNat)
      case atStart => exact ⟨0, rfl, Nat.zero_le _, HB0, HO0, hide (fun j hj => by omega)⟩
      case round =>
        clear HB0 HO0
        obtain ⟨i, rfl, hi, HB, HO, HJ⟩ := hrel
        by_cases hlt : i < n
        · have g0 : (0 : Int) ≤ (i : Int) := by omega
          have g1 : (i : Int) < (n : Int) := by omega
          obtain ⟨gb, hgb⟩ : ∃ gb, gl0[i]? = some gb := ⟨_, List.getElem?_eq_getElem (by rw [HG0.out.len, Hn.out]; exact hlt)⟩
          have c0 := (HO.out.at1 Value.bool (fun _ => rfl) rfl i gb hgb).1
          have Hgb := hide hgb
          clear hgb
          cases gb with
          | false =>
            have e1 := yes.out gl0 i HG0.out.len HL.out Hgb.out
            subst e1
            go_wp2_with fail
            go_ret
            exact ⟨rfl, HB.out⟩
          | true =>
            have HJ1 : Hid (∀ j : Nat, j < i + 1 → gl0[j]? = some true) := hide (fun j hj => by
              rcases Nat.lt_or_ge j i with g | g
              · exact HJ.out j g
              · obtain rfl : j = i := by omega
                exact Hgb.out)
            go_wp2_with fail
            go_roundw
            case rel => exact ⟨i + 1, by go_num, by omega, HB, HO, HJ1⟩
            case measure => simp [intOf]; omega
        · obtain rfl : i = n := by omega
          have g1 : ¬ (i : Int) < (i : Int) := by omega
          have e1 := no.out gl0 HG0.out HJ.out
          subst e1
          go_wp2_with fail
          go_ret
          exact ⟨rfl, HB.out⟩
end Go.Proofs.Ytmmkfcmbmecleaa
