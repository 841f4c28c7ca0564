/- Notes one behind the other: the program's Write; Read of any bytes; the document's Same. -/
import Derived.Test.YtgdoagmnhmfjkaaNrd
import Derived.Test.YtgdoagmnhmfjkaaNen
namespace Go.Proofs.Ytgdoagmnhmfjkaa
open Go.ChangeShapes Go.WideShapes Go.ChangeAt Go.RowKit
set_option linter.unusedVariables false

theorem read_any {w : World} {a : Option Addr} {n c : Nat} {l : List Int} (h : Sl w a n c l) (hr : InB l) (hn : n ≤ 100000) : Calls Try.prog 38 #[.slice a n c] w fun e w' => ReaR l w e w' := by
  rcases Nat.eq_zero_or_pos n with h0 | h0
  · have e : l = [] := List.eq_nil_of_length_eq_zero (by rw [h.len]; exact h0)
    subst e h0
    rcases h.rd with ⟨h1, _⟩ | ⟨x, cap, h1, _⟩
    · rw [h1]; exact read_none w
    · rw [h1]; exact read_zero x cap w
  · obtain ⟨b, off, rfl, _⟩ := h.some h0
    exact read_some h hr hn

/-- what Encode answers -/
def EncP (n : Nt) (w' : World) (B : Nat) (v : Value) (c : Int) : Prop := (n.ok = true ∧ c = 0 ∧ byE.Own w' B v n.bts) ∨ (n.ok = false ∧ c = 180 ∧ v = .slice none 0 0)
def EncR (n : Nt) (w : World) (e : Ending) (w' : World) : Prop := ∃ (v : Value) (c : Int), e = .returned (.tuple #[v, .int .i64 c]) ∧ EncP n w' w.heap.size v c ∧ Below w.heap.size w w'
theorem encode_any (k a b c : Int) (w : World) : Calls Try.prog 39 #[.agg #[.int .i64 k, .int .i64 a, .int .i64 b, .int .i64 c]] w fun e w' => EncR ⟨k, a, b, c⟩ w e w' := by
  cases h : (Nt.mk k a b c).ok with
  | true => exact (encode_yes k a b c w h).mono (by rintro e w' ⟨v, he, ho, hb⟩; exact ⟨v, 0, he, .inl ⟨h, rfl, ho⟩, hb⟩)
  | false => exact (encode_no k a b c w h).mono (by rintro e w' ⟨he, hb⟩; exact ⟨_, 180, he, .inr ⟨h, rfl, rfl⟩, hb⟩)

/-- what Write answers -/
def WriP (ns : List Nt) (w' : World) (B : Nat) (v : Value) (c : Int) : Prop := ((∀ n ∈ ns, n.ok = true) ∧ c = 0 ∧ byE.Own w' B v (ns.flatMap Nt.bts)) ∨ ((∃ n ∈ ns, n.ok = false) ∧ c = 180 ∧ v = .slice none 0 0)
def WriR (ns : List Nt) (w : World) (e : Ending) (w' : World) : Prop := ∃ (v : Value) (c : Int), e = .returned (.tuple #[v, .int .i64 c]) ∧ WriP ns w' w.heap.size v c ∧ Below w.heap.size w w'
theorem flat_bts_len {ns : List Nt} (h : ∀ n ∈ ns, n.ok = true) : (ns.flatMap Nt.bts).length ≤ 19 * ns.length := by
  induction ns with
  | nil => simp
  | cons n ns ih =>
    have h1 := ih (fun m hm => h m (by simp [hm]))
    have h2 := bts_len5 (h n (by simp))
    rw [List.flatMap_cons, List.length_append, List.length_cons]
    omega
theorem flat_bts_in {ns : List Nt} (h : ∀ n ∈ ns, n.ok = true) : InB (ns.flatMap Nt.bts) := by
  intro z hz
  obtain ⟨n, hn, h'⟩ := List.mem_flatMap.1 hz
  exact bts_in (h n hn) z h'

set_option maxHeartbeats 2000000 in
theorem write_any {w : World} {a : Option Addr} {N c : Nat} {ns : List Nt} (h : ntE.Rd w (.slice a N c) ns) (hl : ns.length = N) (hN : N ≤ 10000) : Calls Try.prog 26 #[.slice a N c] w fun e w' => WriR ns w e w' := by
  have H := hide h
  have Hl := hide hl
  clear h hl
  go_enter Try.func26, Try.ntmps26
  go_wp2_with fail
  go_loopw [4, 11] (fun v i wr => Hid (∃ (j : Nat), j ≤ N ∧ i = .int .i64 j ∧ (∀ m ∈ ns.take j, m.ok = true) ∧ byE.Own wr w.heap.size v ((ns.take j).flatMap Nt.bts) ∧ Below w.heap.size w wr)) (fun _ i _ => N - (intOf i).toNat)
  case atStart => exact hide ⟨0, Nat.zero_le _, rfl, by simp, El.Own.nil _ _ _, Below.refl _ _⟩
  case round =>
    obtain ⟨j, hj, rfl, hok, ho, hb⟩ := hrel.out
    have Hok := hide hok
    clear hrel hok
    by_cases hlt : j < N
    · obtain ⟨m, hm⟩ : ∃ m, ns[j]? = some m := ⟨_, List.getElem?_eq_getElem (by rw [Hl.out]; exact hlt)⟩
      obtain ⟨b, off, rfl, c0, c1, c2, c3⟩ := nt_at (H.out.keep hb) j m hm
      obtain ⟨k, x, y, z⟩ := m
      have Hm := hide hm
      have ht : ns.take (j + 1) = ns.take j ++ [⟨k, x, y, z⟩] := by rw [List.take_add_one, hm]; rfl
      have Ht := hide ht
      clear hm ht
      have j1 : (j : Int) < (N : Int) := by omega
      have K10 := hide (encode_any k x y z)
      have hb1 := hb.alloc hb.size (.cells #[.int .i64 k, .int .i64 x, .int .i64 y, .int .i64 z] 43)
      have ho1 := ho.keep (below_new wr (.cells #[.int .i64 k, .int .i64 x, .int .i64 y, .int .i64 z] 43))
      go_upto_region 6 with (go_at_call 39; refine (K10.out _).mono ?_; rintro e W1 ⟨v, cc, rfl, henc, hb2⟩)
      clear c0 c1 c2 c3 K10
      generalize wr.alloc (.cells #[.int .i64 k, .int .i64 x, .int .i64 y, .int .i64 z] 43) = W0 at *
      rcases henc with ⟨hk, rfl, hov⟩ | ⟨hk, rfl, rfl⟩
      · have ho2 := ho1.keep hb2
        have hb3 := hb1.trans (hb2.mono hb1.size)
        have hrd := hov.rd
        have Hlen : Hid (((ns.take j).flatMap Nt.bts).length + (Nt.mk k x y z).bts.length ≤ 1000000) := hide (by
          have h1 := flat_bts_len Hok.out
          have h2 := bts_len5 hk
          have h3 : (ns.take j).length ≤ 10000 := by rw [List.length_take]; omega
          omega)
        have Hk := hide hk
        clear hov ho1 ho hb hb1 hb2 hk
        go_wp2_with (at_builtin; refine byE.wp hb3 (by rfl) _ _ rfl _ _ rfl rfl ((ns.take j).flatMap Nt.bts) (Nt.mk k x y z).bts ho2 hrd Hlen.out ?_; intro v1 w6 hown1 hg1 hs1 hb6; refine Hid.out ?_)
        refine hide ?_
        clear hg1 hs1
        go_wp2_with fail
        go_roundw
        case rel => exact hide ⟨j + 1, by omega, by go_num, by rw [Ht.out]; exact ok_more Hok.out Hk.out, by rw [Ht.out, List.flatMap_append, List.flatMap_singleton]; exact hown1, hb6⟩
        case measure => simp [intOf]; omega
      · go_wp2_with fail
        go_ret2
        exact ⟨_, _, rfl, .inr ⟨⟨⟨k, x, y, z⟩, List.mem_of_getElem? Hm.out, hk⟩, rfl, rfl⟩, hb1.trans (hb2.mono hb1.size)⟩
    · obtain rfl : j = N := by omega
      have hta : ns.take j = ns := List.take_of_length_le (by rw [Hl.out]; exact Nat.le_refl _)
      rw [hta] at Hok ho
      clear hta
      have j1 : ¬ ((j : Int) < (j : Int)) := by omega
      go_wp2_with fail
      go_ret2
      exact ⟨_, _, rfl, .inl ⟨Hok.out, rfl, ho⟩, hb⟩

set_option maxHeartbeats 2000000 in
theorem same_eq {w : World} {v u : Value} {ts : List Nt} (hv : ntE.Rd w v ts) (hu : ntE.Rd w u ts) (hm : ts.length ≤ 10000) :
    Calls Try.prog 23 #[v, u] w fun e w' => e = .returned (.bool true) ∧ ∃ n, w' = w.drewN n := by
  obtain ⟨a, ca, rfl⟩ := hv.form
  obtain ⟨a', cb, rfl⟩ := hu.form
  have Hv := hide hv
  have Hu := hide hu
  clear hv hu
  obtain ⟨n, hn⟩ : ∃ n, ts.length = n := ⟨_, rfl⟩
  rw [hn] at hm Hv Hu ⊢
  have Hn := hide hn
  clear hn
  have i0 : (n : Int) ≤ 10000 := by omega
  go_enter Try.func23, Try.ntmps23
  go_wp2_with fail
  go_loopw [13] (fun i wr => ∃ k q : Nat, k ≤ n ∧ i = .int .i64 k ∧ wr = w.drewN q) (fun i _ => n - (intOf i).toNat)
  case atStart => exact ⟨0, 0, by omega, rfl, rfl⟩
  case round =>
    obtain ⟨k, q, hk, rfl, rfl⟩ := hrel
    by_cases hlt : k < n
    · obtain ⟨t, ht⟩ : ∃ t, ts[k]? = some t := ⟨_, List.getElem?_eq_getElem (by rw [Hn.out]; exact hlt)⟩
      obtain ⟨b1, o1, rfl, x0, x1, x2, x3⟩ := nt_at Hv.out k t ht
      obtain ⟨b2, o2, rfl, y0, y1, y2, y3⟩ := nt_at Hu.out k t ht
      obtain ⟨tk, ta, tb, tc⟩ := t
      have j0 : (0 : Int) ≤ (k : Int) := by omega
      have j1 : (k : Int) < (n : Int) := by omega
      clear ht
      go_wp2_with fail
      go_quiet (fail)
      go_wp2_with fail
      go_roundw
      case rel => exact ⟨k + 1, _, by omega, by go_num, rfl⟩
      case measure => simp [intOf]; omega
    · have : k = n := by omega
      subst this
      go_wp2_with fail
      go_ret
      exact ⟨rfl, _, rfl⟩
end Go.Proofs.Ytgdoagmnhmfjkaa
