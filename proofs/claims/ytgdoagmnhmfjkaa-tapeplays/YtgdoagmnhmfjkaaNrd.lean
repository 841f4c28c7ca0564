/- Notes from the front on: the program's Read. -/
import Derived.Test.YtgdoagmnhmfjkaaNde
namespace Go.Proofs.Ytgdoagmnhmfjkaa
open Go.ChangeShapes Go.WideShapes Go.ChangeAt Go.RowKit
set_option linter.unusedVariables false

/-- how many bytes notes have -/
def tot (ns : List Nt) : Nat := (ns.flatMap Nt.bts).length
/-- what Read answers -/
def ReaR (l : List Int) (w : World) (e : Ending) (w' : World) : Prop := ∃ (v : Value) (ns : List Nt) (r : List Int), e = .returned (.tuple #[v, .int .i64 (tot ns : Int)]) ∧ Rds l ns r ∧ ntE.Own w' w.heap.size v ns ∧ Below w.heap.size w w'
theorem row_more {l r : List Int} {ns : List Nt} {m : Nt} {j q : Nat} (h : l = ns.flatMap Nt.bts ++ l.drop j) (hr : l.drop j = m.bts ++ r) (hq : m.bts.length = q) : l = (ns ++ [m]).flatMap Nt.bts ++ l.drop (j + q) := by
  have e : l.drop (j + q) = r := by rw [← List.drop_drop, hr, ← hq, List.drop_left]
  rw [e, List.flatMap_append, List.flatMap_singleton, List.append_assoc, ← hr]
  exact h
theorem ok_more {ns : List Nt} {m : Nt} (h : ∀ n ∈ ns, n.ok = true) (hm : m.ok = true) : ∀ n ∈ ns ++ [m], n.ok = true := by
  intro n hn
  rcases List.mem_append.1 hn with q | q
  · exact h n q
  · simp at q; rw [q]; exact hm
theorem rds_nil {l : List Int} (h : ∀ m, ¬ Fst l m) : Rds l [] l := ⟨by simp, by simp, h⟩

set_option maxHeartbeats 2000000 in
theorem read_none (w : World) : Calls Try.prog 38 #[.slice none 0 0] w fun e w' => ReaR [] w e w' := by
  have K13 := hide (fun W => decode_nil none 0 W)
  go_enter Try.func38, Try.ntmps38
  go_wp2_with fail
  go_loopw [4, 5] (fun v i wr => Hid (v = .slice none 0 0 ∧ i = .int .i64 0 ∧ Below w.heap.size w wr)) (fun _ i _ => 0)
  case atStart => exact hide ⟨rfl, rfl, Below.refl _ _⟩
  case round =>
    obtain ⟨rfl, rfl, hb⟩ := hrel.out
    clear hrel
    go_upto_region 4 with (go_at_call 45; refine (K13.out _).mono ?_; rintro e W1 ⟨k, x, y, z, s, c, rfl, hdec, hb1⟩)
    rcases hdec with ⟨hf, _⟩ | ⟨hno, hn, rfl, rfl⟩
    · exact absurd hf (fst_nil _)
    · clear hno hn
      go_wp2_with fail
      go_ret2
      exact ⟨_, [], [], rfl, rds_nil fst_nil, El.Own.nil _ _ _, (hb.trans (hb1.mono hb.size)).alloc (Nat.le_trans hb.size hb1.size) _⟩

set_option maxHeartbeats 2000000 in
theorem read_zero (x : Addr) (c : Nat) (w : World) : Calls Try.prog 38 #[.slice (some x) 0 c] w fun e w' => ReaR [] w e w' := by
  have K13 := hide (fun W => decode_nil (some x) c W)
  have c0 : (0 : Int) ≤ (c : Int) := by omega
  go_enter Try.func38, Try.ntmps38
  go_wp2_with fail
  go_loopw [4, 5] (fun v i wr => Hid (v = .slice none 0 0 ∧ i = .int .i64 0 ∧ Below w.heap.size w wr)) (fun _ i _ => 0)
  case atStart => exact hide ⟨rfl, rfl, Below.refl _ _⟩
  case round =>
    obtain ⟨rfl, rfl, hb⟩ := hrel.out
    clear hrel
    go_upto_region 4 with (go_at_call 45; refine (K13.out _).mono ?_; rintro e W1 ⟨k, x, y, z, s, c, rfl, hdec, hb1⟩)
    rcases hdec with ⟨hf, _⟩ | ⟨hno, hn, rfl, rfl⟩
    · exact absurd hf (fst_nil _)
    · clear hno hn
      go_wp2_with fail
      go_ret2
      exact ⟨_, [], [], rfl, rds_nil fst_nil, El.Own.nil _ _ _, (hb.trans (hb1.mono hb.size)).alloc (Nat.le_trans hb.size hb1.size) _⟩

set_option maxHeartbeats 800000 in
theorem read_some {w : World} {b off n c : Nat} {l : List Int} (h : Sl w (some ⟨b, off, none⟩) n c l) (hr : InB l) (hn : n ≤ 100000) : Calls Try.prog 38 #[.slice (some ⟨b, off, none⟩) n c] w fun e w' => ReaR l w e w' := by
  have hcap := h.cap
  have H := hide h
  have Hr := hide hr
  have Hl := hide h.len
  clear h hr
  go_enter Try.func38, Try.ntmps38
  go_wp2_with fail
  go_loopw [4, 5] (fun v i wr => Hid (∃ (j : Nat) (ns : List Nt), j ≤ n ∧ i = .int .i64 j ∧ (ns.flatMap Nt.bts).length = j ∧ l = ns.flatMap Nt.bts ++ l.drop j ∧ (∀ m ∈ ns, m.ok = true) ∧ ns.length ≤ j ∧ ntE.Own wr w.heap.size v ns ∧ Below w.heap.size w wr)) (fun _ i _ => n - (intOf i).toNat)
  case atStart => exact hide ⟨0, [], Nat.zero_le _, rfl, rfl, by simp, by simp, by simp, El.Own.nil _ _ _, Below.refl _ _⟩
  case round =>
    obtain ⟨j, ns, hj, rfl, hfl, hle, hok, hnl, ho, hb⟩ := hrel.out
    clear hrel
    have K13 := hide (decode_any ((H.out.keep hb).drop j hj) (Hr.out.drop j) (by omega))
    have Hfl := hide hfl
    have Hle := hide hle
    have Hok := hide hok
    clear hfl hle hok
    have j1 : (j : Int) ≤ (n : Int) := by omega
    have j2 : (n : Int) ≤ (c : Int) := by omega
    have j3 : (j : Int) ≤ (c : Int) := by omega
    by_cases hcj : c = j
    · obtain rfl : n = c := by omega
      obtain rfl : n = j := by omega
      have K13 := hide (fun W => decode_nil (some ⟨b, off, none⟩) 0 W)
      have hdn : l.drop n = [] := List.drop_eq_nil_of_le (by rw [Hl.out]; exact Nat.le_refl _)
      have Hdn := hide hdn
      clear hdn hcj
      go_upto_region 4 with (go_at_call 45; refine (K13.out _).mono ?_; rintro e W1 ⟨k, x, y, z, s, cc, rfl, hdec, hb1⟩)
      rcases hdec with ⟨hf, rfl, rfl⟩ | ⟨hno, hn0, rfl, rfl⟩
      · exact absurd hf (fst_nil _)
      · clear hno hn0 K13
        go_wp2_with fail
        go_ret2
        exact ⟨u4, ns, [], by rw [show tot ns = _ from Hfl.out]; rfl, ⟨by have := Hle.out; rw [Hdn.out] at this; exact this, Hok.out, fst_nil⟩, ((ho.keep hb1).keep (below_new _ _)), (hb.trans (hb1.mono hb.size)).alloc (Nat.le_trans hb.size hb1.size) _⟩
    · rw [if_neg hcj] at K13
      have K13 := hide K13.out
      go_upto_region 4 with (go_at_call 45; refine K13.out.mono ?_; rintro e W1 ⟨k, x, y, z, s, cc, rfl, hdec, hb1⟩)
      rcases hdec with ⟨hf, rfl, rfl⟩ | ⟨hno, hn0, rfl, rfl⟩
      · obtain ⟨fk, r, hr2⟩ := hf
        obtain ⟨q, hq⟩ : ∃ q, (Nt.mk k x y z).bts.length = q := ⟨_, rfl⟩
        have h5 := bts_len5 fk
        rw [hq] at h5 ⊢
        have hlr : q ≤ n - j := by
          have := congrArg List.length hr2
          rw [List.length_drop, Hl.out, List.length_append, hq] at this
          omega
        obtain ⟨h5a, h5b⟩ := h5
        have hb2 := hb.trans (hb1.mono hb.size)
        have ho2 := (ho.keep hb1).keep (below_new W1 (.cells #[.int .i64 k, .int .i64 x, .int .i64 y, .int .i64 z] 43))
        have hb3 := hb2.alloc hb2.size (.cells #[.int .i64 k, .int .i64 x, .int .i64 y, .int .i64 z] 43)
        obtain ⟨p0, p1, p2, p3⟩ : (W1.alloc (.cells #[.int .i64 k, .int .i64 x, .int .i64 y, .int .i64 z] 43)).cell? ⟨W1.heap.size, 0, none⟩ = some (.int .i64 k) ∧ (W1.alloc (.cells #[.int .i64 k, .int .i64 x, .int .i64 y, .int .i64 z] 43)).cell? ⟨W1.heap.size, 1, none⟩ = some (.int .i64 x) ∧ (W1.alloc (.cells #[.int .i64 k, .int .i64 x, .int .i64 y, .int .i64 z] 43)).cell? ⟨W1.heap.size, 2, none⟩ = some (.int .i64 y) ∧ (W1.alloc (.cells #[.int .i64 k, .int .i64 x, .int .i64 y, .int .i64 z] 43)).cell? ⟨W1.heap.size, 3, none⟩ = some (.int .i64 z) := ⟨(cells_at (heap_new _ _) 0).1, (cells_at (heap_new _ _) 1).1, (cells_at (heap_new _ _) 2).1, (cells_at (heap_new _ _) 3).1⟩
        generalize W1.alloc (.cells #[.int .i64 k, .int .i64 x, .int .i64 y, .int .i64 z] 43) = W2 at *
        generalize W1.heap.size = g1 at *
        have Hq := hide hq
        have Hr2 := hide hr2
        have Hfk := hide fk
        clear hq hr2 fk hb hb2 ho K13
        go_wp2_with (at_builtin; refine ntE.wp (hb3.alloc hb3.size _) (by rfl) _ _ rfl _ _ rfl rfl ns [⟨k, x, y, z⟩] (ho2.keep (below_new _ _)) (nt_new _ ⟨k, x, y, z⟩ _ rfl) (by simp; omega) ?_; intro v1 w6 hown1 hg1 hs1 hb6; refine Hid.out ?_)
        refine hide ?_
        clear hg1 hs1
        go_wp2_with fail
        go_roundw
        case rel => exact hide ⟨j + q, ns ++ [⟨k, x, y, z⟩], by omega, by go_num, by rw [List.flatMap_append, List.length_append, Hfl.out, List.flatMap_singleton, Hq.out], row_more Hle.out Hr2.out Hq.out, ok_more Hok.out Hfk.out, by simp; omega, hown1, hb6⟩
        case measure => simp [intOf]; omega
      · have Hno := hide hno
        clear hno hn0 K13
        go_wp2_with fail
        go_ret2
        exact ⟨u4, ns, l.drop j, by rw [show tot ns = _ from Hfl.out]; rfl, ⟨Hle.out, Hok.out, Hno.out⟩, ((ho.keep hb1).keep (below_new _ _)), (hb.trans (hb1.mono hb.size)).alloc (Nat.le_trans hb.size hb1.size) _⟩
end Go.Proofs.Ytgdoagmnhmfjkaa
