/- The note that bytes begin with: the program's Decode. -/
import Derived.Test.YtgdoagmnhmfjkaaNpa
namespace Go.Proofs.Ytgdoagmnhmfjkaa
open Go.ChangeShapes Go.WideShapes Go.ChangeAt Go.RowKit
set_option linter.unusedVariables false

theorem or_bytes (x y : Int) (hx : 0 ≤ x ∧ x ≤ 255) (hy : 0 ≤ y ∧ y ≤ 255) : bits .or .u16 (x * 256) y = x * 256 + y := by
  obtain ⟨n, rfl⟩ := Int.eq_ofNat_of_zero_le hx.1
  obtain ⟨m, rfl⟩ := Int.eq_ofNat_of_zero_le hy.1
  have hn : n < 256 := by omega
  have hm : m < 2 ^ 8 := by omega
  unfold bits
  have e1 : BitVec.ofInt IntKind.u16.bits ((n : Int) * 256) = BitVec.ofNat 16 (n * 256) := by
    rw [show ((n : Int) * 256) = ((n * 256 : Nat) : Int) by omega]; rfl
  have e2 : BitVec.ofInt IntKind.u16.bits (m : Int) = BitVec.ofNat 16 m := rfl
  simp only [e1, e2]
  have e3 : (BitVec.ofNat 16 (n * 256) ||| BitVec.ofNat 16 m).toNat = n * 256 + m := by
    rw [BitVec.toNat_or, BitVec.toNat_ofNat, BitVec.toNat_ofNat, Nat.mod_eq_of_lt (by omega), Nat.mod_eq_of_lt (by omega)]
    rw [show n * 256 = n <<< 8 by rw [Nat.shiftLeft_eq]]
    exact (Nat.shiftLeft_add_eq_or_of_lt hm n).symm
  show IntKind.u16.wrap (((BitVec.ofNat 16 (n * 256) ||| BitVec.ofNat 16 m).toNat : Nat) : Int) = _
  rw [e3]
  unfold IntKind.wrap; simp [IntKind.bits, IntKind.signed]; omega


/-- what stands where, if bytes begin with a note's -/
theorem Fst.parts {l : List Int} {m : Nt} (h : Fst l m) {z : Int} (hz : l[0]? = some z) : z = (m.body.length : Int) ∧ m.body.length + 3 ≤ l.length ∧ l.take (m.body.length + 1) = m.head ∧ (l.take (m.body.length + 1)).drop 1 = m.body ∧ l[m.body.length + 1]? = some (uv (sm 0xFFFF#16 m.head) / 256) ∧ l[m.body.length + 2]? = some (uv (sm 0xFFFF#16 m.head) % 256) := by
  obtain ⟨hm, r, rfl⟩ := h
  have hl : m.head.length = m.body.length + 1 := rfl
  have e : m.bts ++ r = m.head ++ (w2 (uv (sm 0xFFFF#16 m.head)) ++ r) := by unfold Nt.bts; rw [List.append_assoc]
  rw [e] at hz ⊢
  have h1 : (m.head ++ (w2 (uv (sm 0xFFFF#16 m.head)) ++ r)).take (m.body.length + 1) = m.head := by rw [← hl, List.take_left]
  refine ⟨?_, by simp [hl, w2]; omega, h1, by rw [h1]; rfl, ?_, ?_⟩
  · unfold Nt.head at hz; simp at hz; exact hz.symm
  · rw [List.getElem?_append_right (by omega), hl, Nat.sub_self]; rfl
  · rw [List.getElem?_append_right (by omega), hl, show m.body.length + 2 - (m.body.length + 1) = 1 by omega]; rfl
theorem fst_iff {l : List Int} (hr : InB l) {z : Nat} {x y : Int} (hz : l[0]? = some (z : Int)) (hl : z + 3 ≤ l.length) (hx : l[z + 1]? = some x) (hy : l[z + 2]? = some y) (m : Nt) (hm : m.ok = true) :
    Fst l m ↔ uv (sm 0xFFFF#16 (l.take (z + 1))) = x * 256 + y ∧ m.body = (l.take (z + 1)).drop 1 := by
  have bx := hr.at hx
  have bzy := hr.at hy
  constructor
  · intro h
    obtain ⟨e1, e2, e3, e4, e5, e6⟩ := h.parts hz
    have ez : z = m.body.length := by omega
    subst ez
    rw [hx] at e5
    rw [hy] at e6
    simp only [Option.some.injEq] at e5 e6
    refine ⟨?_, e4.symm⟩
    rw [e3]
    omega
  · rintro ⟨h1, h2⟩
    refine ⟨hm, l.drop (z + 3), ?_⟩
    have hlen : m.body.length = z := by rw [h2, List.length_drop, List.length_take]; omega
    have hh : m.head = l.take (z + 1) := by
      unfold Nt.head
      rw [hlen, h2]
      cases l with
      | nil => simp at hz
      | cons q t => simp at hz; subst hz; rfl
    have hs := uv_lo (sm 0xFFFF#16 m.head)
    have e : m.bts = l.take (z + 3) := by
      unfold Nt.bts
      rw [hh, h1]
      have t1 : l.take (z + 2) = l.take (z + 1) ++ [x] := take_snoc hx
      have t2 : l.take (z + 3) = l.take (z + 2) ++ [y] := take_snoc hy
      rw [t2, t1, List.append_assoc]
      unfold w2
      rw [show (x * 256 + y) / 256 = x by omega, show (x * 256 + y) % 256 = y by omega]
      rfl
    rw [e, List.take_append_drop]
theorem fst_short {l : List Int} {z : Nat} (hz : l[0]? = some (z : Int)) (hl : l.length < z + 3) (m : Nt) : ¬ Fst l m := by
  intro h
  obtain ⟨e1, e2, _⟩ := h.parts hz
  omega

/-- what Decode answers -/
def DecP (l : List Int) (n : Nt) (s c : Int) : Prop := (Fst l n ∧ s = (n.bts.length : Int) ∧ c = 0) ∨ ((∀ m, ¬ Fst l m) ∧ n = nz ∧ s = 0 ∧ c = 180)
def DecR (l : List Int) (w : World) (e : Ending) (w' : World) : Prop := ∃ (k x y z s c : Int), e = .returned (.tuple #[.agg #[.int .i64 k, .int .i64 x, .int .i64 y, .int .i64 z], .int .i64 s, .int .i64 c]) ∧ DecP l ⟨k, x, y, z⟩ s c ∧ Below w.heap.size w w'
theorem DecR.no {l : List Int} {w w' : World} (h : ∀ m, ¬ Fst l m) (hb : Below w.heap.size w w') : DecR l w (.returned (.tuple #[.agg #[.int .i64 0, .int .i64 0, .int .i64 0, .int .i64 0], .int .i64 0, .int .i64 180])) w' := ⟨0, 0, 0, 0, 0, 180, rfl, .inr ⟨h, rfl, rfl, rfl⟩, hb⟩

theorem decode_nil (a : Option Addr) (c : Nat) (w : World) : Calls Try.prog 45 #[.slice a 0 c] w fun e w' => DecR [] w e w' := by
  go_enter Try.func45, Try.ntmps45
  go_wp2_with fail
  exact bodyPost_ret (v := .tuple #[.agg #[.int .i64 0, .int .i64 0, .int .i64 0, .int .i64 0], .int .i64 0, .int .i64 180]) (by simp [results, Try.results45, go_sem]) rfl (DecR.no fst_nil (below_new _ _))

set_option maxHeartbeats 4000000 in
theorem decode_short {w : World} {a : Option Addr} {n c : Nat} {l : List Int} (h : Sl w a n c l) {z : Nat} (hz : l[0]? = some (z : Int)) (hz2 : z ≤ 255) (hn : n ≤ 1000000) (hl : n < z + 3) (hpos : 0 < n) : Calls Try.prog 45 #[.slice a n c] w fun e w' => DecR l w e w' := by
  have Hno : Hid (∀ m, ¬ Fst l m) := hide (fun m => fst_short hz (by rw [h.len]; exact hl) m)
  have hcap := h.cap
  obtain ⟨b, off, rfl, hc⟩ := h.some hpos
  have HB := hide (below_new w (.cells #[.int .i64 0, .int .i64 0, .int .i64 0, .int .i64 0] 43))
  have c0 := hc 0 _ hz
  rw [Nat.add_zero] at c0
  have cA : ∀ o, (w.alloc o).cell? ⟨b, off, none⟩ = some (.int .u8 (z : Int)) := fun o => by rw [(below_new w o).cell (cell_lt c0)]; exact c0
  have Hsl := hide (h.keep HB.out)
  have n1 : (0 : Int) < (n : Int) := by omega
  have n2 : ¬ ((n : Int) = 0) := by omega
  have n3 : ((n : Int) == 0) = false := by simpa using n2
  obtain ⟨r0, r1, r2, r3, rf⟩ : ∃ (_ : (w.alloc (.cells #[.int .i64 0, .int .i64 0, .int .i64 0, .int .i64 0] 43)).cell? ⟨w.heap.size, 0, none⟩ = some (.int .i64 0)) (_ : (w.alloc (.cells #[.int .i64 0, .int .i64 0, .int .i64 0, .int .i64 0] 43)).cell? ⟨w.heap.size, 1, none⟩ = some (.int .i64 0)) (_ : (w.alloc (.cells #[.int .i64 0, .int .i64 0, .int .i64 0, .int .i64 0] 43)).cell? ⟨w.heap.size, 2, none⟩ = some (.int .i64 0)) (_ : (w.alloc (.cells #[.int .i64 0, .int .i64 0, .int .i64 0, .int .i64 0] 43)).cell? ⟨w.heap.size, 3, none⟩ = some (.int .i64 0)), ∀ i, (w.alloc (.cells #[.int .i64 0, .int .i64 0, .int .i64 0, .int .i64 0] 43)).frozen? ⟨w.heap.size, i, none⟩ = false := ⟨(cells_at (heap_new _ _) 0).1, (cells_at (heap_new _ _) 1).1, (cells_at (heap_new _ _) 2).1, (cells_at (heap_new _ _) 3).1, fun i => (cells_at (heap_new _ _) i).2⟩
  have rf0 := rf 0
  have rf1 := rf 1
  have rf2 := rf 2
  have rf3 := rf 3
  clear hc c0 h hz rf
  go_enter Try.func45, Try.ntmps45
  go_upto_region 5 with fail
  clear cA
  generalize w.alloc (.cells #[.int .i64 0, .int .i64 0, .int .i64 0, .int .i64 0] 43) = W1 at *
  obtain ⟨gR, hgR⟩ : ∃ gR, w.heap.size = gR := ⟨_, rfl⟩
  rw [hgR] at r0 r1 r2 r3 rf0 rf1 rf2 rf3 ⊢
  have HgR := hide hgR
  clear hgR
  obtain ⟨Q, hQ⟩ : ∃ Q : Nat, z + 1 = Q := ⟨_, rfl⟩
  have e5 : (1 : Int) + (z : Int) = (Q : Int) := by omega
  rw [e5]
  clear e5
  have q1 : (n : Int) < (Q : Int) + 2 := by omega
  have q2 : decide ((n : Int) < (Q : Int) + 2) = true := decide_eq_true q1
  go_quiet (fail)
  go_wp2_with fail
  exact bodyPost_ret (v := .tuple #[.agg #[.int .i64 0, .int .i64 0, .int .i64 0, .int .i64 0], .int .i64 0, .int .i64 180]) (by simp [results, Try.results45, go_sem, r0, r1, r2, r3]) rfl (DecR.no Hno.out (below_put4 (HB.out.trans ((below_drew W1 _).mono HB.out.size)) _ (Nat.le_of_eq HgR.out) _ _ _ _))

set_option maxHeartbeats 4000000 in
theorem decode_sum {w : World} {a : Option Addr} {n c : Nat} {l : List Int} (h : Sl w a n c l) (hr : InB l) {z : Nat} {x y : Int} (hz : l[0]? = some (z : Int)) (hz2 : z ≤ 255) (hn : n ≤ 1000000) (hl : z + 3 ≤ n) (hx : l[z + 1]? = some x) (hy : l[z + 2]? = some y) (hne : uv (sm 0xFFFF#16 (l.take (z + 1))) ≠ x * 256 + y) : Calls Try.prog 45 #[.slice a n c] w fun e w' => DecR l w e w' := by
  have Hno : Hid (∀ m, ¬ Fst l m) := hide (fun m hm => hne ((fst_iff hr hz (by rw [h.len]; exact hl) hx hy m hm.1).1 hm).1)
  have hpos : 0 < n := by omega
  have hcap := h.cap
  obtain ⟨b, off, rfl, hc⟩ := h.some hpos
  have bx := hr.at hx
  have bzy := hr.at hy
  obtain ⟨x0, x1⟩ := bx
  obtain ⟨y0, y1⟩ := bzy
  have HB := hide (below_new w (.cells #[.int .i64 0, .int .i64 0, .int .i64 0, .int .i64 0] 43))
  have c0 := hc 0 _ hz
  rw [Nat.add_zero] at c0
  have cA : ∀ o, (w.alloc o).cell? ⟨b, off, none⟩ = some (.int .u8 (z : Int)) := fun o => by rw [(below_new w o).cell (cell_lt c0)]; exact c0
  have Hsl := hide (h.keep HB.out)
  have cx := hc _ _ hx
  have cy := hc _ _ hy
  rw [← HB.out.cell (cell_lt cx)] at cx
  rw [← HB.out.cell (cell_lt cy)] at cy
  have n1 : (0 : Int) < (n : Int) := by omega
  have n2 : ¬ ((n : Int) = 0) := by omega
  have n3 : ((n : Int) == 0) = false := by simpa using n2
  obtain ⟨r0, r1, r2, r3, rf⟩ : ∃ (_ : (w.alloc (.cells #[.int .i64 0, .int .i64 0, .int .i64 0, .int .i64 0] 43)).cell? ⟨w.heap.size, 0, none⟩ = some (.int .i64 0)) (_ : (w.alloc (.cells #[.int .i64 0, .int .i64 0, .int .i64 0, .int .i64 0] 43)).cell? ⟨w.heap.size, 1, none⟩ = some (.int .i64 0)) (_ : (w.alloc (.cells #[.int .i64 0, .int .i64 0, .int .i64 0, .int .i64 0] 43)).cell? ⟨w.heap.size, 2, none⟩ = some (.int .i64 0)) (_ : (w.alloc (.cells #[.int .i64 0, .int .i64 0, .int .i64 0, .int .i64 0] 43)).cell? ⟨w.heap.size, 3, none⟩ = some (.int .i64 0)), ∀ i, (w.alloc (.cells #[.int .i64 0, .int .i64 0, .int .i64 0, .int .i64 0] 43)).frozen? ⟨w.heap.size, i, none⟩ = false := ⟨(cells_at (heap_new _ _) 0).1, (cells_at (heap_new _ _) 1).1, (cells_at (heap_new _ _) 2).1, (cells_at (heap_new _ _) 3).1, fun i => (cells_at (heap_new _ _) i).2⟩
  have rf0 := rf 0
  have rf1 := rf 1
  have rf2 := rf 2
  have rf3 := rf 3
  clear hc c0 h hz rf
  go_enter Try.func45, Try.ntmps45
  go_upto_region 5 with fail
  clear cA
  generalize w.alloc (.cells #[.int .i64 0, .int .i64 0, .int .i64 0, .int .i64 0] 43) = W1 at *
  obtain ⟨gR, hgR⟩ : ∃ gR, w.heap.size = gR := ⟨_, rfl⟩
  rw [hgR] at r0 r1 r2 r3 rf0 rf1 rf2 rf3 ⊢
  have HgR := hide hgR
  clear hgR
  obtain ⟨Q, hQ⟩ : ∃ Q : Nat, z + 1 = Q := ⟨_, rfl⟩
  have e5 : (1 : Int) + (z : Int) = (Q : Int) := by omega
  rw [e5]
  clear e5
  rw [hQ] at hne cx
  rw [show z + 2 = Q + 1 by omega] at cy
  have K24 : Hid (∀ q : Nat, Calls Try.prog 50 #[.slice (some ⟨b, off, none⟩) Q c] (W1.drewN q) fun e w' => e = .returned (.int .u16 (uv (sm 0xFFFF#16 (l.take Q)))) ∧ w' = W1.drewN q) := hide (fun q => sum_rd ((Hsl.out.keep (below_drew W1 q)).take Q (by omega)).rd (hr.take Q) (by rw [List.length_take]; omega))
  generalize uv (sm 0xFFFF#16 (l.take Q)) = sx at *
  have q1 : ¬ (n : Int) < (Q : Int) + 2 := by omega
  have q2 : decide ((n : Int) < (Q : Int) + 2) = false := decide_eq_false q1
  have q3 : (Q : Int) < (n : Int) := by omega
  have q4 : (Q : Int) + 1 < (n : Int) := by omega
  have q5 : (Q : Int) ≤ (c : Int) := by omega
  have q6 : (0 : Int) ≤ (Q : Int) := by omega
  have q7 : (Q : Int) ≤ 256 := by omega
  have ho := or_bytes x y ⟨x0, x1⟩ ⟨y0, y1⟩
  have hneb : (sx != x * 256 + y) = true := by simpa using hne
  go_quiet ((go_at_call 50; exact Calls.quiet_of_same (K24.out _)))
  go_wp2_with fail
  exact bodyPost_ret (v := .tuple #[.agg #[.int .i64 0, .int .i64 0, .int .i64 0, .int .i64 0], .int .i64 0, .int .i64 180]) (by simp [results, Try.results45, go_sem, r0, r1, r2, r3]) rfl (DecR.no Hno.out (below_put4 (HB.out.trans ((below_drew W1 _).mono HB.out.size)) _ (Nat.le_of_eq HgR.out) _ _ _ _))

set_option maxHeartbeats 4000000 in
theorem decode_yes {w : World} {a : Option Addr} {n c : Nat} {l : List Int} (h : Sl w a n c l) (hr : InB l) {z : Nat} {x y : Int} (hz : l[0]? = some (z : Int)) (hz2 : z ≤ 255) (hn : n ≤ 1000000) (hl : z + 3 ≤ n) (hx : l[z + 1]? = some x) (hy : l[z + 2]? = some y) (hne : uv (sm 0xFFFF#16 (l.take (z + 1))) = x * 256 + y) : Calls Try.prog 45 #[.slice a n c] w fun e w' => DecR l w e w' := by
  have Hiff : Hid (∀ m : Nt, m.ok = true → (Fst l m ↔ m.body = (l.take (z + 1)).drop 1)) := hide (fun m hm => by rw [fst_iff hr hz (by rw [h.len]; exact hl) hx hy m hm]; exact ⟨fun q => q.2, fun q => ⟨hne, q⟩⟩)
  have hpos : 0 < n := by omega
  have hcap := h.cap
  obtain ⟨b, off, rfl, hc⟩ := h.some hpos
  have bx := hr.at hx
  have bzy := hr.at hy
  obtain ⟨x0, x1⟩ := bx
  obtain ⟨y0, y1⟩ := bzy
  have HB := hide (below_new w (.cells #[.int .i64 0, .int .i64 0, .int .i64 0, .int .i64 0] 43))
  have c0 := hc 0 _ hz
  rw [Nat.add_zero] at c0
  have cA : ∀ o, (w.alloc o).cell? ⟨b, off, none⟩ = some (.int .u8 (z : Int)) := fun o => by rw [(below_new w o).cell (cell_lt c0)]; exact c0
  have Hsl := hide (h.keep HB.out)
  have cx := hc _ _ hx
  have cy := hc _ _ hy
  rw [← HB.out.cell (cell_lt cx)] at cx
  rw [← HB.out.cell (cell_lt cy)] at cy
  have n1 : (0 : Int) < (n : Int) := by omega
  have n2 : ¬ ((n : Int) = 0) := by omega
  have n3 : ((n : Int) == 0) = false := by simpa using n2
  obtain ⟨r0, r1, r2, r3, rf⟩ : ∃ (_ : (w.alloc (.cells #[.int .i64 0, .int .i64 0, .int .i64 0, .int .i64 0] 43)).cell? ⟨w.heap.size, 0, none⟩ = some (.int .i64 0)) (_ : (w.alloc (.cells #[.int .i64 0, .int .i64 0, .int .i64 0, .int .i64 0] 43)).cell? ⟨w.heap.size, 1, none⟩ = some (.int .i64 0)) (_ : (w.alloc (.cells #[.int .i64 0, .int .i64 0, .int .i64 0, .int .i64 0] 43)).cell? ⟨w.heap.size, 2, none⟩ = some (.int .i64 0)) (_ : (w.alloc (.cells #[.int .i64 0, .int .i64 0, .int .i64 0, .int .i64 0] 43)).cell? ⟨w.heap.size, 3, none⟩ = some (.int .i64 0)), ∀ i, (w.alloc (.cells #[.int .i64 0, .int .i64 0, .int .i64 0, .int .i64 0] 43)).frozen? ⟨w.heap.size, i, none⟩ = false := ⟨(cells_at (heap_new _ _) 0).1, (cells_at (heap_new _ _) 1).1, (cells_at (heap_new _ _) 2).1, (cells_at (heap_new _ _) 3).1, fun i => (cells_at (heap_new _ _) i).2⟩
  have rf0 := rf 0
  have rf1 := rf 1
  have rf2 := rf 2
  have rf3 := rf 3
  clear hc c0 h hz rf
  go_enter Try.func45, Try.ntmps45
  go_upto_region 5 with fail
  clear cA
  generalize w.alloc (.cells #[.int .i64 0, .int .i64 0, .int .i64 0, .int .i64 0] 43) = W1 at *
  obtain ⟨gR, hgR⟩ : ∃ gR, w.heap.size = gR := ⟨_, rfl⟩
  rw [hgR] at r0 r1 r2 r3 rf0 rf1 rf2 rf3 ⊢
  have HgR := hide hgR
  clear hgR
  obtain ⟨Q, hQ⟩ : ∃ Q : Nat, z + 1 = Q := ⟨_, rfl⟩
  have e5 : (1 : Int) + (z : Int) = (Q : Int) := by omega
  rw [e5]
  clear e5
  rw [hQ] at hne Hiff cx
  rw [show z + 2 = Q + 1 by omega] at cy
  have K24 : Hid (∀ q : Nat, Calls Try.prog 50 #[.slice (some ⟨b, off, none⟩) Q c] (W1.drewN q) fun e w' => e = .returned (.int .u16 (uv (sm 0xFFFF#16 (l.take Q)))) ∧ w' = W1.drewN q) := hide (fun q => sum_rd ((Hsl.out.keep (below_drew W1 q)).take Q (by omega)).rd (hr.take Q) (by rw [List.length_take]; omega))
  generalize uv (sm 0xFFFF#16 (l.take Q)) = sx at *
  have q1 : ¬ (n : Int) < (Q : Int) + 2 := by omega
  have q2 : decide ((n : Int) < (Q : Int) + 2) = false := decide_eq_false q1
  have q3 : (Q : Int) < (n : Int) := by omega
  have q4 : (Q : Int) + 1 < (n : Int) := by omega
  have q5 : (Q : Int) ≤ (c : Int) := by omega
  have q6 : (0 : Int) ≤ (Q : Int) := by omega
  have q7 : (Q : Int) ≤ 256 := by omega
  have ho := or_bytes x y ⟨x0, x1⟩ ⟨y0, y1⟩
  have hneb : (sx != x * 256 + y) = false := by simpa using hne
  go_quiet ((go_at_call 50; exact Calls.quiet_of_same (K24.out _)))
  have HB2 := hide (HB.out.trans ((below_drew W1 nq).mono HB.out.size))
  have Hsl2 := hide (Hsl.out.keep (below_drew W1 nq))
  have hcell : ∀ p, (W1.drewN nq).cell? p = W1.cell? p := fun _ => rfl
  have hfro : ∀ p, (W1.drewN nq).frozen? p = W1.frozen? p := fun _ => rfl
  rw [← hcell] at r0 r1 r2 r3
  rw [← hfro] at rf0 rf1 rf2 rf3
  have hgl : gR < (W1.drewN nq).heap.size := cell_lt r0
  generalize W1.drewN nq = W2 at *
  clear hcell hfro cx cy K24 ho HB Hsl
  have K25 : Hid (∀ W, Below W2.heap.size W2 W → Calls Try.prog 53 #[.slice (some ⟨b, off + 1, none⟩) (Q - 1) (c - 1)] W fun e w' => ParR ((l.take Q).drop 1) W e w') := hide (fun W hW => by
    have hs := ((Hsl2.out.keep hW).take Q (by omega)).drop 1 (by omega)
    rw [if_neg (show ¬ c = 1 by omega)] at hs
    rcases Nat.eq_zero_or_pos (Q - 1) with q0 | q0
    · have e0 : (l.take Q).drop 1 = [] := List.eq_nil_of_length_eq_zero (by rw [hs.len]; exact q0)
      rw [e0, q0]
      exact parse_nil _ _ _
    · exact parse_any hs (((hr.take Q)).drop 1) (by omega) q0)
  have Hlen : Hid (((l.take Q).drop 1).length = Q - 1) := hide (by rw [List.length_drop, List.length_take, Hsl2.out.len]; omega)
  generalize (l.take Q).drop 1 = pp at *
  have s1 : (1 : Int) ≤ (Q : Int) := by omega
  have s2 : ¬ (c = 1) := by omega
  go_upto_region 8 with (go_at_call 53; refine (K25.out _ (Below.refl _ _)).mono ?_; rintro e W3 ⟨pk, pa, pb, pc, ok, rfl, hpar, hb3⟩)
  have hb4 : Below W2.heap.size W2 (W3.alloc (.cells #[.int .i64 pk, .int .i64 pa, .int .i64 pb, .int .i64 pc] 43)) := hb3.alloc hb3.size _
  have HC : Hid (∀ W, Below W2.heap.size W2 W → (W.cell? ⟨gR, 0, none⟩ = some (.int .i64 0) ∧ W.cell? ⟨gR, 1, none⟩ = some (.int .i64 0) ∧ W.cell? ⟨gR, 2, none⟩ = some (.int .i64 0) ∧ W.cell? ⟨gR, 3, none⟩ = some (.int .i64 0) ∧ ∀ i, W.frozen? ⟨gR, i, none⟩ = W2.frozen? ⟨gR, i, none⟩)) := hide (fun W hW => ⟨by rw [hW.cell hgl]; exact r0, by rw [hW.cell hgl]; exact r1, by rw [hW.cell hgl]; exact r2, by rw [hW.cell hgl]; exact r3, fun i => by unfold World.frozen?; rw [hW.block gR hgl]⟩)
  have Hpar := hide hpar
  have HF : Hid (W2.frozen? ⟨gR, 0, none⟩ = false ∧ W2.frozen? ⟨gR, 1, none⟩ = false ∧ W2.frozen? ⟨gR, 2, none⟩ = false ∧ W2.frozen? ⟨gR, 3, none⟩ = false) := hide ⟨rf0, rf1, rf2, rf3⟩
  clear hpar r0 r1 r2 r3 rf0 rf1 rf2 rf3 hgl K25
  cases ok with
  | false =>
    have Hno : Hid (∀ m, ¬ Fst l m) := hide (fun m hm => by
      have h1 := (Hiff.out m hm.1).1 hm
      have h2 := (Hpar.out m hm.1).1 h1
      simp at h2)
    have HB5 := hide (HB2.out.trans (hb4.mono HB2.out.size))
    obtain ⟨t0, t1, t2, t3, tf⟩ := HC.out _ hb4
    have tf0 := tf 0
    have tf1 := tf 1
    have tf2 := tf 2
    have tf3 := tf 3
    obtain ⟨f0, f1, f2, f3⟩ := HF.out
    rw [f0] at tf0
    rw [f1] at tf1
    rw [f2] at tf2
    rw [f3] at tf3
    clear tf f0 f1 f2 f3
    go_wp2_with fail
    exact bodyPost_ret (v := .tuple #[.agg #[.int .i64 0, .int .i64 0, .int .i64 0, .int .i64 0], .int .i64 0, .int .i64 180]) (by simp [results, Try.results45, go_sem, t0, t1, t2, t3]) rfl (DecR.no Hno.out (below_put4 HB5.out _ (Nat.le_of_eq HgR.out) _ _ _ _))
  | true =>
    have k12 := check_any pk pa pb pc
    have hcode : (Nt.mk pk pa pb pc).code = if (Nt.mk pk pa pb pc).ok then 0 else 180 := rfl
    cases hok : (Nt.mk pk pa pb pc).ok with
    | false =>
      have Hno : Hid (∀ m, ¬ Fst l m) := hide (fun m hm => by
        have h1 := (Hiff.out m hm.1).1 hm
        have h2 := (Hpar.out m hm.1).1 h1
        have h3 := hm.1
        rw [← h2.2, hok] at h3
        simp at h3)
      rw [hok] at hcode
      have hcode2 : (Nt.mk pk pa pb pc).code = 180 := hcode
      rw [hcode2] at k12
      have K12 := hide k12
      clear k12 hcode hcode2 hok
      go_upto_region 9 with (go_at_call 46; refine (K12.out _).mono ?_; rintro e W5 ⟨rfl, hb5⟩)
      have hb45 := hb4.trans (hb5.mono hb4.size)
      have HB5 := hide (HB2.out.trans (hb45.mono HB2.out.size))
      obtain ⟨t0, t1, t2, t3, tf⟩ := HC.out _ hb45
      have tf0 := tf 0
      have tf1 := tf 1
      have tf2 := tf 2
      have tf3 := tf 3
      obtain ⟨f0, f1, f2, f3⟩ := HF.out
      rw [f0] at tf0
      rw [f1] at tf1
      rw [f2] at tf2
      rw [f3] at tf3
      clear tf f0 f1 f2 f3
      go_wp2_with fail
      exact bodyPost_ret (v := .tuple #[.agg #[.int .i64 0, .int .i64 0, .int .i64 0, .int .i64 0], .int .i64 0, .int .i64 180]) (by simp [results, Try.results45, go_sem, t0, t1, t2, t3]) rfl (DecR.no Hno.out (below_put4 HB5.out _ (Nat.le_of_eq HgR.out) _ _ _ _))
    | true =>
      have Hyes : Hid (DecP l ⟨pk, pa, pb, pc⟩ ((Q : Int) + 2) 0) := hide (by
        have h1 := (Hpar.out ⟨pk, pa, pb, pc⟩ hok).2 ⟨rfl, rfl⟩
        have h2 := (Hiff.out ⟨pk, pa, pb, pc⟩ hok).2 h1
        refine .inl ⟨h2, ?_, rfl⟩
        rw [bts_len, h1, Hlen.out]
        omega)
      rw [hok] at hcode
      have hcode2 : (Nt.mk pk pa pb pc).code = 0 := hcode
      rw [hcode2] at k12
      have K12 := hide k12
      clear k12 hcode hcode2 hok
      go_upto_region 10 with (go_at_call 46; refine (K12.out _).mono ?_; rintro e W5 ⟨rfl, hb5⟩)
      have hb45 := hb4.trans (hb5.mono hb4.size)
      have HB5 := hide (HB2.out.trans (hb45.mono HB2.out.size))
      obtain ⟨t0, t1, t2, t3, tf⟩ := HC.out _ hb45
      have tf0 := tf 0
      have tf1 := tf 1
      have tf2 := tf 2
      have tf3 := tf 3
      obtain ⟨f0, f1, f2, f3⟩ := HF.out
      rw [f0] at tf0
      rw [f1] at tf1
      rw [f2] at tf2
      rw [f3] at tf3
      clear tf f0 f1 f2 f3
      have p0 : W5.cell? ⟨W3.heap.size, 0, none⟩ = some (.int .i64 pk) := box_at hb5 0
      have p1 : W5.cell? ⟨W3.heap.size, 1, none⟩ = some (.int .i64 pa) := box_at hb5 1
      have p2 : W5.cell? ⟨W3.heap.size, 2, none⟩ = some (.int .i64 pb) := box_at hb5 2
      have p3 : W5.cell? ⟨W3.heap.size, 3, none⟩ = some (.int .i64 pc) := box_at hb5 3
      go_wp2_with fail
      refine bodyPost_ret (v := .tuple #[.agg #[.int .i64 pk, .int .i64 pa, .int .i64 pb, .int .i64 pc], .int .i64 ((Q : Int) + 2), .int .i64 0]) (by simp [results, Try.results45, go_sem, t0, t1, t2, t3]) rfl ⟨pk, pa, pb, pc, _, _, rfl, Hyes.out, ?_⟩
      exact below_put4 HB5.out _ (Nat.le_of_eq HgR.out) _ _ _ _

/-- Decode of any bytes -/
theorem decode_any {w : World} {a : Option Addr} {n c : Nat} {l : List Int} (h : Sl w a n c l) (hr : InB l) (hn : n ≤ 1000000) : Calls Try.prog 45 #[.slice a n c] w fun e w' => DecR l w e w' := by
  rcases Nat.eq_zero_or_pos n with h0 | h0
  · have e : l = [] := List.eq_nil_of_length_eq_zero (by rw [h.len]; exact h0)
    subst e h0
    exact decode_nil _ _ _
  · obtain ⟨zi, hzi⟩ : ∃ z, l[0]? = some z := ⟨_, List.getElem?_eq_getElem (by rw [h.len]; exact h0)⟩
    have hz2 := hr.at hzi
    obtain ⟨z, rfl⟩ := Int.eq_ofNat_of_zero_le hz2.1
    rcases Nat.lt_or_ge n (z + 3) with q | q
    · exact decode_short h hzi (by omega) hn q h0
    · obtain ⟨x, hx⟩ : ∃ x, l[z + 1]? = some x := ⟨_, List.getElem?_eq_getElem (by rw [h.len]; omega)⟩
      obtain ⟨y, hy⟩ : ∃ y, l[z + 2]? = some y := ⟨_, List.getElem?_eq_getElem (by rw [h.len]; omega)⟩
      by_cases hs : uv (sm 0xFFFF#16 (l.take (z + 1))) = x * 256 + y
      · exact decode_yes h hr hzi (by omega) hn q hx hy hs
      · exact decode_sum h hr hzi (by omega) hn q hx hy hs
end Go.Proofs.Ytgdoagmnhmfjkaa
