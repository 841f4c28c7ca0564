/- Two senders side by side; pieces acknowledged from the front on; Same. -/
import Derived.Test.YteihajppgooadaaWinM
import Derived.Test.YteihajppgooadaaArgs
namespace Go.Proofs.Yteihajppgooadaa
open Go.RowKit
set_option linter.unusedVariables false

set_option maxHeartbeats 1000000 in
theorem same_eq {w : World} {v u : Value} {l : List Int} (hv : u16sE.Rd w v l) (hu : u16sE.Rd w u l) (hm : l.length ≤ 100000) :
    Calls Try.prog 22 #[v, u] w fun e w' => e = .returned (.bool true) ∧ ∃ n, w' = w.drewN n := by
  obtain ⟨a, ca, rfl⟩ := hv.form
  obtain ⟨a', cb, rfl⟩ := hu.form
  have Hv := hide hv
  have Hu := hide hu
  clear hv hu
  obtain ⟨n, hn⟩ : ∃ n, l.length = n := ⟨_, rfl⟩
  rw [hn] at hm Hv Hu ⊢
  have Hn := hide hn
  clear hn
  have i0 : (n : Int) ≤ 100000 := by omega
  go_enter Try.func22, Try.ntmps22
  go_wp2_with fail
  go_loopw [13] (fun i wr => ∃ k q : Nat, k ≤ n ∧ i = .int .i64 k ∧ wr = w.drewN q) (fun i _ => n - (intOf i).toNat)
  case atStart => exact ⟨0, 0, by omega, rfl, rfl⟩
  case round =>
    obtain ⟨k, q, hk, rfl, rfl⟩ := hrel
    by_cases hlt : k < n
    · obtain ⟨z, hz⟩ : ∃ z, l[k]? = some z := ⟨_, List.getElem?_eq_getElem (by rw [Hn.out]; exact hlt)⟩
      obtain ⟨b1, o1, rfl, x0⟩ := Hv.out.at k z hz
      obtain ⟨b2, o2, rfl, y0⟩ := Hu.out.at k z hz
      have x1 : w.cell? ⟨b1, o1 + k, none⟩ = some (.int .u16 z) := by have := x0 0 (by decide); rw [show u16sE.k = 1 from rfl, Nat.mul_one, Nat.add_zero] at this; exact this
      have y1 : w.cell? ⟨b2, o2 + k, none⟩ = some (.int .u16 z) := by have := y0 0 (by decide); rw [show u16sE.k = 1 from rfl, Nat.mul_one, Nat.add_zero] at this; exact this
      have j0 : (0 : Int) ≤ (k : Int) := by omega
      have j1 : (k : Int) < (n : Int) := by omega
      have x2 : (w.drewN q).cell? ⟨b1, o1 + k, none⟩ = some (.int .u16 z) := x1
      have y2 : (w.drewN q).cell? ⟨b2, o2 + k, none⟩ = some (.int .u16 z) := y1
      clear x0 y0 hz x1 y1
      obtain ⟨wA, hwA⟩ : ∃ W, w.drewN q = W := ⟨_, rfl⟩
      rw [hwA] at x2 y2 ⊢
      have HwA := hide hwA
      clear hwA
      go_wp2_with fail
      go_quiet (fail)
      go_wp2_with fail
      go_roundw
      case rel => exact ⟨k + 1, q + nq, by omega, by go_num, by rw [← HwA.out]; simp [World.drewN, Nat.add_assoc]⟩
      case measure => simp [intOf]; omega
    · have j1 : ¬ (k : Int) < (n : Int) := by omega
      go_wp2_with fail
      go_ret
      exact ⟨rfl, q, rfl⟩

/-- one sender outlives what the other one does -/
theorem Snd.pair {w w' : World} {g g' B B' : Nat} {S S' : Sd} (H : Snd w g B S) (H' : Snd w g' B' S') (hg : g ≠ g') (hs : Sep S.v S'.v) (x : Chg g' S'.v w w') : Snd w' g B S := by
  refine H.stay fun k hk h => x.block k hk (fun e => ?_) (fun e => ?_)
  · subst e
    rcases h with h | h | ⟨p, hp, h⟩
    · exact hg h.symm
    · obtain ⟨cur, hc, _⟩ := own_cells H.lies.row k h
      rw [H'.box] at hc; simp only [Option.some.injEq, Obj.cells.injEq] at hc; exact absurd hc.2.1 (show ¬ (79 : TypeId) = 83 by decide)
    · obtain ⟨cur, hc, _⟩ := own_cells (H.lies.dat p hp) k h
      rw [H'.box] at hc; simp only [Option.some.injEq, Obj.cells.injEq] at hc; exact absurd hc.2.1 (show ¬ (79 : TypeId) = 5 by decide)
  · obtain ⟨cur', hc', _⟩ := own_cells H'.lies.row k e
    rcases h with h | h | ⟨p, hp, h⟩
    · subst h
      rw [H.box] at hc'; simp only [Option.some.injEq, Obj.cells.injEq] at hc'; exact absurd hc'.2.1 (show ¬ (79 : TypeId) = 83 by decide)
    · exact hs k h e
    · obtain ⟨cur, hc, _⟩ := own_cells (H.lies.dat p hp) k h
      rw [hc'] at hc; simp only [Option.some.injEq, Obj.cells.injEq] at hc; exact absurd hc.2.1 (show ¬ (83 : TypeId) = 5 by decide)
/-- a row that is its own or new is apart still -/
theorem sep_next {w : World} {B : Nat} {v v' u : Value} {first : Int} {ps : List Pc} (hs : Sep v u) (hu : (pcE first).Own w B u ps) (h : ∀ k, v'.ownBlock = some k → v.ownBlock = some k ∨ w.heap.size ≤ k) : Sep v' u := by
  intro k hk hk'
  rcases h k hk with h | h
  · exact hs k h hk'
  · have := hu.lt k hk'; omega
theorem sep_same {v v' u : Value} (hs : Sep v u) (h : v'.ownBlock = v.ownBlock) : Sep v' u := fun k hk => hs k (h ▸ hk)

/-- the pieces i to N - 1, each with its number as its byte, never sent -/
structure Dr (first : Int) (i N : Nat) (S : Sd) : Prop where
  win : S.win = 64
  first : S.first = first
  count : S.count = N
  dead : S.dead = false
  len : S.ps.length + i = N
  at' : ∀ (j : Nat) (p : Pc), S.ps[j]? = some p → p.n = (i + j : Nat) ∧ p.sent = 0 ∧ p.d = [((i + j : Nat) : Int)]
  times : 1 ≤ S.times

theorem Dr.new (pause times first : Int) (ht : 1 ≤ times) : Dr first 0 0 (Sd.new 64 pause times first) := ⟨rfl, rfl, rfl, rfl, rfl, (fun j p h => by simp [Sd.new] at h), ht⟩
theorem Dr.put {first : Int} {N : Nat} {S : Sd} (h : Dr first 0 N S) (v : Value) (p : Pc) (hn : p.n = S.count) (hs : p.sent = 0) (hd : p.d = [(N : Int)]) : Dr first 0 (N + 1) (S.put v p) where
  win := h.win
  first := h.first
  count := by show S.count + 1 = _; rw [h.count]; omega
  dead := h.dead
  len := by show (S.ps ++ [p]).length + 0 = _; have := h.len; simp; omega
  at' := fun j q hq => by
    have hq' : (S.ps ++ [p])[j]? = some q := hq
    have hl := h.len
    by_cases hj : j < S.ps.length
    · rw [List.getElem?_append_left hj] at hq'
      exact h.at' j q hq'
    · rw [List.getElem?_append_right (by omega)] at hq'
      have hlt := (List.getElem?_eq_some_iff.1 hq').1
      simp at hlt
      have e : j = N := by omega
      subst e
      rw [show j - S.ps.length = 0 by omega] at hq'
      simp at hq'
      rw [← hq', hn, h.count, Nat.zero_add]
      exact ⟨rfl, hs, hd⟩
  times := h.times
theorem Dr.lo {first : Int} {i N : Nat} {S : Sd} (h : Dr first i N S) : S.lo = i := by
  have hl := h.len
  cases hs : S.ps with
  | nil => rw [Sd.lo_nil hs, h.count]; rw [hs] at hl; simp at hl; omega
  | cons p ps => rw [Sd.lo_at (p := p) (by rw [hs]; rfl), (h.at' 0 p (by rw [hs]; rfl)).1]; rfl
theorem Dr.drop {first : Int} {i N : Nat} {S : Sd} (h : Dr first i N S) (v : Value) (k : Nat) (hk : i + k ≤ N) : Dr first (i + k) N (S.cut v 0 k) where
  win := h.win
  first := h.first
  count := h.count
  dead := h.dead
  len := by show (S.ps.take 0 ++ S.ps.drop k).length + (i + k) = N; rw [List.take_zero, List.nil_append, List.length_drop]; have := h.len; omega
  at' := fun j p hp => by
    have hp' : (S.ps.take 0 ++ S.ps.drop k)[j]? = some p := hp
    rw [List.take_zero, List.nil_append, List.getElem?_drop] at hp'
    have := h.at' (k + j) p hp'
    rw [show i + (k + j) = i + k + j by omega] at this
    exact this
  times := h.times
theorem Dr.pre {first : Int} {i N m : Nat} {S : Sd} (h : Dr first i N S) (hi : i ≤ m) (hm : m ≤ N) : pre (m : Int) S.ps = m - i := by
  have hl := h.len
  by_cases he : m = N
  · rw [pre_all _ _ (fun p hp => by
      obtain ⟨j, hj, rfl⟩ := List.mem_iff_getElem.1 hp
      have := (h.at' j _ (List.getElem?_eq_getElem hj)).1
      omega)]
    omega
  · obtain ⟨p, hp⟩ : ∃ p, S.ps[m - i]? = some p := ⟨_, List.getElem?_eq_getElem (by omega)⟩
    refine pre_at _ _ (m - i) p (fun j q hj hq => ?_) hp ?_
    · have := (h.at' j q hq).1; omega
    · have := (h.at' _ p hp).1; omega
theorem Dr.pix {first : Int} {i N : Nat} {S : Sd} (h : Dr first i N S) (hi : i < N) : pix S.first (sq first i) S.ps = 0 := by
  have hl := h.len
  obtain ⟨p, hp⟩ : ∃ p, S.ps[0]? = some p := ⟨_, List.getElem?_eq_getElem (by omega)⟩
  exact pix_at hp (by rw [(h.at' 0 p hp).1, h.first]; rfl) (fun j q hj => by omega)
theorem Dr.dies {first : Int} {i N : Nat} {S : Sd} (h : Dr first i N S) : S.dies = false := by
  unfold Sd.dies
  rw [List.any_eq_false]
  intro p hp
  obtain ⟨j, hj, rfl⟩ := List.mem_iff_getElem.1 hp
  have := (h.at' j _ (List.getElem?_eq_getElem hj)).2.1
  have ht := h.times
  simp only [ends, Bool.and_eq_true, decide_eq_true_eq, not_and]
  omega
/-- what is sent: the numbers i to N - 1 -/
def osOf (first : Int) (i N : Nat) : List (Int × List Int) := (List.range (N - i)).map (fun j => (sq first ((i + j : Nat) : Int), [((i + j : Nat) : Int)]))
theorem Dr.outs {first : Int} {i N : Nat} {S : Sd} (h : Dr first i N S) : S.outs = osOf first i N := by
  unfold Sd.outs osOf
  have hl := h.len
  rw [List.filter_eq_self.2 (fun p hp => by
    obtain ⟨j, hj, rfl⟩ := List.mem_iff_getElem.1 hp
    exact decide_eq_true (.inl (h.at' j _ (List.getElem?_eq_getElem hj)).2.1))]
  apply List.ext_getElem?
  intro j
  rw [List.getElem?_map, List.getElem?_map]
  by_cases hj : j < S.ps.length
  · have := h.at' j _ (List.getElem?_eq_getElem hj)
    rw [List.getElem?_eq_getElem hj, List.getElem?_range (by omega)]
    simp only [Option.map_some, Option.some.injEq]
    rw [this.1, this.2.2, h.first]
  · rw [List.getElem?_eq_none (by omega), List.getElem?_eq_none (by simp; omega)]
    rfl
theorem Dr.nums {first : Int} {i N : Nat} {S : Sd} (h : Dr first i N S) : S.tick.nums = (List.range (N - i)).map (fun j => sq first ((i + j : Nat) : Int)) := by
  show (S.ps.map (tk S.pause)).map (fun p => sq S.first p.n) = _
  have hl := h.len
  apply List.ext_getElem?
  intro j
  rw [List.getElem?_map, List.getElem?_map, List.getElem?_map]
  by_cases hj : j < S.ps.length
  · have := h.at' j _ (List.getElem?_eq_getElem hj)
    rw [List.getElem?_eq_getElem hj, List.getElem?_range (by omega)]
    simp only [Option.map_some, Option.some.injEq]
    rw [(tk_n S.pause _).1, this.1, h.first]
  · rw [List.getElem?_eq_none (by omega), List.getElem?_eq_none (by simp; omega)]
    rfl
theorem os_at {first : Int} {i N : Nat} {os : List Ot} (h : os.map (fun o => (o.s, o.d)) = osOf first i N) : os.length = N - i ∧ ∀ (j : Nat) (o : Ot), os[j]? = some o → o.s = sq first ((i + j : Nat) : Int) ∧ o.d = [((i + j : Nat) : Int)] := by
  have hl : os.length = N - i := by
    have := congrArg List.length h
    simpa [osOf] using this
  refine ⟨hl, fun j o ho => ?_⟩
  have hj := (List.getElem?_eq_some_iff.1 ho).1
  have e := congrArg (fun l => l[j]?) h
  simp only [osOf, List.getElem?_map, ho, List.getElem?_range (show j < N - i by omega), Option.map_some, Option.some.injEq, Prod.mk.injEq] at e
  exact e
end Go.Proofs.Yteihajppgooadaa
