/- Order: the numbers once each, from lo on, in memory of its own. -/
import Derived.Test.YtmbgcbbpkbaajaaOrdM
import Derived.Test.YtmbgcbbpkbaajaaSlic
namespace Go.Proofs.Ytmbgcbbpkbaajaa
open Go.ChangeShapes Go.WideShapes Go.ChangeAt Go.RowKit Go.Sort Go.Lib Go.Shelf


set_option maxHeartbeats 1000000 in
theorem closure_any (lo x y : Int) (B : Nat) (W : World) (hc : W.cell? ⟨B, 0, none⟩ = some (.int .u16 lo)) :
    Calls Try.prog 29 #[.int .u16 x, .int .u16 y, .pointer (some ⟨B, 0, none⟩)] W fun e w' => e = .returned (.int .i64 (cfL lo x y)) ∧ ∃ q, w' = W.drewN q := by
  have k20 := fun (s : Int) (V : World) => steps_any lo s V
  have k24 : ∀ (a b : Int) (V : World), Calls Try.prog 30 #[.int .i64 a, .int .i64 b] V fun e w' => e = .returned (.int .i64 (Lib.compareInt a b)) ∧ w' = V := fun a b V => AnyG.cmp_Compare_int cmpL a b V
  unfold cfL
  generalize Lib.compareInt = F at *
  generalize up = U at *
  have K20 := hide k20
  have K24 := hide k24
  clear k20 k24
  go_enter Try.func29, Try.ntmps29
  go_wp2_with fail
  go_quiet (first
    | (go_at_call 26; exact Calls.quiet_of_same (K20.out _ _))
    | (go_at_call 30; exact Calls.quiet_of_same (K24.out _ _ _)))
  go_wp2_with fail
  go_ret
  exact ⟨rfl, _, rfl⟩


/-- the block of a row, with the row laid anew -/
theorem row_put {w : World} {g : Nat} {cur : Array Value} {e : TypeId} {fr : Nat × Nat} (h : w.heap[g]? = some (.cells cur e fr)) (d : Array Int) (q : Nat) (os : Array Obj) :
    (grow (putRow (Value.int .u16) (Sort.ahead w q) g 0 d) os).heap[g]? = some (.cells (putCells (Value.int .u16) 0 d cur) e fr) := by
  have hg : g < w.heap.size := by
    rcases Nat.lt_or_ge g w.heap.size with h' | h'
    · exact h'
    · rw [Array.getElem?_eq_none h'] at h; cases h
  rw [heap_grow_old _ _ (by simpa using hg)]
  simp [putRow, mapBlock, Array.getElem?_modify, h, onCells]

theorem put_below {w : World} {B g : Nat} (hB : B ≤ g) (hg : g < w.heap.size) (d : Array Int) (q : Nat) (os : Array Obj) : RowKit.Below B w (grow (putRow (Value.int .u16) (Sort.ahead w q) g 0 d) os) := by
  refine ⟨rfl, rfl, rfl, by simp, fun k hk => ?_⟩
  have hk' : g ≠ k := by omega
  have h : k < w.heap.size := by omega
  rw [heap_grow_old _ _ (by simpa using h)]
  simp [putRow, mapBlock, Array.getElem?_modify, hk']

theorem put_take (d : Array Int) (c : List Int) (cur : Array Value) (hd : d.toList.take c.length = c) (hc : d.size ≤ cur.size) :
    (putCells (Value.int .u16) 0 d cur).toList.take c.length = c.map (Value.int .u16) := by
  have hl : c.length ≤ d.size := by
    have := congrArg List.length hd
    rw [List.length_take] at this
    simp at this; omega
  apply List.ext_getElem?
  intro i
  rcases Nat.lt_or_ge i c.length with h | h
  · rw [List.getElem?_take_of_lt h]
    have e1 : c[i]? = some d[i]! := by
      rw [← hd, List.getElem?_take_of_lt h, getElem!_pos d i (by omega)]; simp
    rw [List.getElem?_map, e1]
    simp only [putCells, Array.toList_mapIdx, List.getElem?_mapIdx, Array.getElem?_toList]
    rw [Array.getElem?_eq_getElem (by omega)]
    simp
    omega
  · rw [List.getElem?_eq_none (by simp; omega), List.getElem?_eq_none (by simpa using h)]

theorem holds_own {w : World} {g : Nat} {cur : Array Value} (hg : w.heap[g]? = some (.cells cur 22 (0, 0))) (l : List Int) (ht : cur.toList.take (l.length * 1) = l.map (Value.int .u16)) :
    Holds (Value.int .u16) w g 0 l.toArray := by
  intro j hj
  have hj' : j < l.length := by simpa using hj
  constructor
  · have e : cur[j]? = some (.int .u16 (l[j]?.getD 0)) := by
      have := congrArg (fun (m : List Value) => m[j]?) ht
      simp only [Nat.mul_one] at this
      rw [List.getElem?_take_of_lt hj'] at this
      rw [← Array.getElem?_toList, this]
      simp [hj']
    unfold World.cell?
    simp only [hg, Nat.zero_add]
    rw [e, getElem!_pos l.toArray j hj]
    simp [hj']
  · unfold World.frozen?
    simp [hg]

theorem ord_lt {w : World} {g : Nat} {o : Obj} (h : w.heap[g]? = some o) : g < w.heap.size := by
  rcases Nat.lt_or_ge g w.heap.size with h' | h'
  · exact h'
  · rw [Array.getElem?_eq_none h'] at h; cases h

theorem ord_size_put (d : Array Int) (cur : Array Value) : (putCells (Value.int .u16) 0 d cur).size = cur.size := by simp [putCells]

theorem sort_any (lo : Int) (l : List Int) (B p : Nat) (v : Value) (W : World) (hown : Ow W B v l) (hp : p < B) (hc : W.cell? ⟨p, 0, none⟩ = some (.int .u16 lo)) (hm : l.length ≤ 1000) :
    Calls Try.prog 28 #[v, .func (.func 29) #[] #[.pointer (some ⟨p, 0, none⟩)]] W fun e w' =>
      e = .returned (.tuple #[]) ∧ ∃ d : List Int, Ow w' B v d ∧ PermIn 0 l.toArray.size l.toArray d.toArray ∧ SortedIn (ltOf (cfL lo)) 0 l.toArray.size d.toArray ∧ RowKit.Below B W w' := by
  by_cases h0 : l = []
  · subst h0
    obtain ⟨a, cap, rfl⟩ : ∃ a cap, v = .slice a 0 cap := by
      obtain ⟨a, cap, h⟩ := (Bs.own hown).form
      exact ⟨a, cap, h⟩
    have hS := AnyF.slices_SortFunc_none (P := Try.prog) (ρ := sortL_ren) { sortL with } a cap (.func (.func 29) #[] #[.pointer (some ⟨p, 0, none⟩)]) W
    refine Calls.mono hS ?_
    rintro e w' ⟨rfl, rfl⟩
    exact ⟨rfl, [], hown, ⟨rfl, fun _ _ => rfl, List.Perm.refl _⟩, (fun i j _ _ h => by simp at h), RowKit.Below.refl _ _⟩
  · obtain ⟨hl, h⟩ := hown
    rcases h with ⟨_, h⟩ | ⟨g, cap, cur, rfl, hB, hg, hn, hmx, hs, ht⟩
    · exact absurd (List.eq_nil_of_length_eq_zero h) h0
    · have hH := holds_own hg l ht
      have eg : ∀ args w, (callFunc 29 args).run Try.prog w = .ok (.enter 29 args) w := enters_of Try.func29 (by kernel_rfl) rfl
      have hcmp : CmpReads Try.prog 29 #[.pointer (some ⟨p, 0, none⟩)] (Value.int .u16) (cfL lo) g 0 l.toArray.size W := by
        intro m os dk _ x y
        refine closure_any lo x y p _ ?_
        have hpw : p < W.heap.size := Nat.lt_trans (Nat.lt_of_lt_of_le hp hB) (ord_lt hg)
        unfold sortWorld
        rw [cell?_grow _ _ _ (by simpa using hpw), cell?_putRow_other _ _ _ _ _ _ (.inl (by show p ≠ g; omega))]
        exact hc
      have hS := Any.slices_SortFunc sortL (Value.int .u16) (fun _ => rfl) (cfL lo) (swoL lo) 29 #[.pointer (some ⟨p, 0, none⟩)] g 0 cap l.toArray W eg hcmp.lays hH (ord_lt hg) (by simp; omega)
      rw [show l.toArray.size = l.length by simp] at hS
      refine Calls.mono hS ?_
      rintro e w' ⟨rfl, d, n, os, hpm, hsd, rfl⟩
      have hz : d.size = l.length := by simpa using hpm.1
      refine ⟨rfl, d.toList, ⟨by simp [hz], .inr ⟨g, cap, putCells (Value.int .u16) 0 d cur, by simp [hz], hB, row_put hg d n os, by simp [hz]; omega, hmx, by rw [ord_size_put]; exact hs, ?_⟩⟩, by simpa using hpm, by simpa using hsd, put_below hB (ord_lt hg) d n os⟩
      rw [Nat.mul_one]
      exact put_take d d.toList cur (List.take_of_length_le (Nat.le_refl _)) (by omega)


set_option maxHeartbeats 1000000 in
theorem compact_none (a : Option Addr) (cap : Nat) (W : World) : Calls Try.prog 31 #[.slice a 0 cap] W fun e w' => e = .returned (.slice a 0 cap) ∧ w' = W := by
  go_enter Try.func31, Try.ntmps31
  go_wp2_with fail
  go_ret
  exact ⟨rfl, rfl⟩

theorem compact_any (d : List Int) (B : Nat) (v : Value) (W : World) (hown : Ow W B v d) (hm : d.length ≤ 1000) :
    Calls Try.prog 31 #[v] W fun e w' => ∃ v', e = .returned v' ∧ Ow w' B v' (compactUpTo d.toArray d.toArray.size) ∧ RowKit.Below B W w' := by
  by_cases h0 : d = []
  · subst h0
    obtain ⟨a, cap, rfl⟩ : ∃ a cap, v = .slice a 0 cap := by
      obtain ⟨a, cap, h⟩ := (Bs.own hown).form
      exact ⟨a, cap, h⟩
    refine (compact_none a cap W).mono ?_
    rintro e w' ⟨rfl, rfl⟩
    exact ⟨_, rfl, hown, RowKit.Below.refl _ _⟩
  · obtain ⟨hl, h⟩ := hown
    rcases h with ⟨_, h⟩ | ⟨g, cap, cur, rfl, hB, hg, hn, hmx, hs, ht⟩
    · exact absurd (List.eq_nil_of_length_eq_zero h) h0
    · have hH := holds_own hg d ht
      have hS := AnyE.slices_Compact compL (Value.int .u16) (fun _ => rfl) (EqlAt.intD _ _ .u16) (NeqAt.intD _ _ .u16) 0 Try.zeroValue22 g 0 cap d.toArray W hH (by simp; omega) (by simpa using hn)
      rw [show d.toArray.size = d.length by simp] at hS ⊢
      refine Calls.mono hS ?_
      rintro e w' ⟨rfl, q, rfl⟩
      have hle : (compactUpTo d.toArray d.length).length ≤ d.length := by
        unfold compactUpTo
        rw [List.length_map]
        have := List.length_filter_le (keeps d.toArray) (List.range d.length)
        simpa using this
      generalize compactUpTo d.toArray d.length = c at *
      have hr := row_put hg (c ++ List.replicate (d.length - c.length) 0).toArray q #[]
      have hb := put_below hB (ord_lt hg) (c ++ List.replicate (d.length - c.length) 0).toArray q #[]
      rw [grow_empty] at hr hb
      refine ⟨_, rfl, ⟨by simp, .inr ⟨g, cap, _, rfl, hB, hr, by omega, hmx, by rw [ord_size_put]; exact hs, ?_⟩⟩, hb⟩
      rw [Nat.mul_one]
      exact put_take _ c cur (by simp) (by simp; omega)


set_option maxHeartbeats 2000000 in
theorem order_any (lo : Int) (l : List Int) (v : Value) (w : World) (hv : Bs w v l) (hin : InW l) (hm : l.length ≤ 1000) :
    Calls Try.prog 25 #[v, .int .u16 lo] w fun e w' => ∃ v' r, e = .returned v' ∧ Ow w' w.heap.size v' r ∧ Ordd lo l r ∧ RowKit.Below w.heap.size w w' := by
  have hb1 : RowKit.Below w.heap.size w (w.alloc (.cells #[.int .u16 lo] 22)) := (RowKit.Below.refl _ _).alloc (Nat.le_refl _) _
  have Hv := hide (hv.keep hb1)
  have Hb1 := hide hb1
  have Hin := hide hin
  have Hm := hide hm
  clear hv hb1 hin hm
  go_enter Try.func25, Try.ntmps25
  go_wp2_with (at_builtin; refine wpList_app (w0 := w.alloc (.cells #[.int .u16 lo] 22)) (RowKit.Below.refl _ _) (by rfl) _ _ rfl _ _ rfl rfl [] l ⟨rfl, .inl ⟨rfl, rfl⟩⟩ Hv.out (by have := Hm.out; simp; omega) ?_; intro v1 w2 hown2 hb2; refine Hid.out ?_)
  refine hide ?_
  rw [List.nil_append] at hown2
  have hc : w2.cell? ⟨w.heap.size, 0, none⟩ = some (.int .u16 lo) := by
    rw [hb2.cell (by simp)]; simp
  have k22 := sort_any lo l _ w.heap.size v1 w2 hown2 (by simp) hc Hm.out
  have K22 := hide k22
  have Hb2 := hide hb2
  clear k22 hown2 hc hb2
  go_wp2_with (go_at_call 28; refine K22.out.mono ?_; rintro e w3 ⟨rfl, d, hown3, hpm, hsd, hb3⟩; have hd : d.length = l.length := (by simpa using hpm.1); have k25 := compact_any d _ v1 w3 hown3 (by have := Hm.out; omega); have K25 := hide k25; have HP := hide hpm; have HS := hide hsd; clear k25 hpm hsd hd hown3)
  refine K25.out.mono ?_
  rintro e w4 ⟨v4, rfl, hown4, hb4⟩
  go_wp2_with fail
  go_ret
  have h := comp_ordd lo l d.toArray Hin.out HP.out HS.out
  have hs : w.heap.size ≤ (w.alloc (.cells #[.int .u16 lo] 22)).heap.size := Hb1.out.size
  exact ⟨v4, _, rfl, hown4.mono hs, h.2, Hb1.out.trans ((Hb2.out.mono hs).trans ((hb3.mono hs).trans (hb4.mono hs)))⟩
end Go.Proofs.Ytmbgcbbpkbaajaa
