/- A sender whose pieces go to an intake: what is open, what came, and how soon. -/
import Derived.Test.YteihajppgooadaaCarI
import Derived.Test.YteihajppgooadaaArgs
namespace Go.Proofs.Yteihajppgooadaa
open Go.RowKit
set_option linter.unusedVariables false

structure CS (first : Int) (n r c : Nat) (S : Sd) : Prop where
  win : S.win = 8
  pause : S.pause = 1
  times : S.times = 20
  first : S.first = first
  dead : S.dead = false
  count : S.count = c
  cn : c ≤ n
  n30 : n ≤ 29
  fit : S.Fit
  pcs : ∀ p ∈ S.ps, p.d = [p.n] ∧ p.ago = 0 ∧ 0 ≤ p.n ∧ (r : Int) ≤ p.sent + 20 * (p.n / 8)
/-- not too late -/
def Erl (n r c : Nat) : Prop := r ≤ 20 * (c / 8) ∨ c = n
structure Lk (first : Int) (c ni : Nat) (S : Sd) (I : Ik) : Prop where
  link : ∀ i, i < c → Tkn first ni I i ∨ ∃ p ∈ S.ps, p.n = i
  nic : ni ≤ c
  lim : ∀ k, ni ≤ k → k < ni + 8 → I.wait (sq first k) ≠ none → k < c

section
variable {first : Int} {n r c ni got : Nat} {S : Sd} {I : Ik}

theorem CS.new (first : Int) (n : Nat) (hn : n ≤ 29) : CS first n 0 0 (Sd.new 8 1 20 first) := ⟨rfl, rfl, rfl, rfl, rfl, rfl, by omega, hn, Sd.Fit.new _ _ _ _, (fun p h => by cases h)⟩
theorem Lk.new (first : Int) : Lk first 0 0 (Sd.new 8 1 20 first) (Ik.new 8 first) := ⟨(fun i h => by omega), by omega, (fun k _ _ h => absurd rfl h)⟩
theorem CS.lo_le (hS : CS first n r c S) (hL : Lk first c ni S I) (hI : CI first ni got I) : S.lo ≤ ni ∧ c ≤ ni + 8 := by
  have h1 := hS.fit.ok.lo (by rw [hS.win]; omega)
  rw [hS.count, hS.win] at h1
  have h2 : S.lo ≤ ni := by
    rcases Int.lt_or_le (ni : Int) S.lo with h | h
    · rcases hL.link ni (by omega) with (hh | hh) | ⟨p, hp, hn⟩
      · omega
      · exact absurd hI.next hh
      · have := hS.fit.ok.lo_le p hp; omega
    · exact h
  exact ⟨h2, by omega⟩
theorem CS.put (hS : CS first n r c S) (hE : Erl n r c) (hc : c < n) (hl : S.Lim) (v : Value) (p : Pc) (pn : p.n = S.count) (pd : p.d = [(c : Int)]) (ps : p.sent = 0) (pa : p.ago = 0) (hf : S.count - S.lo + 1 ≤ S.win) : CS first n r (c + 1) (S.put v p) ∧ Erl n r (c + 1) := by
  have hE' : r ≤ 20 * (c / 8) := by rcases hE with h | h; exact h; omega
  refine ⟨⟨hS.win, hS.pause, hS.times, hS.first, hS.dead, ?_, by omega, hS.n30, hS.fit.put hl v p pn ps pa (by rw [pd]; simp) hf, ?_⟩, .inl (by omega)⟩
  · show S.count + 1 = _; rw [hS.count]; omega
  · intro q hq
    rcases List.mem_append.1 hq with hq | hq
    · exact hS.pcs q hq
    · have e : q = p := by simpa using hq
      rw [e, pn, hS.count, pd, ps, pa]
      exact ⟨rfl, rfl, by omega, by omega⟩
theorem Lk.put (hL : Lk first c ni S I) (hS : CS first n r c S) (v : Value) (p : Pc) (pn : p.n = S.count) : Lk first (c + 1) ni (S.put v p) I := by
  refine ⟨fun i hi => ?_, by have := hL.nic; omega, fun k h1 h2 h3 => by have := hL.lim k h1 h2 h3; omega⟩
  by_cases e : i = c
  · exact .inr ⟨p, by show p ∈ S.ps ++ [p]; simp, by rw [pn, hS.count, e]⟩
  · rcases hL.link i (by omega) with h | ⟨q, hq, hn⟩
    · exact .inl h
    · exact .inr ⟨q, by show q ∈ S.ps ++ [p]; simp [hq], hn⟩
theorem CS.due (hS : CS first n r c S) (p : Pc) (hp : p ∈ S.ps) : due S.pause p = true := decide_eq_true (.inr (by rw [(hS.pcs p hp).2.1, hS.pause]; rfl))
theorem CS.tick (hS : CS first n r c S) (hl : S.Lim) (hd : S.dies = false) : CS first n (r + 1) c S.tick := by
  refine ⟨hS.win, hS.pause, hS.times, hS.first, hS.dead, hS.count, hS.cn, hS.n30, hS.fit.tick hl hd, ?_⟩
  intro q hq
  obtain ⟨p, hp, rfl⟩ := List.mem_map.1 hq
  have h := hS.pcs p hp
  rw [(tk_n S.pause p).1, (tk_n S.pause p).2.1]
  unfold tk
  rw [if_pos (hS.due p hp)]
  exact ⟨h.1, rfl, h.2.2.1, by simp only; omega⟩
theorem Lk.tick (hL : Lk first c ni S I) : Lk first c ni S.tick I :=
  ⟨fun i hi => by
    rcases hL.link i hi with h | ⟨q, hq, hn⟩
    · exact .inl h
    · exact .inr ⟨tk S.pause q, List.mem_map_of_mem hq, by rw [(tk_n S.pause q).1]; exact hn⟩, hL.nic, hL.lim⟩
theorem CS.erl (hS : CS first n r c S) (hd : S.dies = false) (hf : c = n ∨ S.win < S.count - S.lo + 1) : Erl n (r + 1) c := by
  rcases hf with h | h
  · exact .inr h
  · left
    rw [hS.win, hS.count] at h
    cases hps : S.ps with
    | nil => rw [Sd.lo_nil hps, hS.count] at h; omega
    | cons p ps =>
      rw [Sd.lo_at (p := p) (by rw [hps]; rfl)] at h
      have hp : p ∈ S.ps := by rw [hps]; simp
      have h1 := hS.pcs p hp
      have h2 := hS.fit.ok.tim p hp
      have h3 : p.sent ≠ 20 := by
        have he : ends S p = false := by
          have := List.any_eq_false.1 hd p hp
          simpa using this
        unfold ends at he
        rw [hS.due p hp, hS.times] at he
        simpa using he
      rw [hS.times] at h2
      omega
theorem CS.outs (hS : CS first n r c S) {os : List Ot} (h : os.map (fun o => (o.s, o.d)) = S.outs) : os.length ≤ 8 ∧ ∀ (k : Nat) (o : Ot), os[k]? = some o → ∃ m : Nat, o.s = sq first m ∧ o.d = [(m : Int)] ∧ m < c ∧ c ≤ m + 8 := by
  have he : S.outs = S.ps.map (fun p => (sq S.first p.n, p.d)) := by
    unfold Sd.outs
    rw [List.filter_eq_self.2 (fun p hp => hS.due p hp)]
  rw [he] at h
  have hlen := hS.fit.ok.len (by rw [hS.win]; omega)
  rw [hS.win] at hlen
  refine ⟨by have := congrArg List.length h; simp at this; omega, fun k o ho => ?_⟩
  have e := congrArg (fun l => l[k]?) h
  simp only [List.getElem?_map, ho, Option.map_some] at e
  cases hp : S.ps[k]? with
  | none => rw [hp] at e; cases e
  | some p =>
    rw [hp] at e
    simp only [Option.map_some, Option.some.injEq, Prod.mk.injEq] at e
    have hm := List.mem_of_getElem? hp
    have h1 := hS.pcs p hm
    have h2 := hS.fit.ok.num p hm
    rw [hS.count, hS.win] at h2
    refine ⟨p.n.toNat, ?_, ?_, by omega, by omega⟩
    · rw [e.1, hS.first, show ((p.n.toNat : Nat) : Int) = p.n by omega]
    · rw [e.2, h1.1, show ((p.n.toNat : Nat) : Int) = p.n by omega]
theorem CS.cut (hS : CS first n r c S) (v : Value) (k : Nat) : CS first n r c (S.cut v k (k + 1)) :=
  ⟨hS.win, hS.pause, hS.times, hS.first, hS.dead, hS.count, hS.cn, hS.n30, hS.fit.cut v k (k + 1) (by omega), fun p hp => hS.pcs p ((cut_sub S.ps k (k + 1) (by omega)).subset hp)⟩
theorem Lk.cut (hL : Lk first c ni S I) (hS : CS first n r c S) (v : Value) {m : Nat} (hm : m < c) (hm8 : c ≤ m + 8) (ht : Tkn first ni I m) (hx : pix S.first (sq first m) S.ps < S.ps.length) : Lk first c ni (S.cut v (pix S.first (sq first m) S.ps) (pix S.first (sq first m) S.ps + 1)) I := by
  refine ⟨fun i hi => ?_, hL.nic, hL.lim⟩
  by_cases e : i = m
  · rw [e]; exact .inl ht
  · rcases hL.link i hi with h | ⟨q, hq, hn⟩
    · exact .inl h
    · refine .inr ⟨q, ?_, hn⟩
      show q ∈ S.ps.take _ ++ S.ps.drop _
      obtain ⟨j, hj, rfl⟩ := List.mem_iff_getElem.1 hq
      have hne : j ≠ pix S.first (sq first m) S.ps := fun ej => by
        have hh : decide (sq S.first (S.ps[pix S.first (sq first m) S.ps]'hx).n = sq first m) = true := List.findIdx_getElem (w := hx)
        have hh' := of_decide_eq_true hh
        have ej' : S.ps[pix S.first (sq first m) S.ps]'hx = S.ps[j] := by simp only [← ej]
        rw [ej', hS.first, hn] at hh'
        have h2 := hS.fit.ok.num _ hq
        rw [hS.count, hS.win, hn] at h2
        exact e (sq_inj hh' (by omega) (by omega))
      generalize pix S.first (sq first m) S.ps = k at *
      rcases Nat.lt_or_ge j k with h | h
      · exact List.mem_append_left _ (List.mem_iff_getElem.2 ⟨j, by rw [List.length_take]; omega, by simp⟩)
      · refine List.mem_append_right _ (List.mem_iff_getElem.2 ⟨j - (k + 1), by rw [List.length_drop]; omega, ?_⟩)
        rw [List.getElem_drop]
        congr 1; omega
theorem Lk.take (hL : Lk first c ni S I) (hI : CI first ni got I) (hc : c ≤ ni + 8) {m j : Nat} {p : Dt} (h1 : ni ≤ m) (h2 : m < ni + 8) (hm : m < c) (j1 : (I.put (sq first m) p).There j) : Lk first c (ni + j) S ((I.put (sq first m) p).go j) := by
  obtain ⟨l1, l2⟩ := hI.lim h1 h2 j1 c hm hL.nic hL.lim
  refine ⟨fun i hi => ?_, l1, l2⟩
  rcases hL.link i hi with h | h
  · exact .inl (hI.tkn h1 h2 j1 i (by omega) (.inl h))
  · exact .inr h
theorem Lk.get (hL : Lk first c ni S I) (q : List Dt) : Lk first c ni S { I with q := q } := ⟨hL.link, hL.nic, hL.lim⟩
/-- all came, or it isn't late -/
theorem car_end (hS : CS first n r c S) (hE : Erl n r c) (hL : Lk first c ni S I) (hI : CI first ni got I) (hq : got = ni) (hr : 400 ≤ r) : got = n := by
  have hn := hS.n30
  have hcn := hS.cn
  have hnic := hL.nic
  rcases hE with h | h
  · omega
  · rcases Nat.lt_or_ge got n with hlt | hlt
    · rcases hL.link ni (by omega) with (hh | hh) | ⟨p, hp, hpn⟩
      · omega
      · exact absurd hI.next hh
      · have h1 := hS.pcs p hp
        have h2 := hS.fit.ok.tim p hp
        rw [hS.times] at h2
        omega
    · omega
end

/-! ### the two objects side by side -/
theorem Snd.only {w w' : World} {g B : Nat} {S : Sd} {h : Hd} {I : Ik} (H : Snd w g B S) (HI : Has w h I) (x : Only h w w') : Snd w' g B S := by
  obtain ⟨D, ⟨es, clock, hm, _⟩, _⟩ := HI.map
  obtain ⟨buf, s, r, hc, _⟩ := HI.chan
  have st : ∀ k cur t, t ≠ 99 → w.heap[k]? = some (Obj.cells cur t) → w'.heap[k]? = w.heap[k]? := fun k cur t ht hk => x.block k (heap_lt hk)
    (fun e => by subst e; rw [HI.box] at hk; simp only [Option.some.injEq, Obj.cells.injEq] at hk; exact ht hk.2.1.symm)
    (fun e => by subst e; rw [hm] at hk; cases hk) (fun e => by subst e; rw [hc] at hk; cases hk)
  exact ⟨H.lim, H.base, by rw [st g _ 79 (by decide) H.box]; exact H.box, H.lies.stay (fun k cur _ hk => st k cur 83 (by decide) hk) (fun k cur hk _ => st k cur 5 (by decide) hk)⟩
theorem Has.chg {w w' : World} {g B : Nat} {S : Sd} {h : Hd} {I : Ik} (HI : Has w h I) (H : Snd w g B S) (x : Chg g S.v w w') : Has w' h I := by
  have ne1 : ∀ (k : Nat) (o : Obj), w.heap[k]? = some o → (∀ C : Array Value, o ≠ Obj.cells C 79) → (∀ C : Array Value, o ≠ Obj.cells C 83) → w'.heap[k]? = w.heap[k]? := fun k o hk h1 h2 => x.block k (heap_lt hk)
    (fun e => by subst e; rw [H.box] at hk; exact h1 _ (Option.some.inj hk).symm)
    (fun e => by obtain ⟨cur, hc, _⟩ := own_cells H.lies.row k e; rw [hc] at hk; exact h2 _ (Option.some.inj hk).symm)
  obtain ⟨D, ⟨es, clock, hm, hr⟩, hM⟩ := HI.map
  obtain ⟨buf, s, r, hc, hq⟩ := HI.chan
  have st5 : ∀ k (cur : Array Value), w.heap[k]? = some (Obj.cells cur 5) → w'.heap[k]? = w.heap[k]? := fun k cur hk => ne1 k _ hk (fun C e => by simp at e) (fun C e => by simp at e)
  exact { win := HI.win, nx := HI.nx, box := by rw [ne1 _ _ HI.box (fun C e => by simp at e) (fun C e => by simp at e)]; exact HI.box,
          map := ⟨D, ⟨es, clock, by rw [ne1 _ _ hm (fun C e => by cases e) (fun C e => by cases e)]; exact hm, hr⟩, hM.stay fun g cur hg _ => st5 g cur hg⟩,
          chan := ⟨buf, s, r, by rw [ne1 _ _ hc (fun C e => by cases e) (fun C e => by cases e)]; exact hc, hq.stay fun g cur hg _ => st5 g cur hg⟩ }

/-! ### what is lost -/
/-- a slice of booleans that came in -/
def IsBools (w : World) (a : Option Addr) (len : Nat) : Prop := ∀ i, i < len → ∃ b off t, a = some ⟨b, off, none⟩ ∧ b < w.heap.size ∧ w.cell? ⟨b, off + i, none⟩ = some (.bool t)
theorem IsBools.keep {w w' : World} {a : Option Addr} {len : Nat} (h : IsBools w a len) (hb : Below w.heap.size w w') : IsBools w' a len := fun i hi => by
  obtain ⟨b, off, t, h1, h2, h3⟩ := h i hi
  exact ⟨b, off, t, h1, Nat.lt_of_lt_of_le h2 hb.size, by rw [hb.cell h2]; exact h3⟩
section
variable {H : Type} {enc : TypeId × Value → H} {w : World} {base : Nat} {spare : Nat → Bool} {held : Bool} {fuel : Nat} {cs : List Value} {x : DataW H × List MemPlace}
theorem bools_of_trod {a : Option Addr} {len cap : Nat} (h : DataW.trod enc Try.prog w base spare held fuel 67 cs = some x) (hcs : cs = [.slice a len cap]) : IsBools w a len ∧ len ≤ maxLen := by
  have e4 : Try.prog.cellsOf 4 = 1 := by kernel_rfl
  rcases DataW.trod_slice Try.underlying67 h with ⟨h1, _⟩ | ⟨x0, len', cap', elems, rest, n, _, h1, _, _, hl, hcm, he, hr, _⟩
  · rw [hcs] at h1
    simp at h1
    obtain ⟨rfl, rfl, rfl⟩ := h1
    exact ⟨fun i hi => by omega, Nat.zero_le _⟩
  · rw [hcs] at h1
    simp at h1
    obtain ⟨rfl, rfl, rfl⟩ := h1
    rw [e4] at hr
    have one : ∀ i, i < len → ∃ t, w.cell? (x0.add i) = some (.bool t) := by
      intro i hi
      have h2 := hr i hi
      rw [List.getElem?_eq_getElem (by omega)] at h2
      obtain ⟨cs', h3, h4⟩ := Option.bind_eq_some_iff.1 h2
      obtain ⟨t, ht, _⟩ := DataW.trod_bool Try.underlying4 h4
      obtain ⟨_, _, h5⟩ := World.cells?_some h3
      have h6 := h5 0 (by omega)
      rw [ht] at h6
      exact ⟨t, by simpa [Addr.add] using h6⟩
    refine ⟨fun i hi => ?_, by omega⟩
    obtain ⟨b, off, spot⟩ := x0
    obtain ⟨_, z0⟩ := one 0 (by omega)
    have hspot : spot = none := by simpa [Addr.add] using World.cell?_spot z0
    subst hspot
    obtain ⟨t, k0⟩ := one i hi
    rw [addr_plain] at k0
    exact ⟨b, off, t, rfl, cell_lt k0, k0⟩
end

set_option maxHeartbeats 1000000 in
theorem lossy_any {w : World} {a : Option Addr} {len cap : Nat} (hw : IsBools w a len) (hm : len ≤ maxLen) (k : Nat) (hk : k ≤ 100000) : ∃ t, Calls Try.prog 26 #[.slice a len cap, .int .i64 (k : Int)] w fun e w' => e = .returned (.bool t) ∧ w' = w := by
  have hm' : (len : Int) ≤ 9223372036854775807 := by unfold maxLen at hm; omega
  by_cases h0 : len = 0
  · subst h0
    refine ⟨false, ?_⟩
    go_enter Try.func26, Try.ntmps26
    go_wp2_with fail
    go_ret
    exact ⟨rfl, rfl⟩
  · obtain ⟨b, off, t, rfl, _, hc⟩ := hw (k % len) (Nat.mod_lt _ (by omega))
    refine ⟨t, ?_⟩
    have i0 : (0 : Int) < (len : Int) := by omega
    have i1 : ¬ (len : Int) = 0 := by omega
    have e : Int.tmod (k : Int) (len : Int) = ((k % len : Nat) : Int) := by rw [Int.tmod_eq_emod_of_nonneg (by omega)]; omega
    have i2 : ((k % len : Nat) : Int) < (len : Int) := by have := Nat.mod_lt k (show 0 < len by omega); omega
    have i3 : (0 : Int) ≤ ((k % len : Nat) : Int) := by omega
    generalize k % len = j at *
    clear hw h0 hm
    go_enter Try.func26, Try.ntmps26
    go_wp2_with fail
    go_ret
    exact ⟨rfl, rfl⟩
end Go.Proofs.Yteihajppgooadaa
