/- Notes of five bytes; slices that are made. -/
import Derived.Test.YtgdoagmnhmfjkaaTfm
namespace Go.Proofs.Ytgdoagmnhmfjkaa
open Go.RowKit
set_option linter.unusedVariables false

/-- notes of q bytes each -/
def Each (q : Nat) (ns : List Nt) : Prop := ∀ n ∈ ns, n.ok = true ∧ n.bts.length = q
theorem Each.all {q : Nat} {ns : List Nt} (h : Each q ns) : ns.all Nt.ok = true := all_ok (fun n hn => (h n hn).1)
theorem Each.take {q : Nat} {ns : List Nt} (h : Each q ns) (k : Nat) : Each q (ns.take k) := fun n hn => h n (List.mem_of_mem_take hn)
theorem Each.drop {q : Nat} {ns : List Nt} (h : Each q ns) (k : Nat) : Each q (ns.drop k) := fun n hn => h n (List.mem_of_mem_drop hn)
theorem Each.tot {q : Nat} {ns : List Nt} (h : Each q ns) : tot ns = q * ns.length := by
  unfold Proofs.Ytgdoagmnhmfjkaa.tot
  induction ns with
  | nil => rfl
  | cons n ns ih =>
    have h1 := ih (fun m hm => h m (by simp [hm]))
    have h2 := (h n (by simp)).2
    rw [List.flatMap_cons, List.length_append, List.length_cons, h1, h2, Nat.mul_add]
    omega
theorem five_cut {l : List Int} {got ns : List Nt} (h : Rds l got []) (hf : Each 5 ns) {n : Nat} (hn : n ≤ 5 * ns.length) : ∃ r, Rds (l ++ (ns.flatMap Nt.bts).take n) (got ++ ns.take (n / 5)) r := by
  have e1 : ns.flatMap Nt.bts = (ns.take (n / 5)).flatMap Nt.bts ++ (ns.drop (n / 5)).flatMap Nt.bts := by rw [← List.flatMap_append, List.take_append_drop]
  have e2 : ((ns.take (n / 5)).flatMap Nt.bts).length = 5 * (n / 5) := by
    have := (hf.take (n / 5)).tot
    unfold Proofs.Ytgdoagmnhmfjkaa.tot at this
    rw [this, List.length_take]
    omega
  have e3 : (ns.flatMap Nt.bts).take n = (ns.take (n / 5)).flatMap Nt.bts ++ ((ns.drop (n / 5)).flatMap Nt.bts).take (n - 5 * (n / 5)) := by
    rw [e1, List.take_append, e2, List.take_of_length_le (by rw [e2]; omega)]
  have e4 : l = got.flatMap Nt.bts := by rw [h.eq, List.append_nil]
  refine ⟨((ns.drop (n / 5)).flatMap Nt.bts).take (n - 5 * (n / 5)), ?_, ?_, ?_⟩
  · rw [e3, e4, List.flatMap_append, List.append_assoc]
  · intro m hm
    rcases List.mem_append.1 hm with q | q
    · exact h.ok m q
    · exact ((hf.take _) m q).1
  · intro m hm
    have h1 := bts_len5 hm.1
    have h2 := hm.len
    rw [List.length_take] at h2
    omega
theorem bud_yes {T : Tp} (hf : T.Free) {got LS : List Nt} (hr : Rds T.now got []) (he : Each 5 LS) {N L : Nat} (hL : T.now.length = L) (hN : 5 * LS.length ≤ N) (hb : L + 5 * LS.length ≤ 65536) :
    ∃ T3, (Tp.mk T.A T.cn true N T.dd).app [] LS = (0, T3) ∧ T3.now.length = L + 5 * LS.length ∧ Rds T3.now (got ++ LS) [] := by
  have ht := he.tot
  have e1 : (Tp.mk T.A T.cn true N T.dd).now = T.now := rfl
  rw [app_put (T := Tp.mk T.A T.cn true N T.dd) hf.2 he.all (by rw [e1]; omega)]
  have hl : (LS.flatMap Nt.bts).length = 5 * LS.length := ht
  rw [put_yes (by unfold Tp.can; rw [hl]; simp; omega)]
  refine ⟨_, rfl, ?_, ?_⟩
  · show ((Tp.setA _ T.cn _).A T.cn).length = _
    rw [setA_at, List.length_append, hl]
    show T.now.length + _ = _
    omega
  · show Rds ((Tp.setA _ T.cn _).A T.cn) _ _
    rw [setA_at]
    exact rds_app hr he.all
theorem bud_no {T : Tp} (hf : T.Free) {got LS : List Nt} (hr : Rds T.now got []) (he : Each 5 LS) {N L : Nat} (hL : T.now.length = L) (hN : N < 5 * LS.length) (hb : L + 5 * LS.length ≤ 65536) :
    ∃ T3 r, (Tp.mk T.A T.cn true N T.dd).app [] LS = (190, T3) ∧ T3.now.length = L + N ∧ Rds T3.now (got ++ LS.take (N / 5)) r := by
  have ht := he.tot
  have e1 : (Tp.mk T.A T.cn true N T.dd).now = T.now := rfl
  rw [app_put (T := Tp.mk T.A T.cn true N T.dd) hf.2 he.all (by rw [e1]; omega)]
  have hl : (LS.flatMap Nt.bts).length = 5 * LS.length := ht
  unfold Tp.put
  rw [if_neg (by unfold Tp.can; rw [hl]; simp; omega)]
  obtain ⟨r, hq⟩ := five_cut hr he (n := N) (by omega)
  refine ⟨_, r, rfl, ?_, ?_⟩
  · show ((Tp.setA _ T.cn _).A T.cn).length = _
    rw [setA_at, List.length_append, List.length_take, hl]
    show T.now.length + min N (5 * LS.length) = _
    omega
  · show Rds ((Tp.setA _ T.cn _).A T.cn) _ _
    rw [setA_at]
    exact hq
def mkC (i : Nat) : Nt := ⟨3, (i : Int), 0, 0⟩
theorem mkC_ok {i : Nat} (h : i < 128) : (mkC i).ok = true ∧ (mkC i).bts.length = 5 := by
  constructor
  · rw [ok_iff]
    refine ⟨by show 0 < us 3; decide, ?_, fun h => by cases h⟩
    intro j x hj
    match j with
    | 0 => simp [Nt.fs, mkC] at hj; subst hj; exact ⟨by omega, by omega, fun h => by simp [us, mkC] at h⟩
    | 1 => simp [Nt.fs, mkC] at hj; subst hj; exact ⟨by omega, by omega, fun _ => rfl⟩
    | 2 => simp [Nt.fs, mkC] at hj; subst hj; exact ⟨by omega, by omega, fun _ => rfl⟩
    | j + 3 => simp [Nt.fs] at hj
  · rw [bts_len]
    have : (mkC i).body = [3, (i : Int)] := by
      show (3 : Int) :: [((i : Int)).toNat].flatMap num = _
      rw [List.flatMap_singleton, show ((i : Int)).toNat = i by omega, num_low h]
    rw [this]
    rfl
/-- the first k of them are made -/
def fil (k M : Nat) : List Nt := (List.range k).map mkC ++ List.replicate (M - k) nz
theorem fil_len {k M : Nat} (h : k ≤ M) : (fil k M).length = M := by unfold fil; simp; omega
theorem fil_zero (M : Nat) : fil 0 M = List.replicate M nz := by unfold fil; simp
theorem fil_at {k M : Nat} (h : k < M) : (fil k M)[k]? = some nz := by
  unfold fil
  rw [List.getElem?_append_right (by simp), List.getElem?_replicate]
  simp
  omega
theorem fil_set {k M : Nat} (h : k < M) : (fil k M).set k (mkC k) = fil (k + 1) M := by
  unfold fil
  rw [List.set_append_right _ _ (by simp)]
  simp only [List.length_map, List.length_range, Nat.sub_self]
  obtain ⟨r, hr⟩ : ∃ r, M - k = r + 1 := ⟨M - k - 1, by omega⟩
  rw [hr, List.replicate_succ, List.set_cons_zero, show M - (k + 1) = r by omega, List.range_succ, List.map_append, List.append_assoc]
  rfl
theorem fil_each {M : Nat} (h : M ≤ 100) : Each 5 (fil M M) := by
  intro n hn
  unfold fil at hn
  simp at hn
  obtain ⟨i, hi, rfl⟩ := hn
  exact mkC_ok (by omega)
theorem made_cells {α : Type} (E : El Try.prog α) (d : α) (hz : E.z.cells.toList = E.enc d) (n : Nat) : (madeCells E.z.cells (n * E.k)).toList = E.fl (List.replicate n d) := by
  have hs : E.z.cells.size = E.k := by rw [← Array.length_toList, hz, E.len]
  apply List.ext_getElem?
  intro j
  have hk := E.kpos
  rcases Nat.lt_or_ge j (n * E.k) with h | h
  · have hi : j / E.k < n := (Nat.div_lt_iff_lt_mul hk).2 h
    have hj : j % E.k < E.k := Nat.mod_lt _ hk
    have e : j / E.k * E.k + j % E.k = j := by rw [Nat.mul_comm]; exact Nat.div_add_mod j E.k
    have := E.fl_at (List.replicate n d) (j / E.k) (j % E.k) d (by rw [List.getElem?_replicate, if_pos hi]) hj
    rw [e] at this
    rw [this, ← hz]
    unfold madeCells
    rw [Array.getElem?_toList, Array.getElem?_map, Array.getElem?_range, if_pos h, Array.getElem?_toList]
    simp only [Option.map_some, hs]
    rw [Array.getElem?_eq_getElem (by rw [hs]; exact hj)]
    simp [hs, hj]
  · rw [List.getElem?_eq_none (by rw [Array.length_toList, size_madeCells]; exact h), List.getElem?_eq_none (by rw [E.fl_len, List.length_replicate]; exact h)]
theorem made_any {α : Type} (E : El Try.prog α) (d : α) (hz : E.z.cells.toList = E.enc d) (n : Nat) (hn : n ≤ 1000) (hb : E.by' ≤ 1000) : ∃ C : Array Value, (∀ W, (Instr.makeSlice E.t (.int .i64 (n : Int)) (.int .i64 (n : Int))).run Try.prog W = .ok (.slice (some ⟨W.heap.size, 0, none⟩) n n) (W.alloc (.cells C E.e))) ∧
    ∀ W : World, E.Own (W.alloc (.cells C E.e)) W.heap.size (.slice (some ⟨W.heap.size, 0, none⟩) n n) (List.replicate n d) := by
  obtain ⟨i, hi, he⟩ := Option.map_eq_some_iff.1 E.info
  have e1 : i.zero = some E.z := congrArg Prod.fst he
  have e2 : i.size = E.k := congrArg (fun p => p.2.1) he
  have e3 : i.bytes = E.by' := congrArg (fun p => p.2.2) he
  refine ⟨madeCells E.z.cells (n * E.k), fun W => ?_, fun W => El.Own.new E W W.heap.size (Nat.le_refl _) _ _ (made_cells E d hz n) (by rw [List.length_replicate]; omega) _ _ _ rfl (by rw [List.length_replicate]) (by rw [List.length_replicate])⟩
  have hq : (i.bytes : Int) * (n : Int) ≤ 281474976710656 := by
    rw [e3]
    have h1 : E.by' * n ≤ 1000 * 1000 := Nat.mul_le_mul hb hn
    have h2 : ((E.by' * n : Nat) : Int) ≤ 281474976710656 := by omega
    rwa [Int.natCast_mul] at h2
  have := run_make (P := Try.prog) W E.t E.e i E.z E.ht hi e1 .i64 .i64 n n (by omega) (Int.le_refl _) hq (by omega)
  rw [e2] at this
  simpa using this

theorem made_n (n : Nat) (hn : n ≤ 1000) : ∃ C : Array Value, (∀ W, (Instr.makeSlice 29 (.int .i64 (n : Int)) (.int .i64 (n : Int))).run Try.prog W = .ok (.slice (some ⟨W.heap.size, 0, none⟩) n n) (W.alloc (.cells C 43))) ∧
    ∀ W : World, ntE.Own (W.alloc (.cells C 43)) W.heap.size (.slice (some ⟨W.heap.size, 0, none⟩) n n) (List.replicate n nz) := made_any ntE nz rfl n hn (by decide)
/-- a note of the row is another one -/
theorem Its.nput {w0 w : World} {l : List It} {B b n c : Nat} {xs : List Nt} (h : Its w0 (.row ntE B (.slice (some ⟨b, 0, none⟩) n c) xs :: l) w) {i : Nat} {p : Nt} (hp : xs[i]? = some p) (k x y z : Int) : Its w0 (.row ntE B (.slice (some ⟨b, 0, none⟩) n c) (xs.set i ⟨k, x, y, z⟩) :: l) ((((w.setCell ⟨b, i * 4, none⟩ (.int .i64 k)).setCell ⟨b, i * 4 + 1, none⟩ (.int .i64 x)).setCell ⟨b, i * 4 + 2, none⟩ (.int .i64 y)).setCell ⟨b, i * 4 + 3, none⟩ (.int .i64 z)) := by
  have step : ∀ {w : World} {xs : List Nt} {p : Nt} (q : Nt) (j : Nat) (u : Value), Its w0 (.row ntE B (.slice (some ⟨b, 0, none⟩) n c) xs :: l) w → xs[i]? = some p → j < 4 → ntE.enc q = (ntE.enc p).set j u → Its w0 (.row ntE B (.slice (some ⟨b, 0, none⟩) n c) (xs.set i q) :: l) (w.setCell ⟨b, i * 4 + j, none⟩ u) := fun {w xs p} q j u h hp hj he =>
    h.chg (x' := .row ntE B (.slice (some ⟨b, 0, none⟩) n c) (xs.set i q)) (own_setC h.one (i := i) (j := j) hp hj he) (fun _ hk => .inl hk) ((Frm.set w b (i * 4 + j) _).mono (fun j _ hj => by subst hj; rfl))
  have h1 := step ⟨k, p.a, p.b, p.c⟩ 0 (.int .i64 k) h hp (by decide) rfl
  have h2 := step ⟨k, x, p.b, p.c⟩ 1 (.int .i64 x) h1 (set_at hp) (by decide) rfl
  have h3 := step ⟨k, x, y, p.c⟩ 2 (.int .i64 y) h2 (set_at (set_at hp)) (by decide) rfl
  have h4 := step ⟨k, x, y, z⟩ 3 (.int .i64 z) h3 (set_at (set_at (set_at hp))) (by decide) rfl
  simpa only [List.set_set, Nat.add_zero] using h4
end Go.Proofs.Ytgdoagmnhmfjkaa
