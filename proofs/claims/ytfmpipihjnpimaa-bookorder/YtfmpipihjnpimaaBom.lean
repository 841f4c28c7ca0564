/- BookOrder: what came and wasn't cancelled, as plain data. -/
import Derived.Test.YtfmpipihjnpimaaBtm
namespace Go.Proofs.Ytfmpipihjnpimaa
set_option linter.unusedVariables false

/-- what came and wasn't cancelled -/
def wn (l : List En) : List Rq := (l.filter (fun e => e.en != 3)).map (·.r)
/-- the IDs of a station -/
def idsAt (s : Int) (l : List Rq) : List Int := (l.filter (fun r => r.st == s)).map (·.id)
/-- served ones, then the open ones -/
def Inv (S : Bk) : Prop := ∀ s, idsAt s (wn S.all) = S.sv s ++ idsAt s (ops S.all)
theorem Inv.new : Inv Bk.new := fun s => rfl
theorem idsAt_app (s : Int) (a b : List Rq) : idsAt s (a ++ b) = idsAt s a ++ idsAt s b := by simp [idsAt]
theorem wn_add (l : List En) (r : Rq) : wn (l ++ [⟨r, 1⟩]) = wn l ++ [r] := by simp [wn]
theorem wn_ad {S : Bk} {r : Rq} (h : S.adY r = true) : wn (S.ad r).all = wn S.all ++ [r] := by rw [Bk.ad_yes h]; exact wn_add _ _
theorem idsAt_filter (s x : Int) (l : List Rq) : idsAt s (l.filter (fun r => r.id != x)) = (idsAt s l).filter (fun y => y != x) := by
  unfold idsAt
  rw [List.filter_filter, List.filter_map, List.filter_filter]
  congr 1
  congr 1
  funext e
  simp only [Function.comp]
  exact Bool.and_comm _ _
theorem wn_set3 {l : List En} (x : Int) : wn (setE l x 3) = (wn l).filter (fun r => r.id != x) := by
  induction l with
  | nil => rfl
  | cons a l ih =>
    unfold wn setE at *
    rw [List.map_cons]
    by_cases q : a.r.id = x
    · rw [if_pos q, List.filter_cons, List.filter_cons]
      by_cases p : a.en = 3
      · simp [p, ih]
      · simp [p, q, ih]
    · rw [if_neg q, List.filter_cons, List.filter_cons]
      by_cases p : a.en = 3
      · simp [p, ih]
      · simp [p, q, ih]
theorem wn_ca {S : Bk} {x : Int} (h : S.caY x = true) : wn (S.ca x).all = (wn S.all).filter (fun r => r.id != x) := by rw [Bk.ca_yes h]; exact wn_set3 x
theorem wn_set2 {S : Bk} (hok : S.Ok) {x : Int} {e : En} (he : fnd S.all x = some e) (h1 : e.en = 1) : wn (setE S.all x 2) = wn S.all := by
  have key : ∀ l : List En, (∀ a ∈ l, a.r.id = x → a.en = 1) → wn (setE l x 2) = wn l := by
    intro l
    induction l with
    | nil => intro _; rfl
    | cons a l ih =>
      intro h
      have ih := ih (fun b hb => h b (by simp [hb]))
      unfold wn setE at *
      rw [List.map_cons]
      by_cases q : a.r.id = x
      · have := h a (by simp) q
        rw [if_pos q, List.filter_cons, List.filter_cons]
        simp [this, ih]
      · rw [if_neg q, List.filter_cons, List.filter_cons]
        by_cases p : a.en = 3
        · simp [p, ih]
        · simp [p, ih]
  refine key _ (fun a ha q => ?_)
  have := fnd_of hok.nd ha
  rw [q, he] at this
  cases this
  exact h1
theorem wn_se {S : Bk} (hok : S.Ok) {x : Int} : wn (S.se x).all = wn S.all := by
  by_cases h : S.seC x = 0
  · rw [Bk.se_yes h]
    obtain ⟨e, h1, h2, _⟩ := Bk.seC_iff.1 h
    exact wn_set2 hok h1 h2
  · rw [Bk.se_no h]
theorem Inv.ad {S : Bk} (hI : Inv S) (hok : S.Ok) (r : Rq) : Inv (S.ad r) := by
  cases hy : S.adY r with
  | false => rw [Bk.ad_no hy]; exact hI
  | true =>
    intro s
    rw [wn_ad hy, idsAt_app, hI s, Bk.ad_yes hy]
    show _ = Bk.sv ⟨S.all ++ [⟨r, 1⟩], S.done⟩ s ++ idsAt s (ops (S.all ++ [⟨r, 1⟩]))
    rw [ops_add, idsAt_app, ← List.append_assoc]
    congr 2
    unfold Bk.sv
    apply List.filter_congr
    intro x hx
    obtain ⟨e, he, q, _⟩ := hok.dn x hx
    have h1 := fnd_of hok.nd he
    rw [q] at h1
    unfold stn
    simp only [fnd_add, h1, Option.some_or]
theorem done_not {S : Bk} (hok : S.Ok) {x : Int} (h : S.sta x = 1) : x ∉ S.done := fun hx => by
  obtain ⟨e, he, q, h2⟩ := hok.dn x hx
  have h1 := fnd_of hok.nd he
  rw [q] at h1
  rw [Bk.sta_of h1] at h
  omega
theorem Inv.ca {S : Bk} (hI : Inv S) (hok : S.Ok) (x : Int) : Inv (S.ca x) := by
  cases hy : S.caY x with
  | false => rw [Bk.ca_no hy]; exact hI
  | true =>
    intro s
    have hs : S.sta x = 1 := by unfold Bk.caY at hy; simpa using hy
    rw [wn_ca hy, idsAt_filter, hI s, Bk.ca_yes hy, List.filter_append]
    show _ = Bk.sv ⟨setE S.all x 3, S.done⟩ s ++ idsAt s (ops (setE S.all x 3))
    rw [ops_set hok.nd x 3 (by decide), idsAt_filter]
    congr 1
    rw [List.filter_eq_self.2]
    · unfold Bk.sv
      simp only [stn_set]
    · intro y hy'
      rw [bne_iff_ne]
      intro q
      subst q
      exact done_not hok hs (List.mem_filter.1 hy').1
/-- the first open one of a station -/
theorem fst_head (l : List En) (s : Int) : fst l s = ((ops l).filter (fun r => r.st == s)).head? := by
  unfold fst
  exact List.head?_filter.symm
theorem filter_twice (l : List Rq) (s x : Int) : (l.filter (fun r => r.id != x)).filter (fun r => r.st == s) = (l.filter (fun r => r.st == s)).filter (fun r => r.id != x) := by
  rw [List.filter_filter, List.filter_filter]
  congr 1
  funext r
  exact Bool.and_comm _ _
theorem ops_ids {l : List En} (hn : (l.map (·.r.id)).Nodup) : ((ops l).map (·.id)).Nodup := by
  unfold ops
  rw [List.map_map]
  exact hn.sublist (List.filter_sublist.map _)
theorem Inv.se {S : Bk} (hI : Inv S) (hok : S.Ok) (x : Int) : Inv (S.se x) := by
  by_cases hc : S.seC x = 0
  · intro s
    rw [wn_se hok, hI s, Bk.se_yes hc]
    obtain ⟨e, h1, h2, h3⟩ := Bk.seC_iff.1 hc
    have hid := (fnd_some h1).2
    show _ = Bk.sv ⟨setE S.all x 2, S.done ++ [x]⟩ s ++ idsAt s (ops (setE S.all x 2))
    rw [ops_set hok.nd x 2 (by decide)]
    have e1 : stn S.all x = e.r.st := by unfold stn; rw [h1]
    have e2 : Bk.sv ⟨setE S.all x 2, S.done ++ [x]⟩ s = S.sv s ++ (if e.r.st = s then [x] else []) := by
      unfold Bk.sv
      simp only [stn_set]
      rw [List.filter_append, List.filter_cons, e1]
      by_cases q : e.r.st = s <;> simp [q]
    rw [e2, List.append_assoc]
    congr 1
    by_cases q : e.r.st = s
    · rw [if_pos q]
      rw [fst_head, q] at h3
      unfold idsAt
      rw [filter_twice]
      have hnd : (((ops S.all).filter (fun r => r.st == s)).map (·.id)).Nodup := (ops_ids hok.nd).sublist (List.filter_sublist.map _)
      cases hl : (ops S.all).filter (fun r => r.st == s) with
      | nil => rw [hl] at h3; cases h3
      | cons a l =>
        rw [hl] at h3 hnd
        have ha : a = e.r := Option.some.inj h3
        rw [List.map_cons, List.nodup_cons] at hnd
        rw [List.filter_cons, ha, hid]
        simp only [bne_self_eq_false, Bool.false_eq_true, if_false, List.map_cons, hid, List.cons_append, List.nil_append]
        congr 2
        rw [List.filter_eq_self.2]
        intro b hb
        rw [bne_iff_ne]
        intro e'
        exact hnd.1 (List.mem_map.2 ⟨b, hb, by rw [e', ha, hid]⟩)
    · rw [if_neg q, List.nil_append]
      unfold idsAt
      have hE : ((ops S.all).filter (fun r => r.st == s)).filter (fun r => r.id != x) = (ops S.all).filter (fun r => r.st == s) := List.filter_eq_self.2 (fun b hb => by
        rw [bne_iff_ne]
        intro e'
        obtain ⟨hb1, hb2⟩ := List.mem_filter.1 hb
        obtain ⟨e3, h4, _, rfl⟩ := ops_mem.1 hb1
        have := fnd_of hok.nd h4
        rw [e', h1] at this
        cases this
        exact q (by simpa using hb2))
      rw [filter_twice, hE]
  · rw [Bk.se_no hc]; exact hI
theorem wn_len (l : List En) : (wn l).length ≤ l.length := by
  unfold wn
  rw [List.length_map]
  exact List.length_filter_le _ _
/-- one more of the list is looked at -/
theorem idsAt_take {l : List Rq} {k : Nat} {r : Rq} (h : l[k]? = some r) (s : Int) : idsAt s (l.take (k + 1)) = idsAt s (l.take k) ++ (if r.st = s then [r.id] else []) := by
  rw [List.take_add_one, h, idsAt_app]
  congr 1
  by_cases q : r.st = s <;> simp [idsAt, q]
theorem left_take {l : List Rq} {k : Nat} {r : Rq} (h : l[k]? = some r) (x : Int) : (l.take (k + 1)).filter (fun r => r.id != x) = (l.take k).filter (fun r => r.id != x) ++ (if r.id = x then [] else [r]) := by
  rw [List.take_add_one, h, List.filter_append]
  congr 1
  by_cases q : r.id = x <;> simp [q]
/-- the first open one's ID, and whether there is one -/
theorem fst_cases (l : List En) (s : Int) : (fst l s = none ∧ idsAt s (ops l) = []) ∨ (∃ r t, fst l s = some r ∧ idsAt s (ops l) = r.id :: t) := by
  rw [fst_head]
  unfold idsAt
  cases (ops l).filter (fun r => r.st == s) with
  | nil => exact .inl ⟨rfl, rfl⟩
  | cons a t => exact .inr ⟨a, _, rfl, rfl⟩
end Go.Proofs.Ytfmpipihjnpimaa
