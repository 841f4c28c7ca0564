/- Drawn regions whose last operation writes what the others read: an operation that it waits for by way of others. -/
import Derived.Test.YtgdoagmnhmfjkaaExm
namespace Go.Proofs.Ytgdoagmnhmfjkaa

section
variable {P : Program} {ops : Array Oper} {Q : Exit → Act → World → Prop} {md : Region.Mode} {S : World → Prop} {ex : Nat}

/-- each of them waits for the one ahead of it, the first for number i -/
def linked (md : Region.Mode) (ops : Array Oper) : Nat → List Nat → Bool
  | _, [] => true
  | i, c :: C => waits md ops c i && linked md ops c C
def unlisted (listed : Array Bool) (C : List Nat) : Bool := C.all fun c => listed.getD c true == false
theorem not_ready_of_waits {listed : Array Bool} {i c : Nat} (hw : waits md ops c i = true) (hi : listed.getD i true = false) : c ∉ Region.ready md ops listed := by
  intro hc
  unfold waits at hw
  obtain ⟨_, oc, hoc, hall⟩ := mem_ready.1 hc
  rw [hoc] at hw
  simp only [Bool.and_eq_true, bne_iff_ne, ne_eq] at hw
  obtain ⟨h1, h2⟩ := hw
  rw [Array.any_eq_true] at h1
  obtain ⟨n, hn, h3⟩ := h1
  simp only [Bool.and_eq_true, beq_iff_eq] at h3
  have h4 := hall oc.after[n] (Array.getElem_mem hn) h3.1
  rw [h3.2] at h4
  rcases Nat.lt_or_ge i listed.size with h' | h'
  · simp [h'] at hi h4; rw [hi] at h4; cases h4
  · simp [Array.getElem?_eq_none h'] at h4
theorem not_ready_of_linked : ∀ (C : List Nat) {listed : Array Bool} {i : Nat}, linked md ops i C = true → listed.getD i true = false → unlisted listed C = true → ∀ c ∈ C, c ∉ Region.ready md ops listed
  | [], _, _, _, _, _, c, hc => by cases hc
  | d :: C, listed, i, hl, hi, hu, c, hc => by
    unfold linked at hl
    rw [Bool.and_eq_true] at hl
    unfold unlisted at hu
    rw [List.all_cons, Bool.and_eq_true] at hu
    rcases List.mem_cons.1 hc with rfl | hc
    · exact not_ready_of_waits hl.1 hi
    · exact not_ready_of_linked C hl.2 (by simpa using hu.1) hu.2 c hc

theorem wpAnyE_firstC {i : Nat} {oi : Oper} {v : Value} {C : List Nat} (hi : ops[i]? = some oi) (hsel : ∀ (j : Nat) (o : Oper) cs b, ops[j]? = some o → o.op ≠ .select cs b)
    (hQ : ∀ c a w, Q (.panic c) (a.put oi.dst v) w → Q (.panic c) a w) (hlk : linked md ops i C = true) (hex : ex ∈ C) (hie : i ≠ ex) :
    ∀ (fuel : Nat) (listed : Array Bool) (a : Act) (w : World), unlisted listed C = true →
      (∀ j oj, ops[j]? = some oj → j ≠ i → listed.getD j true = false → (∀ e ∈ oj.after, Region.binds md e = true → e.on ≠ i) → oi.apart ops oj = true) →
      i ∈ Region.ready md ops listed → YieldsIf P ops S oi v a → S w →
      wpAnyE P md ops Q S ex fuel (listed.setIfInBounds i true) (a.put oi.dst v) w → wpAnyE P md ops Q S ex (fuel + 1) listed a w := by
  intro fuel
  induction fuel with
  | zero =>
    intro listed a w _ _ hr hy hS H
    refine ⟨fun h => (by rw [h] at hr; cases hr), fun j hj => ?_⟩
    by_cases hji : j = i
    · subst hji; exact hy.wpOp hi hS ⟨fun _ => hS, H⟩
    · have := ready_mono hj hji
      rw [H.1] at this
      cases this
  | succ fuel ih =>
    intro listed a w hun hfree hr hy hS H
    refine ⟨fun h => (by rw [h] at hr; cases hr), fun j hj => ?_⟩
    by_cases hji : j = i
    · subst hji; exact hy.wpOp hi hS ⟨fun _ => hS, H⟩
    · have h1 := H.2 j (ready_mono hj hji)
      obtain ⟨hjun, oj, hoj, hall⟩ := mem_ready.1 hj
      have hnot : ∀ e ∈ oj.after, Region.binds md e = true → e.on ≠ i := fun e he hb heq => by
        have h1 := hall e he hb
        have h0 := (mem_ready.1 hr).1
        rw [heq] at h1
        rcases Nat.lt_or_ge i listed.size with h' | h'
        · simp [h'] at h0 h1; rw [h0] at h1; cases h1
        · simp [Array.getElem?_eq_none h'] at h1
      have hjC : j ∉ C := fun e => not_ready_of_linked C hlk (mem_ready.1 hr).1 hun j e hj
      have hjx : j ≠ ex := fun e => hjC (e ▸ hex)
      have h2 := wpOp_putIf hoj (hfree j oj hoj hji hjun hnot) (fun cs b => hsel i oi cs b hi) (fun cs b => hsel j oj cs b hoj) hQ hy h1
      have hun' : unlisted (listed.setIfInBounds j true) C = true := by
        unfold unlisted at hun ⊢
        rw [List.all_eq_true] at hun ⊢
        intro c hc
        have hjc : j ≠ c := fun e => hjC (e ▸ hc)
        rw [getD_set_ne true hjc]
        exact hun c hc
      have hfree' : ∀ k ok, ops[k]? = some ok → k ≠ i → (listed.setIfInBounds j true).getD k true = false →
          (∀ e ∈ ok.after, Region.binds md e = true → e.on ≠ i) → oi.apart ops ok = true := fun k ok hk hki hun hno => by
        refine hfree k ok hk hki ?_ hno
        by_cases hjk : j = k
        · subst hjk; exact hjun
        · rw [getD_set_ne true hjk] at hun; exact hun
      refine wpOp_mono (fun a' w' h3 => ⟨h3.2.1, ih (listed.setIfInBounds j true) a' w' hun' hfree' (ready_mono hr (Ne.symm hji)) h3.1 (h3.2.1 hjx) ?_⟩) h2
      rw [Array.setIfInBounds_comm _ _ hji]
      exact h3.2.2

theorem wpAnyE_takeC (C : List Nat) {i : Nat} {oi : Oper} {v : Value} {fuel : Nat} {listed : Array Bool} {a : Act} {w : World} (hi : ops[i]? = some oi)
    (hs : Region.noSelect ops = true) (hf : Region.free md ops listed i = true) (hr : (Region.ready md ops listed).contains i = true) (hlk : (linked md ops i C && unlisted listed C && C.contains ex && (i != ex)) = true)
    (hQ : ∀ c a w, Q (.panic c) (a.put oi.dst v) w → Q (.panic c) a w) (hy : YieldsIf P ops S oi v a) (hS : S w)
    (h : wpAnyE P md ops Q S ex fuel (listed.setIfInBounds i true) (a.put oi.dst v) w) : wpAnyE P md ops Q S ex (fuel + 1) listed a w := by
  simp only [Bool.and_eq_true, bne_iff_ne, ne_eq] at hlk
  obtain ⟨⟨⟨h1, h2⟩, h3⟩, h4⟩ := hlk
  exact wpAnyE_firstC hi (Region.noSelect_spec hs) hQ h1 (by simpa using h3) h4 fuel listed a w h2 (Region.free_spec hi hf) (by simpa using hr) hy hS h
end
end Go.Proofs.Ytgdoagmnhmfjkaa
