/- Cancel, Serve. -/
import Derived.Test.YtfmpipihjnpimaaBkd
namespace Go.Proofs.Ytfmpipihjnpimaa
open Go.RowKit Go.Maps Go.ChangeMaps
set_option linter.unusedVariables false

section
variable {w0 w : World} {g : Nat} {H : Hb} {S : Bk} {l : List It}
theorem lie_some {T : List (Nat × En)} (h : Lie T S) {x : Int} {p : Nat × En} (hT : fnT T x = some p) : fnd S.all x = some p.2 := by rw [h.fnd, hT]; rfl
theorem lie_none {T : List (Nat × En)} (h : Lie T S) {x : Int} (hT : fnT T x = none) : fnd S.all x = none := by rw [h.fnd, hT]; rfl

set_option maxRecDepth 100000 in
set_option maxHeartbeats 2000000 in
theorem cancel_any (h : Its w0 (.book w0.heap.size g H S :: l) w) {x : Int} (hx : I64 x) : Calls Try.prog 12 #[.pointer (some ⟨g, 0, none⟩), .int .i64 x] w fun e w' => e = .returned (.tuple #[.bool (S.caY x), .int .i64 (S.caC x)]) ∧ ∃ H', Its w0 (.book w0.heap.size g H' (S.ca x) :: l) w' := by
  have hlie := bk_lie h.one
  obtain ⟨c0, c1, c2, _⟩ := bk_cells h.one
  have hl := (bk_mp h.one).look hx
  have HI := hide h
  cases hT : fnT H.T x with
  | none =>
    have hf := lie_none hlie hT
    have e1 : S.caC x = 4 := by unfold Bk.caC; rw [hf]
    have e2 : S.caY x = false := by unfold Bk.caY Bk.sta; rw [hf]; rfl
    rw [Bk.ca_no e2, e1, e2]
    rw [kn_none hT] at hl
    simp only [Option.getD_none, Option.isSome_none] at hl
    clear h hf e1 e2 hT hlie hx
    go_enter Try.func12, Try.ntmps12
    go_wp2_with fail
    go_ret2
    exact ⟨rfl, _, HI.out⟩
  | some p =>
    have hf := lie_some hlie hT
    rw [kn_some hT] at hl
    simp only [Option.getD_some, Option.isSome_some] at hl
    obtain ⟨d0, d1, d2, d3, _⟩ := bk_ent h.one (fnT_mem hT)
    have hen := hlie.1.en p.2 (fnd_some hf).1
    have es : S.sta x = p.2.en := Bk.sta_of hf
    rcases hen with hen | hen | hen
    · have e1 : S.caC x = 0 := by unfold Bk.caC; rw [hf]; simp [hen]
      have e2 : S.caY x = true := by unfold Bk.caY; rw [es, hen]; rfl
      rw [Bk.ca_yes e2, e1, e2]
      have KF := hide (finish_any h hT hen (v := 3) (.inr rfl))
      rw [hen] at d3
      obtain ⟨b, e⟩ := p
      simp only at *
      clear h hf e1 e2 hT hlie hx hen es d0 d1 d2
      go_enter Try.func12, Try.ntmps12
      go_wp2_with (go_at_call 28; refine KF.out.mono ?_; rintro r w1 ⟨rfl, H1, h1, _⟩; have HI1 := hide h1; clear h1)
      go_ret2
      exact ⟨rfl, _, HI1.out⟩
    · have e1 : S.caC x = 140 := by unfold Bk.caC; rw [hf]; simp [hen]
      have e2 : S.caY x = false := by unfold Bk.caY; rw [es, hen]; rfl
      rw [Bk.ca_no e2, e1, e2]
      rw [hen] at d3
      obtain ⟨b, e⟩ := p
      simp only at *
      clear h hf e1 e2 hT hlie hx hen es d0 d1 d2
      go_enter Try.func12, Try.ntmps12
      go_wp2_with fail
      go_ret2
      exact ⟨rfl, _, HI.out⟩
    · have e1 : S.caC x = 0 := by unfold Bk.caC; rw [hf]; simp [hen]
      have e2 : S.caY x = false := by unfold Bk.caY; rw [es, hen]; rfl
      rw [Bk.ca_no e2, e1, e2]
      rw [hen] at d3
      obtain ⟨b, e⟩ := p
      simp only at *
      clear h hf e1 e2 hT hlie hx hen es d0 d1 d2
      go_enter Try.func12, Try.ntmps12
      go_wp2_with fail
      go_ret2
      exact ⟨rfl, _, HI.out⟩
end

/-- a row of the served ones grows, and the map is told -/
theorem srv_app {w w1 : World} {B sb n : Nat} {fs : Int → Option Value} {sv : Int → List Int} (h : Srv w B sb n fs sv) (hBw : B ≤ w.heap.size) {s x : Int} {v' : Value} (ho : intE.Own w1 B v' (sv s ++ [x])) (hf : Frm (fun k => ((fs s).getD (.slice none 0 0)).ownBlock = some k) w w1)
    (hb : ∀ k, v'.ownBlock = some k → ((fs s).getD (.slice none 0 0)).ownBlock = some k ∨ w.heap.size ≤ k) (hs : I64 s) (hn : n ≤ 1000000) :
    ∃ w2, (Instr.mapUpdate 59 (.map (some sb)) (.int .i64 s) v').run Try.prog w1 = .ok () w2 ∧ Srv w2 B sb (n + 1) (fun y => if y = s then some v' else fs y) (fun y => if y = s then sv s ++ [x] else sv y) ∧ Frm (It.srv B sb n fs sv).f w w2 ∧
      ∀ k, (It.srv B sb (n + 1) (fun y => if y = s then some v' else fs y) (fun y => if y = s then sv s ++ [x] else sv y)).f k → (It.srv B sb n fs sv).f k ∨ w.heap.size ≤ k := by
  have own : ∀ k, ((fs s).getD (.slice none 0 0)).ownBlock = some k → ∃ v, fs s = some v ∧ v.ownBlock = some k := fun k hk => by
    cases q : fs s with
    | none => rw [q] at hk; cases hk
    | some v => rw [q] at hk; exact ⟨v, rfl, hk⟩
  have hsb : ((fs s).getD (.slice none 0 0)).ownBlock ≠ some sb := fun e => by
    obtain ⟨v, q, e⟩ := own _ e
    obtain ⟨cur, hc⟩ := own_type (h.row s v q) sb e
    exact h.mp.obj _ _ hc
  have hm1 : Mp w1 sb n fs := h.mp.keep (hf.block sb h.mp.lt hsb)
  obtain ⟨w2, hr, hm2, hf2⟩ := hm1.put Try.underlying59 hs v' hn
  have hv1 : v'.ownBlock ≠ some sb := fun e => by
    obtain ⟨cur, hc⟩ := own_type ho sb e
    exact hm1.obj _ _ hc
  have stay : ∀ t u, t ≠ s → fs t = some u → ∀ k, u.ownBlock = some k → w2.heap[k]? = w.heap[k]? := fun t u ht hu k hk => by
    have k1 := (h.row t u hu).lt k hk
    have k2 : k ≠ sb := fun e => by
      subst e
      obtain ⟨cur, hc⟩ := own_type (h.row t u hu) k hk
      exact h.mp.obj _ _ hc
    rw [hf2.block k (Nat.lt_of_lt_of_le k1 hf.size) k2, hf.block k k1 (fun e => by
      obtain ⟨v, q, e⟩ := own _ e
      exact h.ap t s u v k ht hu q hk e)]
  refine ⟨w2, hr, ⟨hm2, ?_, ?_, ?_⟩, ?_, ?_⟩
  · intro t u hu
    by_cases e : t = s
    · subst e
      simp only [if_true] at hu ⊢
      cases hu
      exact own_stay ho fun k hk _ => hf2.block k (ho.lt k hk) (fun e => hv1 (e ▸ hk))
    · simp only [if_neg e] at hu ⊢
      exact own_stay (h.row t u hu) fun k hk _ => stay t u e hu k hk
  · intro t hu
    by_cases e : t = s
    · simp [e] at hu
    · simp only [if_neg e] at hu ⊢
      exact h.no t hu
  · intro t t' u u' k hne hu hu' hk hk'
    have key : ∀ t u, t ≠ s → fs t = some u → u.ownBlock = some k → v'.ownBlock = some k → False := fun t u ht hu h1 h2 => by
      rcases hb k h2 with q | q
      · obtain ⟨v, q1, q2⟩ := own _ q
        exact h.ap t s u v k ht hu q1 h1 q2
      · have := (h.row t u hu).lt k h1
        omega
    by_cases e : t = s
    · subst e
      simp only [if_true, if_neg hne.symm] at hu hu'
      cases hu
      exact key t' u' hne.symm hu' hk' hk
    · simp only [if_neg e] at hu
      by_cases e' : t' = s
      · simp only [if_pos e'] at hu'
        cases hu'
        exact key t u e hu hk hk'
      · simp only [if_neg e'] at hu'
        exact h.ap t t' u u' k hne hu hu' hk hk'
  · refine (hf.mono (f' := (It.srv B sb n fs sv).f) fun k _ e => .inr ?_).trans' hf2 (fun k _ e => .inl e)
    obtain ⟨v, q, e⟩ := own _ e
    exact ⟨s, v, q, e⟩
  · rintro k (e | ⟨t, u, hu, hk⟩)
    · exact .inl (.inl e)
    · by_cases e : t = s
      · simp only [if_pos e] at hu
        cases hu
        rcases hb k hk with q | q
        · obtain ⟨v, q1, q2⟩ := own _ q
          exact .inl (.inr ⟨s, v, q1, q2⟩)
        · exact .inr q
      · simp only [if_neg e] at hu
        exact .inl (.inr ⟨t, u, hu, hk⟩)
theorem sv_se {S : Bk} {x : Int} {e : En} (h : fnd S.all x = some e) (s : Int) : Bk.sv ⟨setE S.all x 2, S.done ++ [x]⟩ s = if s = e.r.st then Bk.sv ⟨setE S.all x 2, S.done⟩ e.r.st ++ [x] else Bk.sv ⟨setE S.all x 2, S.done⟩ s := by
  have e1 : stn S.all x = e.r.st := by unfold stn; rw [h]
  unfold Bk.sv
  simp only [stn_set]
  rw [List.filter_append, List.filter_cons, e1]
  by_cases q : s = e.r.st
  · subst q; simp
  · have : (e.r.st == s) = false := beq_eq_false_iff_ne.2 (fun h => q h.symm)
    simp [q, this]
end Go.Proofs.Ytfmpipihjnpimaa
