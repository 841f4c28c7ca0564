/- Do, told as one; what every rack keeps to; a law's world with a rack in it; awake, filled. -/
import Derived.Test.YtddcjkbdgneklaaGrg
import Derived.Test.YtddcjkbdgneklaaLag
namespace Go.Proofs.Ytddcjkbdgneklaa
open Go.RowKit
set_option linter.unusedVariables false

theorem Wf.set {R : Rack} (h : Wf R) {k : Nat} {l : Nat × List Int} {ys : List Int} (hl : R[k]? = some l) (h1 : ys.Nodup) (h2 : ∀ t ∈ ys, 1 ≤ t ∧ t ≤ 30) (h3 : ∀ t ∈ ys, ∀ (j : Nat) (m : Nat × List Int), j ≠ k → R[j]? = some m → t ∉ m.2) : Wf (R.set k (l.1, ys)) := by
  have at' : ∀ (i : Nat) (m : Nat × List Int), (R.set k (l.1, ys))[i]? = some m → (i = k ∧ m.2 = ys) ∨ (i ≠ k ∧ R[i]? = some m) := fun i m hi => by
    by_cases e : k = i
    · subst e
      rw [set_at hl] at hi
      cases hi
      exact .inl ⟨rfl, rfl⟩
    · rw [set_off e] at hi
      exact .inr ⟨fun h => e h.symm, hi⟩
  refine ⟨fun i m hi => ?_, fun i j m n t hi hj hm hn => ?_, fun i m t hi hm => ?_⟩
  · rcases at' i m hi with ⟨_, e⟩ | ⟨_, e⟩
    · rw [e]; exact h1
    · exact h.nd i m e
  · rcases at' i m hi with ⟨e1, e2⟩ | ⟨e1, e2⟩ <;> rcases at' j n hj with ⟨g1, g2⟩ | ⟨g1, g2⟩
    · omega
    · rw [e2] at hm; exact absurd hn (h3 t hm j n g1 g2)
    · rw [g2] at hn; exact absurd hm (h3 t hn i m e1 e2)
    · exact h.dj i j m n t e2 g2 hm hn
  · rcases at' i m hi with ⟨_, e⟩ | ⟨_, e⟩
    · rw [e] at hm; exact h2 t hm
    · exact h.rg i m t e hm
theorem wf_mk (ds : List Int) : Wf (mk ds) := by
  have e : ∀ (i : Nat) (m : Nat × List Int), (mk ds)[i]? = some m → m.2 = [] := fun i m h => by
    unfold mk at h
    rw [List.getElem?_map] at h
    cases hd : ds[i]? with
    | none => rw [hd] at h; cases h
    | some d => rw [hd] at h; cases h; rfl
  exact ⟨fun i m h => by rw [e i m h]; simp, fun i j m n t h _ hm _ => (by rw [e i m h] at hm; cases hm), fun i m t h hm => (by rw [e i m h] at hm; cases hm)⟩
theorem Wf.add {R : Rack} (h : Wf R) {k : Nat} {l : Nat × List Int} {t : Int} (hl : R[k]? = some l) (ht : 1 ≤ t ∧ t ≤ 30) (hn : ∀ (i : Nat) (m : Nat × List Int), R[i]? = some m → t ∉ m.2) : Wf (R.set k (l.1, l.2 ++ [t])) := by
  refine h.set hl ?_ (fun x hx => ?_) (fun x hx j m hj hm => ?_)
  · rw [List.nodup_append]
    exact ⟨h.nd k l hl, by simp, fun a ha b hb e => by simp at hb; subst hb; subst e; exact hn k l hl ha⟩
  · rcases List.mem_append.1 hx with hx | hx
    · exact h.rg k l x hl hx
    · simp at hx; subst hx; exact ht
  · rcases List.mem_append.1 hx with hx | hx
    · exact fun hm' => hj (h.dj j k m l x hm hl hm' hx)
    · simp at hx; subst hx; exact hn j m hm
theorem Wf.drop {R : Rack} (h : Wf R) {k : Nat} {l : Nat × List Int} (hl : R[k]? = some l) : Wf (R.set k (l.1, l.2.dropLast)) := by
  refine h.set hl ((h.nd k l hl).sublist (List.dropLast_sublist _)) (fun x hx => h.rg k l x hl ((List.dropLast_sublist _).subset hx)) (fun x hx j m hj hm hm' => hj (h.dj j k m l x hm hl hm' ((List.dropLast_sublist _).subset hx)))
/-- Put puts: where, or it changes nothing -/
theorem put_form (R : Rack) (t : Int) : (putC R t ≠ 0 ∧ putR R t = R ∧ putN R t = 0) ∨ (putC R t = 0 ∧ ∃ (k : Nat) (l : Nat × List Int), putN R t = k ∧ R[k]? = some l ∧ l.2.length < l.1 ∧ putR R t = R.set k (l.1, l.2 ++ [t]) ∧ (1 ≤ t ∧ t ≤ 30) ∧ (∀ (i : Nat) (m : Nat × List Int), R[i]? = some m → t ∉ m.2) ∧ IsB (lds R) (-1) R.length k) := by
  by_cases h : putC R t = 0
  · right
    have h1 : ¬ (t < 1 ∨ 30 < t) := fun h' => by unfold putC at h; rw [if_pos h'] at h; cases h
    have h2 : ¬ whr R t ≠ -1 := fun h' => by unfold putC at h; rw [if_neg h1, if_pos h'] at h; cases h
    have h3 : bst (lds R) (-1) ≠ -1 := fun h' => by unfold putC at h; rw [if_neg h1, if_neg h2, if_pos h'] at h; cases h
    have hb := bst_is (lds R) (-1)
    have hb' := hb
    rcases hb with ⟨hx, _⟩ | ⟨k, l, hk, hkl, hl, _, hl2, _⟩
    · exact absurd hx h3
    rw [lds_len] at hkl
    obtain ⟨L, hL⟩ : ∃ L, R[k]? = some L := ⟨_, List.getElem?_eq_getElem hkl⟩
    rw [lds_at hL] at hl
    cases hl
    simp only at hl2
    refine ⟨h, k, L, (if_pos h).trans hk, hL, by omega, ?_, by omega, ?_, by rw [hk, lds_len] at hb'; exact hb'⟩
    · unfold putR; rw [if_pos h, hk, Int.toNat_natCast]; unfold addAt; rw [ln_at hL]
    · rcases whr_form R t with ⟨_, h'⟩ | ⟨i, _, h', _⟩
      · exact h'
      · exact absurd (by rw [h']; omega) h2
  · exact .inl ⟨h, if_neg h, if_neg h⟩
theorem Wf.putR {R : Rack} (h : Wf R) (t : Int) : Wf (putR R t) := by
  rcases put_form R t with ⟨_, e, _⟩ | ⟨_, k, l, _, hl, _, e, ht, hn, _⟩
  · rw [e]; exact h
  · rw [e]; exact h.add hl ht hn
/-- Do does: what, or it changes nothing -/
theorem do_form (R : Rack) (m : Mv) : (doC R m ≠ 0 ∧ doR R m = R) ∨ (doC R m = 0 ∧ ∃ (i : Nat) (l : Nat × List Int), m.f = i ∧ R[i]? = some l ∧ l.2.getLast? = some m.t ∧ ((m.o = -1 ∧ doR R m = R.set i (l.1, l.2.dropLast)) ∨ ∃ (j : Nat) (n : Nat × List Int), m.o = j ∧ i ≠ j ∧ R[j]? = some n ∧ n.2.length < n.1 ∧ doR R m = (R.set i (l.1, l.2.dropLast)).set j (n.1, n.2 ++ [m.t]))) := by
  by_cases h : doC R m = 0
  · right
    have h1 : ¬ (¬ (0 ≤ m.f ∧ m.f < (R.length : Int)) ∨ (m.o ≠ -1 ∧ ¬ (0 ≤ m.o ∧ m.o < (R.length : Int))) ∨ m.f = m.o) := fun h' => by unfold doC at h; rw [if_pos h'] at h; cases h
    have h2 : ¬ (ln R m.f.toNat).2.getLast? ≠ some m.t := fun h' => by unfold doC at h; rw [if_neg h1, if_pos h'] at h; cases h
    have h3 : ¬ (m.o ≠ -1 ∧ (ln R m.o.toNat).1 ≤ (ln R m.o.toNat).2.length) := fun h' => by unfold doC at h; rw [if_neg h1, if_neg h2, if_pos h'] at h; cases h
    obtain ⟨i, hi⟩ : ∃ i : Nat, m.f = i := ⟨m.f.toNat, by omega⟩
    obtain ⟨l, hl⟩ : ∃ l, R[i]? = some l := ⟨_, List.getElem?_eq_getElem (by omega)⟩
    rw [hi, Int.toNat_natCast, ln_at hl] at h2
    refine ⟨h, i, l, hi, hl, Decidable.not_not.1 h2, ?_⟩
    have e1 : dropAt R m.f.toNat = R.set i (l.1, l.2.dropLast) := by unfold dropAt; rw [hi, Int.toNat_natCast, ln_at hl]
    by_cases ho : m.o = -1
    · left
      exact ⟨ho, by unfold doR; rw [if_pos h, if_pos ho, e1]⟩
    · right
      obtain ⟨j, hj⟩ : ∃ j : Nat, m.o = j := ⟨m.o.toNat, by omega⟩
      obtain ⟨n, hn⟩ : ∃ n, R[j]? = some n := ⟨_, List.getElem?_eq_getElem (by omega)⟩
      have hij : i ≠ j := by omega
      rw [hj, Int.toNat_natCast, ln_at hn] at h3
      refine ⟨j, n, hj, hij, hn, by omega, ?_⟩
      unfold doR
      rw [if_pos h, if_neg ho, e1, hj, Int.toNat_natCast]
      unfold addAt
      rw [ln_at (by rw [set_off hij]; exact hn)]
  · exact .inl ⟨h, if_neg h⟩
theorem Wf.doR {R : Rack} (h : Wf R) (m : Mv) : Wf (doR R m) := by
  rcases do_form R m with ⟨_, e⟩ | ⟨_, i, l, _, hl, ht, ⟨_, e⟩ | ⟨j, n, _, hij, hn, _, e⟩⟩
  · rw [e]; exact h
  · rw [e]; exact h.drop hl
  · rw [e]
    have hm := List.mem_of_getLast? ht
    refine (h.drop hl).add (by rw [set_off hij]; exact hn) (h.rg i l m.t hl hm) (fun k q hk hq => ?_)
    by_cases e : i = k
    · subst e
      rw [set_at hl] at hk
      cases hk
      have h1 := h.nd i l hl
      obtain ⟨ys, hy⟩ : ∃ ys, l.2 = ys ++ [m.t] := by
        obtain ⟨ys, hys⟩ := List.getLast?_eq_some_iff.1 ht
        exact ⟨ys, hys⟩
      rw [hy] at h1 hq
      simp at hq
      rw [List.nodup_append] at h1
      exact h1.2.2 _ hq _ (by simp) rfl
    · rw [set_off e] at hk
      exact e (h.dj i k l q m.t hl hk hm hq)

section
variable {B r : Nat} {a : Option Addr} {c : Nat} {gs : List Nat} {R : Rack}
theorem do_rk (t f o : Int) (w : World) (h : Rk w B r a c gs R) (hw : Wf R) :
    Calls Try.prog 18 #[.pointer (some ⟨r, 0, none⟩), .agg #[.int .i64 t, .int .i64 f, .int .i64 o]] w fun e w' => e = .returned (.int .i64 (doC R ⟨t, f, o⟩)) ∧ Rk w' B r a c gs (doR R ⟨t, f, o⟩) ∧ Fr B w w' := by
  by_cases h1 : ¬ (0 ≤ f ∧ f < (R.length : Int)) ∨ (o ≠ -1 ∧ ¬ (0 ≤ o ∧ o < (R.length : Int))) ∨ f = o
  · have e1 : doC R ⟨t, f, o⟩ = 1 := if_pos h1
    have e2 : doR R ⟨t, f, o⟩ = R := if_neg (by rw [e1]; decide)
    rw [e1, e2]
    exact do_range t f o w h h1
  obtain ⟨i, rfl⟩ : ∃ i : Nat, f = i := ⟨f.toNat, by omega⟩
  obtain ⟨l, hl⟩ : ∃ l, R[i]? = some l := ⟨_, List.getElem?_eq_getElem (by omega)⟩
  obtain ⟨g, b, off, hg, rfl, _⟩ := h.lane hl
  by_cases h2 : l.2.getLast? ≠ some t
  · have e1 : doC R ⟨t, i, o⟩ = 160 := (if_neg h1).trans (if_pos (by rw [Int.toNat_natCast, ln_at hl]; exact h2))
    have e2 : doR R ⟨t, i, o⟩ = R := if_neg (by rw [e1]; decide)
    rw [e1, e2]
    exact do_tote t o i l w h hl (by omega) h2
  have h2' : l.2.getLast? = some t := Decidable.not_not.1 h2
  have h2n : ¬ (ln R ((i : Nat) : Int).toNat).2.getLast? ≠ some t := by rw [Int.toNat_natCast, ln_at hl]; exact h2
  by_cases ho : o = -1
  · subst ho
    have e1 : doC R ⟨t, i, -1⟩ = 0 := (if_neg h1).trans ((if_neg h2n).trans (if_neg (fun h => h.1 rfl)))
    have e2 : doR R ⟨t, i, -1⟩ = R.set i (l.1, l.2.dropLast) := (if_pos e1).trans ((if_pos rfl).trans (by unfold dropAt; rw [Int.toNat_natCast, ln_at hl]))
    rw [e1, e2]
    exact do_out t i l w h hl h2' (hw.nd i l hl)
  obtain ⟨j, rfl⟩ : ∃ j : Nat, o = j := ⟨o.toNat, by omega⟩
  obtain ⟨m, hm⟩ : ∃ m, R[j]? = some m := ⟨_, List.getElem?_eq_getElem (by omega)⟩
  have hij : i ≠ j := by omega
  by_cases h3 : m.1 ≤ m.2.length
  · have e1 : doC R ⟨t, i, j⟩ = 5 := (if_neg h1).trans ((if_neg h2n).trans (if_pos ⟨ho, by rw [Int.toNat_natCast, ln_at hm]; exact h3⟩))
    have e2 : doR R ⟨t, i, j⟩ = R := if_neg (by rw [e1]; decide)
    rw [e1, e2]
    exact do_full t i j l m w h hl hm hij h2' (hw.nd i l hl) h3
  · have e1 : doC R ⟨t, i, j⟩ = 0 := (if_neg h1).trans ((if_neg h2n).trans (if_neg (fun h => h3 (by have := h.2; rwa [Int.toNat_natCast, ln_at hm] at this))))
    have e2 : doR R ⟨t, i, j⟩ = (R.set i (l.1, l.2.dropLast)).set j (m.1, m.2 ++ [t]) := by
      refine (if_pos e1).trans ((if_neg ho).trans ?_)
      unfold addAt dropAt
      rw [Int.toNat_natCast, Int.toNat_natCast, ln_at hl, ln_at (show (R.set i (l.1, l.2.dropLast))[j]? = some m by rw [set_off hij]; exact hm)]
    rw [e1, e2]
    have hmm := List.mem_of_getLast? h2'
    exact do_to t i j l m w h hl hm hij h2' (hw.nd i l hl) (by omega) (fun h' => hij (hw.dj i j l m t hl hm hmm h')) (hw.rg i l t hl hmm)
end

/-- a law's world with a rack in it -/
structure RW (w0 : World) (B r : Nat) (a : Option Addr) (c : Nat) (gs : List Nat) (R : Rack) (W : World) : Prop where
  bel : Below w0.heap.size w0 W
  hB : w0.heap.size ≤ B
  rk : Rk W B r a c gs R
  wf : Wf R
section
variable {w0 W W' : World} {B r : Nat} {a : Option Addr} {c : Nat} {gs : List Nat} {R R' : Rack}
theorem RW.keep (h : RW w0 B r a c gs R W) (hb : Below W.heap.size W W') : RW w0 B r a c gs R W' := ⟨h.bel.trans (hb.mono h.bel.size), h.hB, h.rk.keep hb, h.wf⟩
theorem RW.drewN (h : RW w0 B r a c gs R W) (q : Nat) : RW w0 B r a c gs R (W.drewN q) := h.keep (below_drewN _ _)
theorem RW.chg (h : RW w0 B r a c gs R W) (hr : Rk W' B r a c gs R') (hw : Wf R') (hf : Fr B W W') : RW w0 B r a c gs R' W' :=
  ⟨h.bel.trans ((hf.below (Nat.le_trans h.rk.br (Nat.le_of_lt (heap_lt h.rk.box)))).mono h.hB), h.hB, hr, hw⟩
theorem RW.put (h : RW w0 B r a c gs R W) (t : Int) : Calls Try.prog 13 #[.pointer (some ⟨r, 0, none⟩), .int .i64 t] W fun e w' => e = .returned (.tuple #[.int .i64 (putN R t), .int .i64 (putC R t)]) ∧ RW w0 B r a c gs (putR R t) w' ∧ Fr B W w' :=
  (put_rk t W h.rk).mono (by
    rintro e w' ⟨rfl, h1, h2⟩
    exact ⟨rfl, h.chg h1 (h.wf.putR t) h2, h2⟩)
theorem RW.do (h : RW w0 B r a c gs R W) (t f o : Int) : Calls Try.prog 18 #[.pointer (some ⟨r, 0, none⟩), .agg #[.int .i64 t, .int .i64 f, .int .i64 o]] W fun e w' => e = .returned (.int .i64 (doC R ⟨t, f, o⟩)) ∧ RW w0 B r a c gs (doR R ⟨t, f, o⟩) w' ∧ Fr B W w' :=
  (do_rk t f o W h.rk h.wf).mono (by
    rintro e w' ⟨rfl, h1, h2⟩
    exact ⟨rfl, h.chg h1 (h.wf.doR _) h2, h2⟩)
theorem RW.plan (h : RW w0 B r a c gs R W) (t : Int) : Calls Try.prog 15 #[.pointer (some ⟨r, 0, none⟩), .int .i64 t] W fun e w' => ∃ a' c', e = .returned (.tuple #[.slice a' (planM R t).length c', .int .i64 (planC R t)]) ∧ mvE.Own w' W.heap.size (.slice a' (planM R t).length c') (planM R t) ∧ RW w0 B r a c gs R w' ∧ Below W.heap.size W w' :=
  (plan_rk t W h.rk).mono (by
    rintro e w' ⟨a', c', rfl, h1, h2⟩
    exact ⟨a', c', rfl, h1, h.keep h2, h2⟩)
theorem RW.whr (h : RW w0 B r a c gs R W) (t : Int) : Calls Try.prog 22 #[.pointer (some ⟨r, 0, none⟩), .int .i64 t] W fun e w' => e = .returned (.int .i64 (whr R t)) ∧ RW w0 B r a c gs R w' ∧ Below W.heap.size W w' :=
  (where_any t W h.rk).mono (by
    rintro e w' ⟨rfl, h2⟩
    exact ⟨rfl, h.keep h2, h2⟩)
theorem RW.lane (h : RW w0 B r a c gs R W) (i : Int) : Calls Try.prog 23 #[.pointer (some ⟨r, 0, none⟩), .int .i64 i] W fun e w' => ∃ a' c', e = .returned (.slice a' (lnx R i).length c') ∧ intE.Own w' W.heap.size (.slice a' (lnx R i).length c') (lnx R i) ∧ RW w0 B r a c gs R w' ∧ Below W.heap.size W w' :=
  (lane_any i W h.rk).mono (by
    rintro e w' ⟨v, rfl, h1, h2⟩
    obtain ⟨a', c', rfl⟩ := h1.rd.form
    exact ⟨a', c', rfl, h1, h.keep h2, h2⟩)
theorem RW.room (h : RW w0 B r a c gs R W) : Calls Try.prog 24 #[.pointer (some ⟨r, 0, none⟩)] W fun e w' => e = .returned (.int .i64 (rm R : Int)) ∧ RW w0 B r a c gs R w' ∧ ∃ q, w' = W.drewN q :=
  (room_rk W h.rk).mono (by
    rintro e w' ⟨rfl, q, rfl⟩
    exact ⟨rfl, h.drewN q, q, rfl⟩)
end
/-- New, in a law's world -/
theorem new_rw {w0 : World} (a : Option Addr) (n c : Nat) (ds : List Int) (W : World) (hb : Below w0.heap.size w0 W) (hn : ds.length = n) (hv : intE.Rd W (.slice a n c) ds) :
    Calls Try.prog 10 #[.slice a n c] W fun e w' => Below W.heap.size W w' ∧ ((¬ Okd ds ∧ e = .returned (.tuple #[.pointer none, .int .i64 1])) ∨ (Okd ds ∧ ∃ r a c gs, e = .returned (.tuple #[.pointer (some ⟨r, 0, none⟩), .int .i64 0]) ∧ RW w0 W.heap.size r a c gs (mk ds) w')) :=
  (new_rk a n c ds W hn hv).mono (by
    rintro e w' ⟨h1, h2 | ⟨h2, r, a, c, gs, h3, h4⟩⟩
    · exact ⟨h1, .inl h2⟩
    · exact ⟨h1, .inr ⟨h2, r, a, c, gs, h3, hb.trans (h1.mono hb.size), hb.size, h4, wf_mk ds⟩⟩)

/-- racks that are only put into -/
inductive Fld (ds : List Int) : Rack → Prop
  | nil : Fld ds (mk ds)
  | put {R : Rack} (t : Int) : Fld ds R → Fld ds (putR R t)

/-- the tote of a number -/
theorem few30 (x : Int) : ∃ y : Int, wrap64 ((IntKind.u64.wrap x).tmod 30) + 1 = y ∧ 1 ≤ y ∧ y ≤ 30 := by
  obtain ⟨k, hk, hl⟩ := few x 30 (by omega)
  exact ⟨_, rfl, by omega, by omega⟩

def FilP (w0 W : World) (ds : List Int) (e : Ending) (w' : World) : Prop := (¬ Okd ds ∧ e = .returned (.pointer none) ∧ Below W.heap.size W w') ∨ (Okd ds ∧ ∃ r a c gs R, e = .returned (.pointer (some ⟨r, 0, none⟩)) ∧ RW w0 W.heap.size r a c gs R w' ∧ Fld ds R ∧ Fr W.heap.size W w')

set_option maxRecDepth 100000 in
set_option maxHeartbeats 4000000 in
theorem filled_any {w0 : World} (a b : Option Addr) (n m c d : Nat) (ds ts : List Int) (W : World) (hb : Below w0.heap.size w0 W) (hn : ds.length = n) (hm : ts.length = m) (hv : intE.Rd W (.slice a n c) ds) (hu : intE.Rd w0 (.slice b m d) ts) :
    Calls Try.prog 21 #[.slice a n c, .slice b m d] W (FilP w0 W ds) := by
  obtain ⟨W0, rfl⟩ : ∃ W0, W0 = W := ⟨_, rfl⟩
  have K10 := hide (new_rw (w0 := w0) a n c ds W0 hb hn hv)
  have Hm := hide hm
  have HU := hide hu
  by_cases hk : Okd ds
  · have K10' : Hid (Calls Try.prog 10 #[.slice a n c] W0 fun e w' => Below W0.heap.size W0 w' ∧ ∃ r a c gs, e = .returned (.tuple #[.pointer (some ⟨r, 0, none⟩), .int .i64 0]) ∧ RW w0 W0.heap.size r a c gs (mk ds) w') := hide (K10.out.mono (by
      rintro e w' ⟨h1, ⟨h2, _⟩ | ⟨_, h2⟩⟩
      · exact absurd hk h2
      · exact ⟨h1, h2⟩))
    have Hk := hide hk
    clear hk K10 hn hm hv hu hb
    go_enter Try.func21, Try.ntmps21
    go_upto_region 4 with (go_at_call 10; refine K10'.out.mono ?_; rintro e W1 ⟨hb1, r, a1, c1, gs, rfl, hR⟩; have HR := hide hR; have HF : Hid (Fr W0.heap.size W0 W1) := hide (Fr.of_below hb1); clear hb1 hR)
    go_wp2_with fail
    go_loopw [7] (fun v7 wr => ∃ (k : Nat) (R : Rack), v7 = .int .i64 k ∧ k ≤ 60 ∧ Hid (RW w0 W0.heap.size r a1 c1 gs R wr) ∧ Hid (Fld ds R) ∧ Hid (Fr W0.heap.size W0 wr)) (fun v7 _ => 60 - (intOf v7).toNat)
    case atStart => exact ⟨0, mk ds, rfl, by omega, HR, hide .nil, HF⟩
    case round =>
      obtain ⟨k, R, rfl, hk, HR1, HFl, HF1⟩ := hrel
      by_cases h1 : k < m
      · by_cases h2 : k < 60
        · obtain ⟨x, hx⟩ : ∃ x, ts[k]? = some x := ⟨_, List.getElem?_eq_getElem (by rw [Hm.out]; exact h1)⟩
          obtain ⟨b', off, rfl, z0⟩ := int_at (HU.out.keep HR1.out.bel) k x hx
          obtain ⟨y, hy, hy30⟩ := few x 30 (by omega)
          have q0 : (k : Int) < (m : Int) := by omega
          have q1 : (k : Int) < 60 := by omega
          have q2 : (0 : Int) ≤ (k : Int) := by omega
          have q3 : (y : Int) ≤ 30 := by omega
          have K13 := hide (HR1.out.put ((y : Int) + 1))
          have HFl2 := hide (HFl.out.put ((y : Int) + 1))
          generalize putR R ((y : Int) + 1) = R2 at *
          generalize putN R ((y : Int) + 1) = pn at *
          generalize putC R ((y : Int) + 1) = pc at *
          clear hx h1 h2 hy30
          go_wp2_with (go_at_call 13; refine K13.out.mono ?_; rintro e W2 ⟨rfl, hr, hf⟩; have HR2 := hide hr; have HF2 := hide (HF1.out.trans hf); clear hr hf)
          go_roundw
          case rel => exact ⟨k + 1, R2, by go_num, by omega, HR2, HFl2, HF2⟩
          case measure => simp [intOf]; omega
        · have q0 : (k : Int) < (m : Int) := by omega
          have q1 : ¬ (k : Int) < 60 := by omega
          clear h1 h2
          go_wp2_with fail
          go_ret
          exact .inr ⟨Hk.out, r, a1, c1, gs, R, rfl, HR1.out, HFl.out, HF1.out⟩
      · have q0 : ¬ (k : Int) < (m : Int) := by omega
        clear h1
        go_wp2_with fail
        go_ret
        exact .inr ⟨Hk.out, r, a1, c1, gs, R, rfl, HR1.out, HFl.out, HF1.out⟩
  · have K10' : Hid (Calls Try.prog 10 #[.slice a n c] W0 fun e w' => e = .returned (.tuple #[.pointer none, .int .i64 1]) ∧ Below W0.heap.size W0 w') := hide (K10.out.mono (by
      rintro e w' ⟨h1, ⟨_, h2⟩ | ⟨h2, _⟩⟩
      · exact ⟨h2, h1⟩
      · exact absurd h2 hk))
    have Hk := hide hk
    clear hk K10 hn hm hv hu hb
    go_enter Try.func21, Try.ntmps21
    go_wp2_with (go_at_call 10; refine K10'.out.mono ?_; rintro e W1 ⟨rfl, hb1⟩; have HB := hide hb1; clear hb1)
    go_ret
    exact .inl ⟨Hk.out, rfl, HB.out⟩

theorem move_equal (w : World) : (Op.equalIn 10000 50 (.agg #[.int .i64 3, .int .i64 0, .int .i64 1]) (.agg #[.int .i64 3, .int .i64 0, .int .i64 1])).run Try.prog w = .ok true w := by kernel_rfl

set_option maxRecDepth 100000 in
set_option maxHeartbeats 8000000 in
theorem awake_any (w : World) : Calls Try.prog 9 #[] w fun e w' => e = .returned (.bool true) ∧ Below w.heap.size w w' := by
  obtain ⟨w0, rfl⟩ : ∃ w0, w0 = w := ⟨_, rfl⟩
  obtain ⟨W0, hW0⟩ : ∃ W0, W0 = w0.alloc (.cells #[.int .i64 2, .int .i64 1] 3) := ⟨_, rfl⟩
  obtain ⟨g0, hg0⟩ : ∃ g, g = w0.heap.size := ⟨_, rfl⟩
  have hb0 : Below w0.heap.size w0 W0 := by rw [hW0]; exact (Below.refl _ _).alloc (Nat.le_refl _) _
  have hv0 : intE.Rd W0 (.slice (some ⟨g0, 0, none⟩) 2 2) [2, 1] := by
    rw [hW0]
    exact (El.Own.new intE w0 w0.heap.size (Nat.le_refl _) _ [2, 1] rfl (by simp) _ _ _ hg0 rfl rfl).rd
  have hokd : Okd [2, 1] := ⟨⟨by decide, by decide⟩, by intro d hd; simp at hd; omega⟩
  have KN : Hid (Calls Try.prog 10 #[.slice (some ⟨g0, 0, none⟩) 2 2] W0 fun e w' => ∃ r a c gs, e = .returned (.tuple #[.pointer (some ⟨r, 0, none⟩), .int .i64 0]) ∧ RW w0 W0.heap.size r a c gs [(2, []), (1, [])] w') := hide ((new_rw (w0 := w0) (some ⟨g0, 0, none⟩) 2 2 [2, 1] W0 hb0 rfl hv0).mono (by
    rintro e w' ⟨h1, ⟨h2, _⟩ | ⟨_, h2⟩⟩
    · exact absurd hokd h2
    · exact h2))
  have KP1 : Hid (∀ B r a c gs W, RW w0 B r a c gs [(2, []), (1, [])] W → Calls Try.prog 13 #[.pointer (some ⟨r, 0, none⟩), .int .i64 1] W fun e w' => e = .returned (.tuple #[.int .i64 0, .int .i64 0]) ∧ RW w0 B r a c gs [(2, [1]), (1, [])] w') := hide (fun B r a c gs W h => (h.put 1).mono (by rintro e w' ⟨rfl, h1, _⟩; exact ⟨by rfl, h1⟩))
  have KP2 : Hid (∀ B r a c gs W, RW w0 B r a c gs [(2, [1]), (1, [])] W → Calls Try.prog 13 #[.pointer (some ⟨r, 0, none⟩), .int .i64 2] W fun e w' => e = .returned (.tuple #[.int .i64 1, .int .i64 0]) ∧ RW w0 B r a c gs [(2, [1]), (1, [2])] w') := hide (fun B r a c gs W h => (h.put 2).mono (by rintro e w' ⟨rfl, h1, _⟩; exact ⟨by rfl, h1⟩))
  have KP3 : Hid (∀ B r a c gs W, RW w0 B r a c gs [(2, [1]), (1, [2])] W → Calls Try.prog 13 #[.pointer (some ⟨r, 0, none⟩), .int .i64 3] W fun e w' => e = .returned (.tuple #[.int .i64 0, .int .i64 0]) ∧ RW w0 B r a c gs [(2, [1, 3]), (1, [2])] w') := hide (fun B r a c gs W h => (h.put 3).mono (by rintro e w' ⟨rfl, h1, _⟩; exact ⟨by rfl, h1⟩))
  have KL1 : Hid (∀ B r a c gs W, RW w0 B r a c gs [(2, [1, 3]), (1, [2])] W → Calls Try.prog 15 #[.pointer (some ⟨r, 0, none⟩), .int .i64 1] W fun e w' => ∃ a' c', e = .returned (.tuple #[.slice a' 0 c', .int .i64 5]) ∧ RW w0 B r a c gs [(2, [1, 3]), (1, [2])] w') := hide (fun B r a c gs W h => (h.plan 1).mono (by rintro e w' ⟨a', c', rfl, _, h1, _⟩; exact ⟨a', c', by rfl, h1⟩))
  have KD : Hid (∀ B r a c gs W, RW w0 B r a c gs [(2, [1, 3]), (1, [2])] W → Calls Try.prog 18 #[.pointer (some ⟨r, 0, none⟩), .agg #[.int .i64 2, .int .i64 1, .int .i64 (-1)]] W fun e w' => e = .returned (.int .i64 0) ∧ RW w0 B r a c gs [(2, [1, 3]), (1, [])] w') := hide (fun B r a c gs W h => (h.do 2 1 (-1)).mono (by rintro e w' ⟨rfl, h1, _⟩; exact ⟨by rfl, h1⟩))
  have KL2 : Hid (∀ B r a c gs W, RW w0 B r a c gs [(2, [1, 3]), (1, [])] W → Calls Try.prog 15 #[.pointer (some ⟨r, 0, none⟩), .int .i64 1] W fun e w' => ∃ b off c', e = .returned (.tuple #[.slice (some ⟨b, off, none⟩) 2 c', .int .i64 0]) ∧ Below w0.heap.size w0 w' ∧ w'.cell? ⟨b, off, none⟩ = some (.int .i64 3) ∧ w'.cell? ⟨b, off + 1, none⟩ = some (.int .i64 0) ∧ w'.cell? ⟨b, off + 2, none⟩ = some (.int .i64 1)) := hide (fun B r a c gs W h => (h.plan 1).mono (by
    rintro e w' ⟨a', c', rfl, ho, h1, _⟩
    have ho : mvE.Own w' W.heap.size (.slice a' 2 c') [⟨3, 0, 1⟩, ⟨1, 0, -1⟩] := ho
    obtain ⟨b, off, rfl, k0, k1, k2⟩ := mv_at ho.rd 0 ⟨3, 0, 1⟩ rfl
    exact ⟨b, off, c', by rfl, h1.bel, by simpa using k0, by simpa using k1, by simpa using k2⟩))
  have HE := hide move_equal
  clear hb0 hv0 hokd
  have E1 := HE.out
  go_enter Try.func9, Try.ntmps9
  go_wp2_with (first
    | (go_at_call 10; subst hg0 hW0; refine KN.out.mono ?_; rintro e W1 ⟨r, a1, c1, gs, rfl, hr⟩; have HR1 := hide hr; clear hr)
    | (go_at_call_of 13 (Value.int .i64 1); refine (KP1.out _ _ _ _ _ _ HR1.out).mono ?_; rintro e W2 ⟨rfl, hr⟩; have HR2 := hide hr; clear hr)
    | (go_at_call_of 13 (Value.int .i64 2); refine (KP2.out _ _ _ _ _ _ HR2.out).mono ?_; rintro e W3 ⟨rfl, hr⟩; have HR3 := hide hr; clear hr)
    | (go_at_call_of 13 (Value.int .i64 3); refine (KP3.out _ _ _ _ _ _ HR3.out).mono ?_; rintro e W4 ⟨rfl, hr⟩; have HR4 := hide hr; clear hr)
    | (go_at_call 18; refine (KD.out _ _ _ _ _ _ HR5.out).mono ?_; rintro e W6 ⟨rfl, hr⟩; have HR6 := hide hr; clear hr)
    | (go_at_call 15; refine (KL2.out _ _ _ _ _ _ HR6.out).mono ?_; rintro e W7 ⟨b7, o7, c7, rfl, hr, z0, z1, z2⟩; have HB7 := hide hr; have E7 := E1 W7; clear hr)
    | (go_at_call 15; refine (KL1.out _ _ _ _ _ _ HR4.out).mono ?_; rintro e W5 ⟨a5, c5, rfl, hr⟩; have HR5 := hide hr; clear hr))
  go_ret
  exact ⟨rfl, HB7.out⟩
end Go.Proofs.Ytddcjkbdgneklaa
