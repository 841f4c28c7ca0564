/- GridPlays: the law's world. -/
import Derived.Test.YtddcjkbdgneklaaGrq
import Derived.Test.YtddcjkbdgneklaaGag
namespace Go.Proofs.Ytddcjkbdgneklaa
open Go.RowKit
set_option linter.unusedVariables false

/-- the law's world: the program's rack Rp; the document's rack Rd in the box g8 -/
structure LP (w0 : World) (BB r : Nat) (a1 : Option Addr) (c1 : Nat) (gs : List Nat) (Rp Rd : Rack) (n g8 : Nat) (a2 : Option Addr) (c2 : Nat) (es : List LnV) (W : World) : Prop where
  rw' : RW w0 BB r a1 c1 gs Rp W
  dr : DR W w0.heap.size a2 n c2 es Rd
  bx : W.heap[g8]? = some (.cells #[.slice a2 n c2] 31)
  hg : w0.heap.size ≤ g8
section
variable {w0 W W' : World} {BB r : Nat} {a1 : Option Addr} {c1 : Nat} {gs : List Nat} {Rp Rd R' : Rack} {n g8 : Nat} {a2 a3 : Option Addr} {c2 c3 : Nat} {es es3 : List LnV}
theorem LP.keep (p : LP w0 BB r a1 c1 gs Rp Rd n g8 a2 c2 es W) (hb : Below W.heap.size W W') : LP w0 BB r a1 c1 gs Rp Rd n g8 a2 c2 es W' := ⟨p.rw'.keep hb, p.dr.keep hb, (hb.block _ (heap_lt p.bx)).trans p.bx, p.hg⟩
theorem LP.fr (p : LP w0 BB r a1 c1 gs Rp Rd n g8 a2 c2 es W) (hr : RW w0 BB r a1 c1 gs R' W') (hf : Fr BB W W') : LP w0 BB r a1 c1 gs R' Rd n g8 a2 c2 es W' := ⟨hr, p.dr.fr hf, hf.other p.bx (by decide), p.hg⟩
theorem LP.set (p : LP w0 BB r a1 c1 gs Rp Rd n g8 a2 c2 es W) (hd : DR W w0.heap.size a3 n c3 es3 R') : LP w0 BB r a1 c1 gs Rp R' n g8 a3 c3 es3 (W.setCell ⟨g8, 0, none⟩ (.slice a3 n c3)) :=
  ⟨p.rw'.cell p.bx (by decide) p.hg, hd.box p.bx (by decide) (by decide), by rw [heap_put p.bx]; rfl, p.hg⟩
theorem LP.cell (p : LP w0 BB r a1 c1 gs Rp Rd n g8 a2 c2 es W) : W.cell? ⟨g8, 0, none⟩ = some (.slice a2 n c2) ∧ W.frozen? ⟨g8, 0, none⟩ = false := ⟨(cells_at p.bx 0).1, (cells_at p.bx 0).2⟩
theorem LP.size (p : LP w0 BB r a1 c1 gs Rp Rd n g8 a2 c2 es W) : w0.heap.size ≤ W.heap.size := p.rw'.bel.size

/-- Put, by both -/
theorem LP.put (p : LP w0 BB r a1 c1 gs Rp Rd n g8 a2 c2 es W) (t : Int) : Calls Try.prog 13 #[.pointer (some ⟨r, 0, none⟩), .int .i64 t] W fun e w' => e = .returned (.tuple #[.int .i64 (putN Rp t), .int .i64 (putC Rp t)]) ∧ LP w0 BB r a1 c1 gs (putR Rp t) Rd n g8 a2 c2 es w' ∧ Fr BB W w' :=
  (p.rw'.put t).mono (by
    rintro e w' ⟨rfl, h1, h2⟩
    exact ⟨rfl, p.fr h1 h2, h2⟩)
theorem LP.rput (p : LP w0 BB r a1 c1 gs Rp Rd n g8 a2 c2 es W) (t : Int) : Calls Try.prog 14 #[.agg #[.slice a2 n c2], .int .i64 t] W fun e w' => ∃ a3 c3 es3, e = .returned (.tuple #[.agg #[.slice a3 n c3], .int .i64 (putN Rd t), .int .i64 (putC Rd t)]) ∧ DR w' w0.heap.size a3 n c3 es3 (putR Rd t) ∧ LP w0 BB r a1 c1 gs Rp Rd n g8 a2 c2 es w' ∧ Below W.heap.size W w' :=
  (rput_any t W p.dr p.size).mono (by
    rintro e w' ⟨a3, c3, es3, h1, h2, h3⟩
    exact ⟨a3, c3, es3, h1, h2, p.keep h3, h3⟩)
theorem LP.do (p : LP w0 BB r a1 c1 gs Rp Rd n g8 a2 c2 es W) (t f o : Int) : Calls Try.prog 18 #[.pointer (some ⟨r, 0, none⟩), .agg #[.int .i64 t, .int .i64 f, .int .i64 o]] W fun e w' => e = .returned (.int .i64 (doC Rp ⟨t, f, o⟩)) ∧ LP w0 BB r a1 c1 gs (doR Rp ⟨t, f, o⟩) Rd n g8 a2 c2 es w' ∧ Fr BB W w' :=
  (p.rw'.do t f o).mono (by
    rintro e w' ⟨rfl, h1, h2⟩
    exact ⟨rfl, p.fr h1 h2, h2⟩)
theorem LP.rdo (p : LP w0 BB r a1 c1 gs Rp Rd n g8 a2 c2 es W) (hw : Wf Rd) (t f o : Int) : Calls Try.prog 19 #[.agg #[.slice a2 n c2], .agg #[.int .i64 t, .int .i64 f, .int .i64 o]] W fun e w' => ∃ a3 c3 es3, e = .returned (.tuple #[.agg #[.slice a3 n c3], .int .i64 (doC Rd ⟨t, f, o⟩)]) ∧ DR w' w0.heap.size a3 n c3 es3 (doR Rd ⟨t, f, o⟩) ∧ LP w0 BB r a1 c1 gs Rp Rd n g8 a2 c2 es w' ∧ Below W.heap.size W w' :=
  (rdo_any t f o W p.dr p.size hw).mono (by
    rintro e w' ⟨a3, c3, es3, h1, h2, h3⟩
    exact ⟨a3, c3, es3, h1, h2, p.keep h3, h3⟩)
theorem LP.plan (p : LP w0 BB r a1 c1 gs Rp Rd n g8 a2 c2 es W) (t : Int) : Calls Try.prog 15 #[.pointer (some ⟨r, 0, none⟩), .int .i64 t] W fun e w' => ∃ a' c', e = .returned (.tuple #[.slice a' (planM Rp t).length c', .int .i64 (planC Rp t)]) ∧ mvE.Own w' W.heap.size (.slice a' (planM Rp t).length c') (planM Rp t) ∧ LP w0 BB r a1 c1 gs Rp Rd n g8 a2 c2 es w' ∧ Below W.heap.size W w' :=
  (p.rw'.plan t).mono (by
    rintro e w' ⟨a', c', rfl, h1, _, h2⟩
    exact ⟨a', c', rfl, h1, p.keep h2, h2⟩)
theorem LP.rplan (p : LP w0 BB r a1 c1 gs Rp Rd n g8 a2 c2 es W) (hw : Wf Rd) (t : Int) : Calls Try.prog 16 #[.agg #[.slice a2 n c2], .int .i64 t] W fun e w' => ∃ a' c', e = .returned (.tuple #[.slice a' (planM Rd t).length c', .int .i64 (planC Rd t)]) ∧ mrE.Own w' W.heap.size (.slice a' (planM Rd t).length c') (planM Rd t) ∧ LP w0 BB r a1 c1 gs Rp Rd n g8 a2 c2 es w' ∧ Below W.heap.size W w' :=
  (rplan_any t W p.dr p.size hw).mono (by
    rintro e w' ⟨a', c', h1, h2, h3⟩
    exact ⟨a', c', h1, h2, p.keep h3, h3⟩)
theorem LP.tells (p : LP w0 BB r a1 c1 gs Rp Rp n g8 a2 c2 es W) : Calls Try.prog 20 #[.pointer (some ⟨r, 0, none⟩), .agg #[.slice a2 n c2]] W fun e w' => e = .returned (.bool true) ∧ LP w0 BB r a1 c1 gs Rp Rp n g8 a2 c2 es w' :=
  (tells_any W p.rw' p.dr).mono (by
    rintro e w' ⟨rfl, h⟩
    exact ⟨rfl, p.keep h⟩)
/-- how long a plan is -/
theorem plan_short {R : Rack} (hf : ∀ (i : Nat) (l : Nat × List Int), R[i]? = some l → l.2.length ≤ l.1 ∧ l.1 ≤ 8) (t : Int) : (planM R t).length ≤ 9 := by
  rcases whr_form R t with ⟨h, _⟩ | ⟨k, l, h, _, hl, hm, _⟩
  · have : planM R t = [] := if_pos h
    rw [this]; simp
  · obtain ⟨p, hp, hpl, _⟩ := loc_in hm
    have hb := hf k l hl
    rcases plan_len h hl hp with ⟨_, h2, _⟩ | ⟨h2, _⟩
    · rw [h2]; simp [ahd]; omega
    · have : planM R t = [] := by
        have e : pln (whr R t) (lds R) (ahx R t) = none := by
          unfold planC at h2
          rw [if_neg (by rw [h]; omega)] at h2
          by_cases e : pln (whr R t) (lds R) (ahx R t) = none
          · exact e
          · rw [if_neg e] at h2; omega
        unfold planM
        rw [if_neg (by rw [h]; omega), e]
      rw [this]; simp
end
end Go.Proofs.Ytddcjkbdgneklaa
