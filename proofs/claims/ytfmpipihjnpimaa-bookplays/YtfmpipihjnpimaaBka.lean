/- Groups of things; maps from numbers; a book as it lies in memory. -/
import Derived.Test.YtfmpipihjnpimaaIts
import Derived.Test.YtfmpipihjnpimaaLag
import Derived.Maps.Own
import Derived.Maps.OwnOps
import Derived.Maps.OwnSet
import Derived.Maps.Views
namespace Go.Proofs.Ytfmpipihjnpimaa
open Go.RowKit Go.Maps Go.ChangeMaps
set_option linter.unusedVariables false

/-- the things of one object -/
def It.grp (l : List It) : It where
  P w := (∀ x ∈ l, x.P w) ∧ l.Pairwise (fun (x y : It) => ∀ k : Nat, x.f k → ¬ y.f k)
  f k := ∃ x ∈ l, x.f k
  lt h k hk := by
    obtain ⟨x, hx, q⟩ := hk
    exact x.lt (h.1 x hx) k q
  st h hs := ⟨fun x hx => x.st (h.1 x hx) fun k hk => hs k ⟨x, hx, hk⟩, h.2⟩
/-- what is true -/
def It.fact (p : Prop) : It where
  P _ := p
  f _ := False
  lt _ _ h := h.elim
  st h _ := h
theorem Its.opn {w0 w : World} {a l : List It} (h : Its w0 (.grp a :: l) w) : Its w0 (a ++ l) w := by
  have h1 := h.all (.grp a) (by simp)
  refine ⟨h.bel, fun x hx => ?_, fun x hx k hk => ?_, List.pairwise_append.2 ⟨h1.2, (List.pairwise_cons.1 h.sep).2, fun x hx y hy k hk => ?_⟩⟩
  · rcases List.mem_append.1 hx with q | q
    · exact h1.1 x q
    · exact h.all x (by simp [q])
  · rcases List.mem_append.1 hx with q | q
    · exact h.ge (.grp a) (by simp) k ⟨x, q, hk⟩
    · exact h.ge x (by simp [q]) k hk
  · exact (List.pairwise_cons.1 h.sep).1 y hy k ⟨x, hx, hk⟩
theorem Its.shut {w0 w : World} {a l : List It} (h : Its w0 (a ++ l) w) : Its w0 (.grp a :: l) w := by
  have h1 := List.pairwise_append.1 h.sep
  refine ⟨h.bel, fun x hx => ?_, fun x hx k hk => ?_, List.pairwise_cons.2 ⟨fun y hy k hk => ?_, h1.2.1⟩⟩
  · rcases List.mem_cons.1 hx with rfl | q
    · exact ⟨fun y hy => h.all y (by simp [hy]), h1.1⟩
    · exact h.all x (by simp [q])
  · rcases List.mem_cons.1 hx with rfl | q
    · obtain ⟨y, hy, q⟩ := hk
      exact h.ge y (by simp [hy]) k q
    · exact h.ge x (by simp [q]) k hk
  · obtain ⟨x, hx, q⟩ := hk
    exact h1.2.2 x hx y hy k q

/-! ### maps -/
def raw (v : Value) : Option (DataW Value × List MemPlace) := some (.held v, [])
theorem mlaw : Keyed Try.prog 3 := int_keyed Try.underlying3
theorem zero63 (w : World) : (zeroValue 63).run Try.prog w = .ok (.pointer none) w := by kernel_rfl
theorem zero27 (w : World) : (zeroValue 27).run Try.prog w = .ok (.slice none 0 0) w := by kernel_rfl
def key (x : Int) : Lit := .int .i64 x
theorem key_ne {x y : Int} (h : x ≠ y) : key x ≠ key y := fun e => h (by simpa [key] using e)
theorem key_lit (x : Int) : WideAt.IsKeyLit (key x) := by unfold key; trivial
/-- a map from numbers: f tells what lies there -/
def Mp (w : World) (mb n : Nat) (f : Int → Option Value) : Prop := ∃ D, w.ownsMap Try.prog 3 raw mb n D ∧ ∀ x : Int, I64 x → match f x with
  | none => has D (key x) = false
  | some v => has D (key x) = true ∧ ∀ z, D.atKey (key x) z = .held v
theorem Mp.keep {w w' : World} {mb n : Nat} {f : Int → Option Value} (H : Mp w mb n f) (hb : w'.heap[mb]? = w.heap[mb]?) : Mp w' mb n f := by
  obtain ⟨D, ⟨es, clock, hx, hr⟩, hM⟩ := H
  exact ⟨D, ⟨es, clock, by rw [hb]; exact hx, hr⟩, hM⟩
theorem Mp.lt {w : World} {mb n : Nat} {f : Int → Option Value} (H : Mp w mb n f) : mb < w.heap.size := by
  obtain ⟨D, hm, _⟩ := H
  exact hm.lt
theorem Mp.obj {w : World} {mb n : Nat} {f : Int → Option Value} (H : Mp w mb n f) : ∀ cur t, w.heap[mb]? ≠ some (.cells cur t) := fun cur t h => by
  obtain ⟨D, ⟨es, clock, hx, hr⟩, hM⟩ := H
  rw [hx] at h; cases h
theorem Mp.made (w : World) : Mp (w.alloc (.map #[] 0)) w.heap.size 0 (fun _ => none) := ⟨.map [], World.ownsMap_made w Try.prog 3 raw, fun _ _ => rfl⟩
theorem Mp.same {w : World} {mb n : Nat} {f g : Int → Option Value} (H : Mp w mb n f) (h : ∀ x, f x = g x) : Mp w mb n g := by
  have : f = g := funext h
  rw [← this]; exact H
theorem Mp.look {w : World} {mb n : Nat} {f : Int → Option Value} (H : Mp w mb n f) {x : Int} (hx : I64 x) :
    (Instr.lookup 58 (.map (some mb)) (.int .i64 x) true).run Try.prog w = .ok (.tuple #[(f x).getD (.pointer none), .bool (f x).isSome]) w := by
  obtain ⟨D, hm, hM⟩ := H
  have hx' := hM x hx
  obtain ⟨v, ps, hrun, hv⟩ := hm.look_ok mlaw Try.underlying58 (zero63 _) (zd := .held (.pointer none)) (zp := []) rfl (keyOf_int_mk Try.underlying3 hx.wf)
  rw [hrun]
  simp only [raw, Option.some.injEq, Prod.mk.injEq] at hv
  have ev := hv.1.symm
  cases hf : f x with
  | none =>
    rw [hf] at hx'
    rw [show D.atKey (.int .i64 x) (.held (.pointer none)) = .held (.pointer none) from atKey_of_not_has hx' _] at ev
    cases ev
    rw [show has D (.int .i64 x) = false from hx']
    rfl
  | some u =>
    rw [hf] at hx'
    rw [show D.atKey (.int .i64 x) (.held (.pointer none)) = .held u from hx'.2 _] at ev
    cases ev
    rw [show has D (.int .i64 x) = true from hx'.1]
    rfl
theorem Mp.look59 {w : World} {mb n : Nat} {f : Int → Option Value} (H : Mp w mb n f) {x : Int} (hx : I64 x) :
    (Instr.lookup 59 (.map (some mb)) (.int .i64 x) false).run Try.prog w = .ok ((f x).getD (.slice none 0 0)) w := by
  obtain ⟨D, hm, hM⟩ := H
  have hx' := hM x hx
  obtain ⟨v, ps, hrun, hv⟩ := hm.lookup mlaw Try.underlying59 (zero27 _) (zd := .held (.slice none 0 0)) (zp := []) rfl (keyOf_int_mk Try.underlying3 hx.wf)
  rw [hrun]
  simp only [raw, Option.some.injEq, Prod.mk.injEq] at hv
  have ev := hv.1.symm
  cases hf : f x with
  | none =>
    rw [hf] at hx'
    rw [show D.atKey (.int .i64 x) (.held (.slice none 0 0)) = .held (.slice none 0 0) from atKey_of_not_has hx' _] at ev
    cases ev; rfl
  | some u =>
    rw [hf] at hx'
    rw [show D.atKey (.int .i64 x) (.held (.slice none 0 0)) = .held u from hx'.2 _] at ev
    cases ev; rfl
theorem turn_frm {w w' : World} {b : Nat} (ht : w.mapTurned w' b) : Frm (fun k => k = b) w w' := by
  have hg := ht.grown
  obtain ⟨es, clock, es', clock', hb, rfl⟩ := ht
  exact ⟨hg.os, hg.tape, hg.output, hg.size, fun k _ hk => by have := Ne.symm hk; simp [setBlock, this]⟩
theorem Mp.put {t e : TypeId} (ht : Try.prog.underlying t = some (.map 3 e)) {w : World} {mb n : Nat} {f : Int → Option Value} (H : Mp w mb n f) {x : Int} (hx : I64 x) (v : Value) (hn : n ≤ 1000000) :
    ∃ w', (Instr.mapUpdate t (.map (some mb)) (.int .i64 x) v).run Try.prog w = .ok () w' ∧ Mp w' mb (n + 1) (fun y => if y = x then some v else f y) ∧ Frm (fun k => k = mb) w w' := by
  obtain ⟨D, hm, hM⟩ := H
  obtain ⟨w', hr, hm', htu⟩ := hm.store mlaw ht (by unfold maxLen; omega) (keyOf_int_mk Try.underlying3 hx.wf) (val := v) (d := .held v) (ps := []) rfl
  refine ⟨w', hr, ⟨_, hm', fun y hy => ?_⟩, turn_frm htu⟩
  have := hM y hy
  by_cases e : y = x
  · subst e
    simp only [if_true]
    exact ⟨has_put_same hm.isMap (key_lit y) _, fun z => atKey_put_same hm.isMap (key_lit y) _ z⟩
  · simp only [if_neg e]
    cases hw : f y with
    | none => rw [hw] at this; exact (has_put_other (key_ne e) _).trans this
    | some p =>
      rw [hw] at this
      exact ⟨(has_put_other (key_ne e) _).trans this.1, fun z => (atKey_put_other (key_ne e) _ z).trans (this.2 z)⟩
def It.mp (mb n : Nat) (f : Int → Option Value) : It where
  P w := Mp w mb n f
  f k := k = mb
  lt h k hk := by subst hk; exact h.lt
  st h hs := h.keep (hs _ rfl)

/-! ### pointers, entries, what was served -/
def ptrE : El Try.prog Nat where
  t := 60
  e := 63
  k := 1
  by' := 8
  z := .pointer none
  enc g := [.pointer (some ⟨g, 0, none⟩)]
  ht := Try.underlying60
  info := by kernel_rfl
  zc := rfl
  kpos := by omega
  bsm := by omega
  len _ := rfl
  one x v hv := by simp at hv; subst hv; rfl
theorem ptr_at {w : World} {a : Option Addr} {n c : Nat} {gs : List Nat} (h : ptrE.Rd w (.slice a n c) gs) (i g : Nat) (hp : gs[i]? = some g) : ∃ b off, a = some ⟨b, off, none⟩ ∧ w.cell? ⟨b, off + i, none⟩ = some (.pointer (some ⟨g, 0, none⟩)) := by
  obtain ⟨b, off, h1, h2⟩ := h.at i g hp
  refine ⟨b, off, h1, ?_⟩
  have := h2 0 (by show 0 < 1; omega)
  simpa [ptrE] using this
def enC (e : En) : Array Value := #[.int .i64 e.r.id, .int .i64 e.r.st, .int .i64 e.r.tt, .int .i64 e.en]
def It.ents (T : List (Nat × En)) : It where
  P w := ∀ p ∈ T, w.heap[p.1]? = some (.cells (enC p.2) 67)
  f k := ∃ p ∈ T, p.1 = k
  lt h k hk := by
    obtain ⟨p, hp, rfl⟩ := hk
    exact heap_lt (h p hp)
  st h hs p hp := by rw [hs _ ⟨p, hp, rfl⟩]; exact h p hp
structure Srv (w : World) (B ms n : Nat) (fs : Int → Option Value) (sv : Int → List Int) : Prop where
  mp : Mp w ms n fs
  row : ∀ s v, fs s = some v → intE.Own w B v (sv s)
  no : ∀ s, fs s = none → sv s = []
  ap : ∀ s t v u k, s ≠ t → fs s = some v → fs t = some u → v.ownBlock = some k → u.ownBlock ≠ some k
def It.srv (B ms n : Nat) (fs : Int → Option Value) (sv : Int → List Int) : It where
  P w := Srv w B ms n fs sv
  f k := k = ms ∨ ∃ s v, fs s = some v ∧ v.ownBlock = some k
  lt h k hk := by
    rcases hk with rfl | ⟨s, v, h1, h2⟩
    · exact h.mp.lt
    · exact (h.row s v h1).lt k h2
  st h hs := ⟨h.mp.keep (hs _ (.inl rfl)), fun s v q => own_stay (h.row s v q) fun g hg _ => hs g (.inr ⟨s, v, q, hg⟩), h.no, h.ap⟩

/-- where a book's things lie -/
structure Hb where
  kb : Nat
  sb : Nat
  vo : Value
  fs : Int → Option Value
  T : List (Nat × En)
def fnT (T : List (Nat × En)) (x : Int) : Option (Nat × En) := T.find? (fun p => p.2.r.id == x)
def kn (T : List (Nat × En)) (x : Int) : Option Value := (fnT T x).map (fun p => .pointer (some ⟨p.1, 0, none⟩))
def opT (T : List (Nat × En)) : List (Nat × En) := T.filter (fun p => p.2.en == 1)
def Lie (T : List (Nat × En)) (S : Bk) : Prop := S.Ok ∧ S.all = T.map (·.2) ∧ (T.map (·.1)).Nodup
def limbs (B g : Nat) (H : Hb) (S : Bk) : List It := [.row ptrE B H.vo ((opT H.T).map (·.1)), .ents H.T, .box g #[.map (some H.kb), H.vo, .map (some H.sb)] 62, .srv B H.sb S.done.length H.fs S.sv, .mp H.kb S.all.length (kn H.T)]
def parts (B g : Nat) (H : Hb) (S : Bk) : List It := .fact (Lie H.T S) :: limbs B g H S
def It.book (B g : Nat) (H : Hb) (S : Bk) : It := .grp (parts B g H S)

theorem fnT_fnd {T : List (Nat × En)} (x : Int) : fnd (T.map (·.2)) x = (fnT T x).map (·.2) := by
  unfold fnd fnT
  rw [List.find?_map]
  rfl
theorem opT_ops (T : List (Nat × En)) : ops (T.map (·.2)) = (opT T).map (·.2.r) := by
  unfold ops opT
  rw [List.filter_map, List.map_map]
  rfl

section
variable {w : World} {B g : Nat} {H : Hb} {S : Bk}
theorem bk_box (h : (It.book B g H S).P w) : w.heap[g]? = some (.cells #[.map (some H.kb), H.vo, .map (some H.sb)] 62) := h.1 (.box g #[.map (some H.kb), H.vo, .map (some H.sb)] 62) (by simp [parts, limbs])
theorem bk_cells (h : (It.book B g H S).P w) : w.cell? ⟨g, 0, none⟩ = some (.map (some H.kb)) ∧ w.cell? ⟨g, 1, none⟩ = some H.vo ∧ w.cell? ⟨g, 2, none⟩ = some (.map (some H.sb)) ∧ ∀ i, w.frozen? ⟨g, i, none⟩ = false :=
  ⟨(cells_at (bk_box h) 0).1, (cells_at (bk_box h) 1).1, (cells_at (bk_box h) 2).1, fun i => (cells_at (bk_box h) i).2⟩
theorem bk_mp (h : (It.book B g H S).P w) : Mp w H.kb S.all.length (kn H.T) := h.1 (.mp H.kb S.all.length (kn H.T)) (by simp [parts, limbs])
theorem bk_row (h : (It.book B g H S).P w) : ptrE.Own w B H.vo ((opT H.T).map (·.1)) := h.1 (.row ptrE B H.vo ((opT H.T).map (fun p : Nat × En => p.1))) (by simp [parts, limbs])
theorem bk_ents (h : (It.book B g H S).P w) : ∀ p ∈ H.T, w.heap[p.1]? = some (.cells (enC p.2) 67) := h.1 (.ents H.T) (by simp [parts, limbs])
theorem bk_srv (h : (It.book B g H S).P w) : Srv w B H.sb S.done.length H.fs S.sv := h.1 (.srv B H.sb S.done.length H.fs S.sv) (by simp [parts, limbs])
theorem bk_lie (h : (It.book B g H S).P w) : Lie H.T S := h.1 (.fact (Lie H.T S)) (by simp [parts])
theorem bk_ent (h : (It.book B g H S).P w) {p : Nat × En} (hp : p ∈ H.T) : w.cell? ⟨p.1, 0, none⟩ = some (.int .i64 p.2.r.id) ∧ w.cell? ⟨p.1, 1, none⟩ = some (.int .i64 p.2.r.st) ∧ w.cell? ⟨p.1, 2, none⟩ = some (.int .i64 p.2.r.tt) ∧ w.cell? ⟨p.1, 3, none⟩ = some (.int .i64 p.2.en) ∧ ∀ i, w.frozen? ⟨p.1, i, none⟩ = false :=
  ⟨(cells_at (bk_ents h p hp) 0).1, (cells_at (bk_ents h p hp) 1).1, (cells_at (bk_ents h p hp) 2).1, (cells_at (bk_ents h p hp) 3).1, fun i => (cells_at (bk_ents h p hp) i).2⟩
/-- a book's limbs -/
theorem Its.bopen {w0 : World} {l : List It} (h : Its w0 (.book B g H S :: l) w) : Its w0 (limbs B g H S ++ l) w ∧ Lie H.T S := ⟨h.opn.tail, bk_lie h.one⟩
theorem Its.bshut {w0 : World} {l : List It} (h : Its w0 (limbs B g H S ++ l) w) (hl : Lie H.T S) : Its w0 (.book B g H S :: l) w :=
  Its.shut (a := parts B g H S) (h.new (x := .fact (Lie H.T S)) hl (fun k hk => hk.elim) (Below.refl _ _))
end
end Go.Proofs.Ytfmpipihjnpimaa
