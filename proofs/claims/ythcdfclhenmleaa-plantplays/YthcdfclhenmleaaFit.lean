/- nodesFit: the map of names; edgesFit; Check. -/
import Derived.Test.YthcdfclhenmleaaNam
import Derived.Test.YthcdfclhenmleaaLyb
import Derived.Maps.Own
import Derived.OpenShut
import Derived.WideShapes4
import Derived.Maps.OwnOps
import Derived.Maps.OwnSet
import Derived.Maps.Views
namespace Go.Proofs.Ythcdfclhenmleaa
open Go.RowKit Go.Maps Go.ChangeMaps
set_option linter.unusedVariables false

def raw (v : Value) : Option (DataW Value × List MemPlace) := some (.held v, [])
theorem law : Keyed Try.prog 9 := string_keyed Try.underlying9
theorem zero3 (w : World) : (zeroValue 3).run Try.prog w = .ok (.int .i64 0) w := by kernel_rfl
def key (s : ByteArray) : Lit := .string s.data.toList
/-- a map from names to places: f tells where a name is -/
def Mp (w : World) (b n : Nat) (f : ByteArray → Option Int) : Prop := ∃ D, w.ownsMap Try.prog 9 raw b n D ∧ ∀ s : ByteArray, s.size ≤ maxLen → match f s with
  | none => has D (key s) = false
  | some x => has D (key s) = true ∧ ∀ z, D.atKey (key s) z = .held (.int .i64 x)
theorem key_ne {x y : ByteArray} (h : x ≠ y) : key x ≠ key y := fun e => h (by
  simp only [key, Lit.string.injEq] at e
  cases x; cases y
  simp only [ByteArray.mk.injEq] at e ⊢
  exact Array.toList_inj.1 e)
theorem key_lit (x : ByteArray) : WideAt.IsKeyLit (key x) := by unfold key; trivial
theorem Mp.look {w : World} {b n : Nat} {f : ByteArray → Option Int} (H : Mp w b n f) (s : ByteArray) (hs : s.size ≤ maxLen) :
    (Instr.lookup 97 (.map (some b)) (.string s) true).run Try.prog w = .ok (.tuple #[.int .i64 ((f s).getD 0), .bool (f s).isSome]) w := by
  obtain ⟨D, hm, hM⟩ := H
  have hx := hM s hs
  obtain ⟨v, ps, hrun, hv⟩ := hm.look_ok law Try.underlying97 (zero3 _) (zd := .held (.int .i64 0)) (zp := []) rfl (WideMaps.keyOf_string_mk (s := s) Try.underlying9 hs)
  rw [hrun]
  simp only [raw, Option.some.injEq, Prod.mk.injEq] at hv
  have ev := hv.1.symm
  cases hf : f s with
  | none =>
    rw [hf] at hx
    have e2 : D.atKey (key s) (.held (.int .i64 0)) = .held (.int .i64 0) := atKey_of_not_has hx _
    rw [show D.atKey (.string s.data.toList) (.held (.int .i64 0)) = .held (.int .i64 0) from e2] at ev
    cases ev
    rw [show has D (.string s.data.toList) = false from hx]; rfl
  | some x =>
    rw [hf] at hx
    rw [show D.atKey (.string s.data.toList) (.held (.int .i64 0)) = .held (.int .i64 x) from hx.2 _] at ev
    cases ev
    rw [show has D (.string s.data.toList) = true from hx.1]; rfl
theorem Mp.put {w : World} {b n : Nat} {f : ByteArray → Option Int} (H : Mp w b n f) (s : ByteArray) (hs : s.size ≤ maxLen) (x : Int) (hn : n ≤ 1000000) :
    ∃ w', (Instr.mapUpdate 97 (.map (some b)) (.string s) (.int .i64 x)).run Try.prog w = .ok () w' ∧ Mp w' b (n + 1) (fun y => if y = s then some x else f y) ∧ (∀ k, k ≠ b → w'.heap[k]? = w.heap[k]?) ∧ w'.heap.size = w.heap.size ∧ w'.os = w.os ∧ w'.tape = w.tape ∧ w'.output = w.output := by
  obtain ⟨D, hm, hM⟩ := H
  obtain ⟨w', hr, hm', ht⟩ := hm.store law Try.underlying97 (by unfold maxLen; omega) (WideMaps.keyOf_string_mk (s := s) Try.underlying9 hs) (val := .int .i64 x) (d := .held (.int .i64 x)) (ps := []) rfl
  refine ⟨w', hr, ⟨_, hm', fun y hy => ?_⟩, ?_⟩
  · have := hM y hy
    by_cases e : y = s
    · subst e
      simp only [if_true]
      exact ⟨has_put_same hm.isMap (key_lit y) _, fun z => atKey_put_same hm.isMap (key_lit y) _ z⟩
    · simp only [if_neg e]
      cases hw : f y with
      | none => rw [hw] at this; exact (has_put_other (key_ne e) _).trans this
      | some p =>
        rw [hw] at this
        exact ⟨(has_put_other (key_ne e) _).trans this.1, fun z => (atKey_put_other (key_ne e) _ z).trans (this.2 z)⟩
  · have hg := ht.grown
    obtain ⟨es, clock, es', clock', hb, rfl⟩ := ht
    exact ⟨fun k hk => by simp [setBlock, hk.symm], by simp [setBlock], hg.os, hg.tape, hg.output⟩
theorem Mp.made (w : World) : Mp (w.alloc (.map #[] 0)) w.heap.size 0 (fun _ => none) := ⟨.map [], World.ownsMap_made w Try.prog 9 raw, fun _ _ => rfl⟩
theorem Mp.keep {w w' : World} {b n : Nat} {f : ByteArray → Option Int} (H : Mp w b n f) (hb : w'.heap[b]? = w.heap[b]?) : Mp w' b n f := by
  obtain ⟨D, ⟨es, clock, hx, hr⟩, hM⟩ := H
  exact ⟨D, ⟨es, clock, by rw [hb]; exact hx, hr⟩, hM⟩
theorem Mp.lt {w : World} {b n : Nat} {f : ByteArray → Option Int} (H : Mp w b n f) : b < w.heap.size := by
  obtain ⟨D, hm, _⟩ := H
  exact hm.lt

set_option maxRecDepth 100000 in
set_option maxHeartbeats 4000000 in
theorem nodesFit_any (a : Option Addr) (c : Nat) (ns : List Nd) (w : World) (hv : ndE.Rd w (.slice a ns.length c) ns) (hs : ∀ n ∈ ns, n.name.size ≤ maxLen) :
    Calls Try.prog 41 #[.slice a ns.length c] w fun e w' => e = .returned (.bool (goodN ns)) ∧ Below w.heap.size w w' := by
  obtain ⟨n, hn⟩ : ∃ n, ns.length = n := ⟨_, rfl⟩
  rw [hn] at hv ⊢
  have b0 : Below w.heap.size w w := Below.refl _ _
  by_cases h1 : n < 1
  · have e1 : goodN ns = false := by unfold goodN; exact decide_eq_false (by omega)
    rw [e1]
    have h1' : (n : Int) < 1 := by omega
    clear hn hv hs
    go_enter Try.func41, Try.ntmps41
    go_wp2_with fail
    go_ret
    exact ⟨rfl, b0⟩
  by_cases h2 : 40 < n
  · have e1 : goodN ns = false := by unfold goodN; exact decide_eq_false (by omega)
    rw [e1]
    have h1' : ¬ (n : Int) < 1 := by omega
    have h2' : (40 : Int) < n := by omega
    clear hn hv hs
    go_enter Try.func41, Try.ntmps41
    go_wp2_with fail
    go_ret
    exact ⟨rfl, b0⟩
  have h1' : ¬ (n : Int) < 1 := by omega
  have h2' : ¬ (40 : Int) < n := by omega
  have i0 : (0 : Int) ≤ (n : Int) := by omega
  have yes : Hid ((∀ m ∈ ns, ndB m = true) → (ns.map (·.name)).Nodup → goodN ns = true) := hide (fun u v => by
    unfold goodN; exact decide_eq_true ⟨by omega, by omega, u, v⟩)
  have no1 : Hid (∀ k p, ns[k]? = some p → p.name ∈ (ns.take k).map (·.name) → goodN ns = false) := hide (fun k p => dup_no)
  have no2 : Hid (∀ k p, ns[k]? = some p → ndB p = false → goodN ns = false) := hide (fun k p => bad_no)
  generalize goodN ns = res at *
  have Hn := hide hn
  have Hv := hide hv
  have Hs := hide hs
  have Hc := hide (And.intro h1 h2)
  have K38 := hide (fun (p : Nd) W => isNode_any p W)
  have hk : ∀ t W, (Instr.makeMap t none).run Try.prog W = .ok (.map (some W.heap.size)) (W.alloc (.map #[] 0)) := fun t W => run_makeMap t W
  have M0 := hide (Mp.made w)
  have B0 : Hid (Below w.heap.size w (w.alloc (.map #[] 0))) := hide ((Below.refl _ _).alloc (Nat.le_refl _) _)
  clear hn hv hs h1 h2 b0
  go_enter Try.func41, Try.ntmps41
  go_wp2_with fail
  obtain ⟨g, hg⟩ : ∃ g, w.heap.size = g := ⟨_, rfl⟩
  rw [hg] at M0 ⊢
  have Hg := hide hg
  clear hg
  go_loopw [19] (fun v19 wr => ∃ k : Nat, k ≤ n ∧ v19 = .int .i64 k ∧ Hid (∃ f, Mp wr g k f ∧ ∀ s, (f s).isSome = true ↔ s ∈ (ns.take k).map (·.name)) ∧ Hid (Below w.heap.size w wr) ∧ Hid (∀ m ∈ ns.take k, ndB m = true) ∧ Hid (((ns.take k).map (·.name)).Nodup)) (fun v19 _ => n - (intOf v19).toNat)
  case atStart => exact ⟨0, by omega, rfl, hide ⟨_, M0.out, fun s => by simp⟩, B0, hide (by simp), hide (by simp)⟩
  case round =>
    clear M0 B0 hk
    obtain ⟨k, hk, rfl, HM, HB, HG, HD⟩ := hrel
    by_cases hlt : k < n
    · obtain ⟨p, hp⟩ : ∃ p, ns[k]? = some p := ⟨_, List.getElem?_eq_getElem (by rw [Hn.out]; exact hlt)⟩
      obtain ⟨b, off, rfl, c0, c1, c2⟩ := nd_at (Hv.out.keep HB.out) k p hp
      obtain ⟨f, hM, hf⟩ := HM.out
      have j0 : (0 : Int) ≤ (k : Int) := by omega
      have j1 : (k : Int) < (n : Int) := by omega
      have hps : p.name.size ≤ maxLen := Hs.out p (List.mem_of_getElem? hp)
      have glt : g < wr.heap.size := hM.lt
      have bA : Below wr.heap.size wr (wr.alloc (.cells #[.string p.name, .int .i64 p.kind, .int .i64 p.zone] 67)) := (Below.refl _ _).alloc (Nat.le_refl _) _
      have M1 : Mp (wr.alloc (.cells #[.string p.name, .int .i64 p.kind, .int .i64 p.zone] 67)) g k f := hM.keep (bA.block _ glt)
      have hlook := M1.look p.name hps
      have Hx : Hid ((wr.alloc (.cells #[.string p.name, .int .i64 p.kind, .int .i64 p.zone] 67)).heap[wr.heap.size]? = some (.cells #[.string p.name, .int .i64 p.kind, .int .i64 p.zone] 67)) := hide (heap_new _ _)
      have BA : Hid (Below w.heap.size w (wr.alloc (.cells #[.string p.name, .int .i64 p.kind, .int .i64 p.zone] 67))) := hide (HB.out.alloc HB.out.size _)
      have HM1 := hide M1
      have Hf := hide hf
      have Hp := hide hp
      have Hglt := hide glt
      have Hps := hide hps
      clear M1 hf hp hM bA glt hps HM
      cases hsm : (f p.name).isSome with
      | true =>
        have c2' := no1.out k p Hp.out ((Hf.out _).1 hsm)
        subst c2'
        rw [hsm] at hlook
        clear hsm
        go_wp2_with fail
        go_ret
        exact ⟨rfl, BA.out⟩
      | false =>
        rw [hsm] at hlook
        have Hsm := hide hsm
        clear hsm
        have K := hide (fun W => K38.out p W)
        have hnot : Hid (p.name ∉ (ns.take k).map (·.name)) := hide (fun h => by have := (Hf.out _).2 h; rw [Hsm.out] at this; cases this)
        have HG1 : Hid (ndB p = true → ∀ m ∈ ns.take (k + 1), ndB m = true) := hide (fun hb m hm => by
          rw [List.take_add_one, Hp.out] at hm
          simp at hm
          rcases hm with hm | rfl
          · exact HG.out m hm
          · exact hb)
        have HD1 := hide (take_nodup Hp.out HD.out hnot.out)
        have no2' : Hid (ndB p = false → res = false) := hide (no2.out k p Hp.out)
        obtain ⟨s, kd, z⟩ := p
        generalize ndB ⟨s, kd, z⟩ = ok at *
        cases ok with
        | false =>
          have c2' := no2'.out rfl
          subst c2'
          go_wp2_with (go_at_call 50; refine (K.out _).mono ?_; rintro e W1 ⟨rfl, hb1⟩; have Hb1 := hide hb1; clear hb1)
          go_ret
          exact ⟨rfl, BA.out.trans (Hb1.out.mono BA.out.size)⟩
        | true =>
          go_upto_region 10 with (go_at_call 50; refine (K.out _).mono ?_; rintro e W1 ⟨rfl, hb1⟩; have Hb1 := hide hb1; clear hb1)
          have hx1 : W1.heap[wr.heap.size]? = some (.cells #[.string s, .int .i64 kd, .int .i64 z] 67) := by rw [Hb1.out.block _ (by simp)]; exact Hx.out
          have d0 := (cells_at hx1 0).1
          simp at d0
          have M2 : Mp W1 g k f := HM1.out.keep (Hb1.out.block _ (by have := Hglt.out; simp; omega))
          obtain ⟨W2, hup, M3, hst, hsz, ho1, ho2, ho3⟩ := M2.put s Hps.out (k : Int) (by omega)
          have HM3 : Hid (∃ f', Mp W2 g (k + 1) f' ∧ ∀ t, (f' t).isSome = true ↔ t ∈ (ns.take (k + 1)).map (·.name)) := hide ⟨_, M3, fun t => by
            rw [take_mem Hp.out]
            show _ ↔ _ ∨ t = s
            by_cases e : t = s
            · simp [e]
            · rw [if_neg e, Hf.out]; simp [e]⟩
          have HB3 : Hid (Below w.heap.size w W2) := hide (by
            have hbb := BA.out.trans (Hb1.out.mono BA.out.size)
            exact ⟨ho1.trans hbb.os, ho2.trans hbb.tape, ho3.trans hbb.output, by rw [hsz]; exact hbb.size, fun q hq => (hst q (by rw [← Hg.out]; omega)).trans (hbb.block q hq)⟩)
          clear M2 M3 hst hsz ho1 ho2 ho3 hx1
          go_wp2_with fail
          go_roundw
          case rel => exact ⟨k + 1, by omega, by go_num, HM3, HB3, hide (HG1.out trivial), HD1⟩
          case measure => simp [intOf]; omega
    · have j1 : ¬ (k : Int) < (n : Int) := by omega
      have et : ns.take k = ns := List.take_of_length_le (by rw [Hn.out]; omega)
      have c2 := yes.out (by rw [← et]; exact HG.out) (by rw [← et]; exact HD.out)
      subst c2
      go_wp2_with fail
      go_ret
      exact ⟨rfl, HB.out⟩
end Go.Proofs.Ythcdfclhenmleaa
