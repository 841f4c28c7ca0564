/- The reader as an object: its struct, its rows, its map; takeNode, takeEdge. -/
import Derived.Test.YtpjolnaomdmnnaaDoorKnd
import Derived.Test.YtpjolnaomdmnnaaDoorExm
namespace Go.Proofs.YtpjolnaomdmnnaaDoor
open Go.RowKit Go.Maps Go.ChangeMaps
set_option linter.unusedVariables false

/-- where it lies: its struct, its map, the first block that is its own -/
structure Hd where
  g : Nat
  b : Nat
  B : Nat
structure Rdr (w : World) (h : Hd) (vN vE : Value) (st : St) : Prop where
  box : w.heap[h.g]? = some (.cells #[vN, vE, .map (some h.b)] 62)
  ns : ndE.Own w h.B vN st.1
  es : edE.Own w h.B vE st.2
  map : Mp w h.b st.1.length (lastAt st.1)
  hg : h.B ≤ h.g
  hb : h.B ≤ h.b
/-- what a call changes: nothing below, no row of strings -/
structure Chg (h : Hd) (w w' : World) : Prop where
  below : Below h.B w w'
  strs : ∀ (k : Nat) (cur : Array Value), w.heap[k]? = some (Obj.cells cur 9) → w'.heap[k]? = w.heap[k]?
theorem Chg.refl (h : Hd) (w : World) : Chg h w w := ⟨Below.refl _ _, fun _ _ _ => rfl⟩
theorem Chg.trans {h : Hd} {a b c : World} (x : Chg h a b) (y : Chg h b c) : Chg h a c := ⟨x.below.trans y.below, fun k cur hk => by rw [y.strs k cur (by rw [x.strs k cur hk]; exact hk), x.strs k cur hk]⟩
theorem Chg.of {h : Hd} {w w' : World} (hB : h.B ≤ w.heap.size) (hb : Below w.heap.size w w') : Chg h w w' := ⟨hb.mono hB, fun k cur hk => hb.block k (heap_lt hk)⟩
theorem own_chg {α : Type} {E : El Tryd.prog α} {w w' : World} {B : Nat} {v : Value} {xs : List α} (h : E.Own w B v xs) (hs : ∀ g cur, v.ownBlock = some g → w.heap[g]? = some (.cells cur E.e) → w'.heap[g]? = w.heap[g]?) : E.Own w' B v xs := by
  obtain ⟨h0, h⟩ := h
  refine ⟨h0, ?_⟩
  rcases h with h | ⟨g, cap, cur, h1, h2, h3, h4⟩
  · exact .inl h
  · refine .inr ⟨g, cap, cur, h1, h2, ?_, h4⟩
    rw [hs g cur (by rw [h1]; rfl) h3]; exact h3
theorem Rdr.keep {w w' : World} {h : Hd} {vN vE : Value} {st : St} (H : Rdr w h vN vE st) (hb : Below w.heap.size w w') : Rdr w' h vN vE st where
  box := by rw [hb.block _ (heap_lt H.box)]; exact H.box
  ns := H.ns.keep hb
  es := H.es.keep hb
  map := H.map.keep (hb.block _ H.map.lt)
  hg := H.hg
  hb := H.hb
theorem Mp.block {w : World} {b n : Nat} {f : ByteArray → Option Int} (H : Mp w b n f) : ∃ es clock, w.heap[b]? = some (.map es clock) := by
  obtain ⟨D, ⟨es, clock, hx, _⟩, _⟩ := H
  exact ⟨es, clock, hx⟩
/-- a string row that reads so does so behind the call -/
theorem rd_strs {w w' : World} {h : Hd} {B : Nat} {v : Value} {xs : List ByteArray} (ho : strE.Own w B v xs) (hc : Chg h w w') : strE.Own w' B v xs :=
  own_chg ho fun g cur _ hx => hc.strs g cur hx
theorem cell_of_get {w : World} {a : Option Addr} {n c : Nat} {ws : List ByteArray} (h : strE.Rd w (.slice a n c) ws) (i : Nat) (x : ByteArray) (hx : ws[i]? = some x) : ∃ b off, a = some ⟨b, off, none⟩ ∧ w.cell? ⟨b, off + i, none⟩ = some (.string x) := by
  obtain ⟨b, off, h1, h2⟩ := h.at i x hx
  exact ⟨b, off, h1, by have := h2 0 (by decide); simpa [strE] using this⟩

theorem nodeS_form {ws : List ByteArray} {nd : Nd} (h : nodeS ws = some nd) : ∃ b c, ws = [nd.name, b, c] ∧ nameB nd.name = true ∧ kindS b = some nd.kind ∧ zoneS c = some nd.zone := by
  unfold nodeS at h
  split at h
  · rename_i a b c
    split at h
    · rename_i hn
      split at h
      · rename_i k z hk hz
        cases h
        exact ⟨b, c, rfl, hn, hk, hz⟩
      · cases h
    · cases h
  · cases h
/-- the map behind a name more -/
theorem Mp.next {w' : World} {b n : Nat} {st : St} {nd : Nd} (h : Mp w' b (n + 1) (fun y => if y = nd.name then some (st.1.length : Int) else lastAt st.1 y)) (hn : n = st.1.length) : Mp w' b (st.1 ++ [nd]).length (lastAt (st.1 ++ [nd])) := by
  subst hn
  rw [lastAt_app, List.length_append]
  exact h
end Go.Proofs.YtpjolnaomdmnnaaDoor
