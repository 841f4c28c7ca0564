/- Slices of bytes and of notes; sums of bytes; bytes as strings. -/
import Derived.Test.YtgdoagmnhmfjkaaNmt
import Derived.Test.YtgdoagmnhmfjkaaIts
import Derived.ShutString
import Derived.Laws.BytesArg
import Derived.ChangeOld
import Derived.SizedLaws
namespace Go.Proofs.Ytgdoagmnhmfjkaa
open Go.ChangeShapes Go.WideShapes Go.ChangeAt Go.RowKit
set_option linter.unusedVariables false

def byE : El Try.prog Int where
  t := 57
  e := 5
  k := 1
  by' := 1
  z := .int .u8 0
  enc x := [.int .u8 x]
  ht := Try.underlying57
  info := by kernel_rfl
  zc := rfl
  kpos := by omega
  bsm := by omega
  len _ := rfl
  one x v hv := by simp at hv; subst hv; rfl
def ntE : El Try.prog Nt where
  t := 29
  e := 43
  k := 4
  by' := 32
  z := .agg #[.int .i64 0, .int .i64 0, .int .i64 0, .int .i64 0]
  enc x := [.int .i64 x.kind, .int .i64 x.a, .int .i64 x.b, .int .i64 x.c]
  ht := Try.underlying29
  info := by kernel_rfl
  zc := rfl
  kpos := by omega
  bsm := by omega
  len _ := rfl
  one x v hv := by simp at hv; rcases hv with rfl | rfl | rfl | rfl <;> rfl
/-- a note as a value -/
def Nt.val (n : Nt) : Value := .agg #[.int .i64 n.kind, .int .i64 n.a, .int .i64 n.b, .int .i64 n.c]

theorem by_at {w : World} {a : Option Addr} {n c : Nat} {xs : List Int} (h : byE.Rd w (.slice a n c) xs) (i : Nat) (p : Int) (hp : xs[i]? = some p) : ∃ b off, a = some ⟨b, off, none⟩ ∧ w.cell? ⟨b, off + i, none⟩ = some (.int .u8 p) := by
  obtain ⟨b, off, h1, h2⟩ := h.at i p hp
  refine ⟨b, off, h1, ?_⟩
  have := h2 0 (by show 0 < 1; omega)
  simpa [byE] using this
/-- a slice with something in it lies somewhere -/
theorem by_some {w : World} {a : Option Addr} {n c : Nat} {xs : List Int} (h : byE.Rd w (.slice a n c) xs) (hne : xs ≠ []) : ∃ b off, a = some ⟨b, off, none⟩ ∧ ∀ i p, xs[i]? = some p → w.cell? ⟨b, off + i, none⟩ = some (.int .u8 p) := by
  cases xs with
  | nil => exact absurd rfl hne
  | cons z t =>
    obtain ⟨b, off, h1, _⟩ := by_at h 0 z rfl
    refine ⟨b, off, h1, fun i p hp => ?_⟩
    obtain ⟨b', off', h3, h4⟩ := by_at h i p hp
    rw [h1] at h3
    simp only [Option.some.injEq, Addr.mk.injEq] at h3
    obtain ⟨rfl, rfl, _⟩ := h3
    exact h4
theorem nt_at {w : World} {a : Option Addr} {n c : Nat} {xs : List Nt} (h : ntE.Rd w (.slice a n c) xs) (i : Nat) (p : Nt) (hp : xs[i]? = some p) : ∃ b off, a = some ⟨b, off, none⟩ ∧ w.cell? ⟨b, off + i * 4, none⟩ = some (.int .i64 p.kind) ∧ w.cell? ⟨b, off + i * 4 + 1, none⟩ = some (.int .i64 p.a) ∧ w.cell? ⟨b, off + i * 4 + 2, none⟩ = some (.int .i64 p.b) ∧ w.cell? ⟨b, off + i * 4 + 3, none⟩ = some (.int .i64 p.c) := by
  obtain ⟨b, off, e, hc⟩ := El.Rd.at h i p hp
  exact ⟨b, off, e, hc 0 (by decide), hc 1 (by decide), hc 2 (by decide), hc 3 (by decide)⟩
theorem nt_new (w : World) (p : Nt) (g : Nat) (hg : g = w.heap.size) : ntE.Rd (w.alloc (.cells #[.int .i64 p.kind, .int .i64 p.a, .int .i64 p.b, .int .i64 p.c] 43)) (.slice (some ⟨g, 0, none⟩) 1 1) [p] :=
  (El.Own.new ntE w w.heap.size (Nat.le_refl _) _ [p] rfl (by simp) _ _ _ hg rfl rfl).rd
theorem by_new1 (w : World) (x : Int) (g : Nat) (hg : g = w.heap.size) : byE.Rd (w.alloc (.cells #[.int .u8 x] 5)) (.slice (some ⟨g, 0, none⟩) 1 1) [x] :=
  (El.Own.new byE w w.heap.size (Nat.le_refl _) _ [x] rfl (by simp) _ _ _ hg rfl rfl).rd
theorem by_new2 (w : World) (x y : Int) (g : Nat) (hg : g = w.heap.size) : byE.Rd (w.alloc (.cells #[.int .u8 x, .int .u8 y] 5)) (.slice (some ⟨g, 0, none⟩) 2 2) [x, y] :=
  (El.Own.new byE w w.heap.size (Nat.le_refl _) _ [x, y] rfl (by simp) _ _ _ hg rfl rfl).rd
theorem by_fl (xs : List Int) : byE.fl xs = xs.map (Value.int .u8) := fl_map byE _ (fun _ => rfl) xs

theorem sum_rd {w : World} {v : Value} {l : List Int} (h : byE.Rd w v l) (hr : InB l) (hm : l.length ≤ 140737488355328) :
    Calls Try.prog 50 #[v] w fun e w' => e = .returned (.int .u16 (uv (sm 0xFFFF#16 l))) ∧ w' = w := by
  obtain ⟨a, cap, rfl⟩ := h.form
  cases l with
  | nil => exact sum_nil _ _ _
  | cons z t =>
    obtain ⟨b, off, rfl, hc⟩ := by_some h (by simp)
    exact sum_at b off cap _ (z :: t) w rfl (fun i hi => by rw [hc i _ (List.getElem?_eq_getElem hi), List.getElem?_eq_getElem hi]; rfl) hr hm
theorem rsum_rd {w : World} {v : Value} {l : List Int} (h : byE.Rd w v l) (hr : InB l) (hm : l.length ≤ 140737488355328) :
    Calls Try.prog 52 #[v] w fun e w' => e = .returned (.int .u16 (uv (sm 0xFFFF#16 l))) ∧ w' = w := by
  obtain ⟨a, cap, rfl⟩ := h.form
  cases l with
  | nil => exact rsum_nil _ _ _
  | cons z t =>
    obtain ⟨b, off, rfl, hc⟩ := by_some h (by simp)
    exact rsum_at b off cap _ (z :: t) w rfl (fun i hi => by rw [hc i _ (List.getElem?_eq_getElem hi), List.getElem?_eq_getElem hi]; rfl) hr hm

def str (l : List Int) : ByteArray := l.foldl (fun r n => r.push (UInt8.ofNat n.toNat)) ByteArray.empty
theorem conv_str {w : World} {v : Value} {l : List Int} (h : byE.Rd w v l) : (convert 57 9 v).run Try.prog w = .ok (.string (str l)) w := by
  rcases h with ⟨rfl, rfl⟩ | ⟨x, cap, rfl, hc⟩
  · exact run_convert_bytes_nil (P := Try.prog) w 57 5 Try.underlying57 Try.underlying5 0 0 9 Try.underlying9
  · have hl : (loadCells x l.length).run Try.prog w = .ok (l.map (Value.int .u8)).toArray w := by
      have := run_loadCells_list (P := Try.prog) w x (l.map (Value.int .u8)) (fun j y hy => by
        have hj : j < l.length := by
          rcases Nat.lt_or_ge j l.length with h | h
          · exact h
          · simp [List.getElem?_eq_none h] at hy
        have := hc j (by show j < l.length * 1; omega)
        rw [this, by_fl]; simpa [hj] using hy)
      simpa using this
    rw [run_convert_bytes_string (P := Try.prog) w 57 9 5 _ _ _ Try.underlying57 Try.underlying5 Try.underlying9, run_bytesToString w x _ cap l hl]
    rfl
theorem str_list (l : List Int) : (str l).data.toList = l.map (fun n => UInt8.ofNat n.toNat) := by
  unfold str
  have : ∀ (l : List Int) (r : ByteArray), (l.foldl (fun r n => r.push (UInt8.ofNat n.toNat)) r).data.toList = r.data.toList ++ l.map (fun n => UInt8.ofNat n.toNat) := by
    intro l
    induction l with
    | nil => intro r; simp
    | cons z l ih =>
      intro r
      rw [List.foldl_cons, ih]
      simp [ByteArray.push]
  rw [this]
  rfl
theorem str_inj {l m : List Int} (hl : InB l) (hm : InB m) (h : str l = str m) : l = m := by
  have h' : l.map (fun n => UInt8.ofNat n.toNat) = m.map (fun n => UInt8.ofNat n.toNat) := by rw [← str_list, ← str_list, h]
  clear h
  induction l generalizing m with
  | nil => cases m with
    | nil => rfl
    | cons => simp at h'
  | cons z l ih => cases m with
    | nil => simp at h'
    | cons y m =>
      simp only [List.map_cons, List.cons.injEq] at h'
      have b0 := hl z (by simp)
      have b1 := hm y (by simp)
      have e : z = y := by
        have := congrArg UInt8.toNat h'.1
        simp at this
        omega
      rw [e, ih (fun x hx => hl x (by simp [hx])) (fun x hx => hm x (by simp [hx])) h'.2]
theorem toList_inj {A B : ByteArray} (h : A.toList = B.toList) : A = B := WideShapes.bytes_inj (by rw [← ByteArray.toList_eq, ← ByteArray.toList_eq, h])
/-- strings of the same bytes, and of others -/
theorem str_eq {l m : List Int} (h : l = m) : ((str l).toList == (str m).toList) = true := by rw [h]; simp
theorem str_ne {l m : List Int} (hl : InB l) (hm : InB m) (h : l ≠ m) : ((str l).toList == (str m).toList) = false := by
  rw [beq_eq_false_iff_ne]
  exact fun e => h (str_inj hl hm (toList_inj e))
theorem box_at {w w' : World} {C : Array Value} {t : TypeId} (hb : Below (w.alloc (.cells C t)).heap.size (w.alloc (.cells C t)) w') (i : Nat) : w'.cell? ⟨w.heap.size, i, none⟩ = C[i]? := by
  rw [hb.cell (by simp)]; exact (cells_at (heap_new _ _) i).1
end Go.Proofs.Ytgdoagmnhmfjkaa
