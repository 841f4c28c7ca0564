/- The document's Take, where it refuses -/
import Derived.Test.YtmbgcbbpkbaajaaRef
namespace Go.Proofs.Ytmbgcbbpkbaajaa
open Go.RowKit

theorem cell_box (w : World) (C : Array Value) (t : TypeId) (fr : Nat × Nat) (o : Nat) : (w.alloc (.cells C t fr)).cell? ⟨w.heap.size, o, none⟩ = C[o]? := by
  have e : (w.alloc (.cells C t fr)).heap[w.heap.size]? = some (.cells C t fr) := by
    show (w.heap.push (.cells C t fr))[w.heap.size]? = _
    simp
  unfold World.cell?
  simp only [e]
  rfl

/-- a box of the call's own, kept through what is new -/
theorem box_keep {w w' : World} {C : Array Value} {t : TypeId} (hb : Below (w.alloc (.cells C t)).heap.size (w.alloc (.cells C t)) w') (i : Nat) : w'.cell? ⟨w.heap.size, i, none⟩ = C[i]? := by
  rw [hb.cell (by simp)]; exact cell_box _ _ _ _ _

set_option maxHeartbeats 2000000 in
/-- refused: too long -/
theorem rtake_long (win nx s : Int) (ac aq : Option Addr) (nc cc nq cq : Nat) (data : ByteArray) (w : World) (h : 256 < data.size) :
    Calls Try.prog 13 #[.agg #[.int .i64 win, .int .u16 nx, .slice ac nc cc, .slice aq nq cq], .int .u16 s, .string data] w fun e w' => e = .returned (.tuple #[.agg #[.int .i64 win, .int .u16 nx, .slice ac nc cc, .slice aq nq cq], .int .i64 3]) ∧ Below w.heap.size w w' := by
  have hi : (256 : Int) < (data.size : Int) := by omega
  go_enter Try.func13, Try.ntmps13
  go_wp2_with fail
  exact bodyPost_ret (v := .tuple #[.agg #[.int .i64 win, .int .u16 nx, .slice ac nc cc, .slice aq nq cq], .int .i64 3]) (by simp [results, Try.results13, go_sem]) rfl ⟨rfl, ((Below.refl _ _).alloc (Nat.le_refl _) _).alloc (by simp) _⟩

set_option maxHeartbeats 2000000 in
/-- refused: far, or twice, or no room -/
theorem rtake_no (win nx s d code : Int) (came : List Pc) (ac aq : Option Addr) (cc nq cq : Nat) (data : ByteArray) (w : World) (h : data.size ≤ 256) (hw : 1 ≤ win ∧ win ≤ 64) (hd : -32768 ≤ d ∧ d ≤ 32767)
    (k16 : ∀ W, Calls Try.prog 21 #[.int .u16 nx, .int .u16 s] W fun e w' => e = .returned (.int .i64 d) ∧ w' = W) (hc : piecesE.Rd w (.slice ac came.length cc) came) (hl : came.length ≤ 1000) (hnq : nq ≤ 1000)
    (hcode : ((d < -win ∨ win ≤ d) ∧ code = 40) ∨ (-win ≤ d ∧ d < win ∧ (d < 0 ∨ 0 ≤ idx came s) ∧ code = 2) ∨ (0 ≤ d ∧ d < win ∧ idx came s < 0 ∧ win ≤ (nq : Int) ∧ code = 40)) :
    Calls Try.prog 13 #[.agg #[.int .i64 win, .int .u16 nx, .slice ac came.length cc, .slice aq nq cq], .int .u16 s, .string data] w fun e w' => e = .returned (.tuple #[.agg #[.int .i64 win, .int .u16 nx, .slice ac came.length cc, .slice aq nq cq], .int .i64 code]) ∧ Below w.heap.size w w' := by
  have hi : ¬ (256 : Int) < (data.size : Int) := by omega
  have hB : ∀ o o', Below w.heap.size w ((w.alloc o).alloc o') := fun o o' => ((Below.refl _ _).alloc (Nat.le_refl _) o).alloc (by simp) o'
  have K17 := hide (fun o o' => rat_any (hc.keep (hB o o')) s (by omega))
  have K16 := hide k16
  obtain ⟨w0, w1⟩ := hw
  obtain ⟨d0, d1⟩ := hd
  have i0 : (nq : Int) ≤ 1000 := by omega
  clear hc h hl hnq k16
  generalize idx came s = x at *
  generalize came.length = n at *
  rcases hcode with ⟨h1, rfl⟩ | ⟨h1, h2, h3, rfl⟩ | ⟨h1, h2, h3, h4, rfl⟩
  · by_cases h2 : d < -win
    · go_enter Try.func13, Try.ntmps13
      go_wp2_with (go_at_call 21; refine (K16.out _).mono ?_; rintro e w' ⟨rfl, rfl⟩)
      exact bodyPost_ret (v := .tuple #[.agg #[.int .i64 win, .int .u16 nx, .slice ac n cc, .slice aq nq cq], .int .i64 40]) (by simp [results, Try.results13, go_sem]) rfl ⟨rfl, hB _ _⟩
    · have h3 : win ≤ d := by omega
      go_enter Try.func13, Try.ntmps13
      go_wp2_with (go_at_call 21; refine (K16.out _).mono ?_; rintro e w' ⟨rfl, rfl⟩)
      exact bodyPost_ret (v := .tuple #[.agg #[.int .i64 win, .int .u16 nx, .slice ac n cc, .slice aq nq cq], .int .i64 40]) (by simp [results, Try.results13, go_sem]) rfl ⟨rfl, hB _ _⟩
  · by_cases h4 : d < 0
    · go_enter Try.func13, Try.ntmps13
      go_wp2_with (go_at_call 21; refine (K16.out _).mono ?_; rintro e w' ⟨rfl, rfl⟩)
      exact bodyPost_ret (v := .tuple #[.agg #[.int .i64 win, .int .u16 nx, .slice ac n cc, .slice aq nq cq], .int .i64 2]) (by simp [results, Try.results13, go_sem]) rfl ⟨rfl, hB _ _⟩
    · have h5 : 0 ≤ x := by omega
      go_enter Try.func13, Try.ntmps13
      go_wp2_with (first | (go_at_call 21; refine (K16.out _).mono ?_; rintro e w' ⟨rfl, rfl⟩) | (go_at_call 22; refine (K17.out _ _).mono ?_; rintro e w' ⟨rfl, rfl⟩))
      exact bodyPost_ret (v := .tuple #[.agg #[.int .i64 win, .int .u16 nx, .slice ac n cc, .slice aq nq cq], .int .i64 2]) (by simp [results, Try.results13, go_sem]) rfl ⟨rfl, hB _ _⟩
  · go_enter Try.func13, Try.ntmps13
    go_wp2_with (first | (go_at_call 21; refine (K16.out _).mono ?_; rintro e w' ⟨rfl, rfl⟩) | (go_at_call 22; refine (K17.out _ _).mono ?_; rintro e w' ⟨rfl, rfl⟩))
    exact bodyPost_ret (v := .tuple #[.agg #[.int .i64 win, .int .u16 nx, .slice ac n cc, .slice aq nq cq], .int .i64 40]) (by simp [results, Try.results13, go_sem]) rfl ⟨rfl, hB _ _⟩
end Go.Proofs.Ytmbgcbbpkbaajaa
