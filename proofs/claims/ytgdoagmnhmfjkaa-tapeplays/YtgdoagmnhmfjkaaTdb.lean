/- The document's written and Good. -/
import Derived.Test.YtgdoagmnhmfjkaaTda
namespace Go.Proofs.Ytgdoagmnhmfjkaa
open Go.ChangeShapes Go.WideShapes Go.ChangeAt Go.RowKit
set_option linter.unusedVariables false

/-- what written answers -/
def WrtR (ns : List Nt) (w : World) (e : Ending) (w' : World) : Prop := ((ns.all Nt.ok = true ∧ e = .returned (.tuple #[.string (str (ns.flatMap Nt.bts)), .bool true])) ∨ (ns.all Nt.ok = false ∧ e = .returned (.tuple #[.string ⟨#[]⟩, .bool false]))) ∧ Below w.heap.size w w'
set_option maxHeartbeats 2000000 in
theorem written_any {w : World} {a : Option Addr} {N c : Nat} {ns : List Nt} (h : ntE.Rd w (.slice a N c) ns) (hl : ns.length = N) (hN : N ≤ 10000) : Calls Try.prog 29 #[.slice a N c] w fun e w' => WrtR ns w e w' := by
  have H := hide h
  have Hl := hide hl
  have hs0 : (⟨#[]⟩ : ByteArray) = str [] := rfl
  clear h hl
  go_enter Try.func29, Try.ntmps29
  go_upto_region 3 with fail
  go_loopw [4, 8] (fun v i wr => Hid (∃ (j : Nat), j ≤ N ∧ i = .int .i64 j ∧ (∀ m ∈ ns.take j, m.ok = true) ∧ v = .string (str ((ns.take j).flatMap Nt.bts)) ∧ Below w.heap.size w wr)) (fun _ i _ => N - (intOf i).toNat)
  case atStart => exact hide ⟨0, Nat.zero_le _, rfl, by simp, rfl, Below.refl _ _⟩
  case round =>
    obtain ⟨j, hj, rfl, hok, rfl, hb⟩ := hrel.out
    have Hok := hide hok
    have HB := hide hb
    clear hrel hok
    by_cases hlt : j < N
    · obtain ⟨m, hm⟩ : ∃ m, ns[j]? = some m := ⟨_, List.getElem?_eq_getElem (by rw [Hl.out]; exact hlt)⟩
      obtain ⟨b, off, rfl, c0, c1, c2, c3⟩ := nt_at (H.out.keep hb) j m hm
      have Hm := hide hm
      have Ht : Hid (ns.take (j + 1) = ns.take j ++ [m]) := hide (by rw [List.take_add_one, hm]; rfl)
      have HC : Hid (∀ W, Below w.heap.size w W → W.cell? ⟨b, off + j * 4, none⟩ = some (.int .i64 m.kind) ∧ W.cell? ⟨b, off + j * 4 + 1, none⟩ = some (.int .i64 m.a) ∧ W.cell? ⟨b, off + j * 4 + 2, none⟩ = some (.int .i64 m.b) ∧ W.cell? ⟨b, off + j * 4 + 3, none⟩ = some (.int .i64 m.c)) := hide (fun W hW => by
        obtain ⟨b', off', e', c0, c1, c2, c3⟩ := nt_at (H.out.keep hW) j m hm
        simp only [Option.some.injEq, Addr.mk.injEq] at e'
        obtain ⟨rfl, rfl, _⟩ := e'
        exact ⟨c0, c1, c2, c3⟩)
      obtain ⟨k, x, y, z⟩ := m
      simp only at c0 c1 c2 c3 HC
      clear hm
      have j0 : (0 : Int) ≤ (j : Int) := by omega
      have j1 : (j : Int) < (N : Int) := by omega
      have K41 := hide (good_any k x y z)
      cases hk : (Nt.mk k x y z).ok with
      | true =>
        rw [hk] at K41
        have K42 := hide (fun W => bytes_any k x y z W hk)
        have Hsz : Hid (((str ((ns.take j).flatMap Nt.bts)).size : Int) ≤ 8388608 ∧ ((str (Nt.mk k x y z).bts).size : Int) ≤ 8388608) := hide (by
          rw [str_size, str_size]
          have h1 := flat_bts_len Hok.out
          have h2 := bts_len5 hk
          have h3 : (ns.take j).length ≤ 10000 := by rw [List.length_take]; omega
          omega)
        have Hsa := hide (str_app ((ns.take j).flatMap Nt.bts) (Nt.mk k x y z).bts)
        have Hk := hide hk
        clear hk
        go_upto_region 7 with (go_at_call 41; refine (K41.out _).mono ?_; rintro e w1 ⟨rfl, hb1⟩)
        have hb2 := HB.out.trans (hb1.mono HB.out.size)
        have HB2 := hide hb2
        clear c0 c1 c2 c3
        obtain ⟨c0, c1, c2, c3⟩ := HC.out _ hb2
        obtain ⟨s1, s2⟩ := Hsz.out
        have hsa := Hsa.out
        generalize str ((ns.take j).flatMap Nt.bts) = sA at *
        generalize hsB : str (Nt.mk k x y z).bts = sB at *
        have HsB := hide hsB
        clear hsB
        have hadd : ∀ W, (Op.stringOp .add sA sB).run Try.prog W = .ok (.string (sA ++ sB)) W := fun W => run_string_add _ _ _ s1 s2
        go_wp2_with (go_at_call 42; refine (K42.out _).mono ?_; rintro e w3 ⟨v, rfl, ho, hb3⟩; have hcv := conv_str ho.rd; rw [HsB.out] at hcv)
        go_roundw
        case rel =>
          refine hide ⟨j + 1, by omega, by go_num, by rw [Ht.out]; exact ok_more Hok.out Hk.out, ?_, HB2.out.trans (hb3.mono HB2.out.size)⟩
          rw [Ht.out, List.flatMap_append, List.flatMap_singleton, ← Hsa.out]
        case measure => simp [intOf]; omega
      | false =>
        rw [hk] at K41
        have Hk := hide hk
        clear hk
        go_wp2_with (go_at_call 41; refine (K41.out _).mono ?_; rintro e w1 ⟨rfl, hb1⟩)
        go_ret2
        exact ⟨.inr ⟨all_no ⟨_, List.mem_of_getElem? Hm.out, Hk.out⟩, rfl⟩, HB.out.trans (hb1.mono HB.out.size)⟩
    · have j1 : ¬ ((j : Int) < (N : Int)) := by omega
      have hta : ns.take j = ns := List.take_of_length_le (by rw [Hl.out]; omega)
      rw [hta] at Hok ⊢
      clear hta
      go_wp2_with fail
      go_ret2
      exact ⟨.inl ⟨all_ok Hok.out, rfl⟩, HB.out⟩

set_option maxRecDepth 100000 in
theorem rgood_any {l : List Int} {got : List Nt} {r : List Int} (hr : Rds l got r) (hin : InB l) (hl : l.length ≤ 65536) (O : ByteArray) (B : Int) (D : Bool) (w : World) : Calls Try.prog 30 #[.agg #[.string (str l), .string O, .int .i64 B, .bool D]] w fun e w' => e = .returned (.int .i64 (tot got : Int)) ∧ Below w.heap.size w w' := by
  have I1 := hide ((Its.nil w).box1 #[.string (str l), .string O, .int .i64 B, .bool D] 26)
  have Hr := hide hr
  have Hin := hide hin
  have Hl := hide hl
  clear hr hin hl
  go_enter Try.func30, Try.ntmps30
  go_upto_region 1 with fail
  generalize w.alloc (.cells #[.string (str l), .string O, .int .i64 B, .bool D] 26) = W1 at *
  obtain ⟨c0, c1, c2, c3, cf⟩ := Its.cells4 I1.out
  obtain ⟨w2, cap, hcv, hsl, hb2⟩ := conv_by W1 l Hin.out
  have KR := hide (rread_any hsl Hin.out (by have := Hl.out; omega))
  have HB := hide (I1.out.bel.trans (hb2.mono I1.out.bel.size))
  obtain ⟨n, hn⟩ : ∃ n, l.length = n := ⟨_, rfl⟩
  rw [hn] at hcv KR
  clear I1 hsl hb2 hn
  generalize str l = sl at *
  generalize W1.heap.size = g1 at *
  go_wp2_with (go_at_call 37; refine KR.out.mono ?_; rintro e W3 ⟨v, ns, r', rfl, hr, ho, hb⟩)
  go_ret
  obtain ⟨e1, e2⟩ := Hr.out.uniq hr
  rw [← e1]
  exact ⟨rfl, HB.out.trans (hb.mono HB.out.size)⟩
end Go.Proofs.Ytgdoagmnhmfjkaa
