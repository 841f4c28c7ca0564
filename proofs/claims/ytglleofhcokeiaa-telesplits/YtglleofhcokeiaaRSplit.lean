/- The telegrams of a stream: the document's Split. -/
import Derived.Test.YtglleofhcokeiaaSplit
import Derived.Test.YtglleofhcokeiaaRDec
namespace Go.Proofs.Ytglleofhcokeiaa
open Go.ChangeShapes Go.WideShapes Go.ChangeAt Go.RowKit

structure RSplIn (w : World) (l : List Int) (vf va vn : Value) (wr : World) : Prop where
  mk :: (ex : ∃ (p : Nat) (ts : List Tl) (k : Nat), p ≤ l.length ∧ ts.length + k ≤ p ∧ va = .int .i64 p ∧ Ot wr w.heap.size vf ts ∧ vn = .int .i64 k ∧ spl l = (ts ++ (spl (l.drop p)).1, (spl (l.drop p)).2.1, k + (spl (l.drop p)).2.2) ∧ Below w.heap.size w wr)

set_option maxHeartbeats 4000000 in
theorem rsplit_any {w : World} {v : Value} {l : List Int} (hs : Bs w v l) (hcp : Cp v) (hr : InB l) (hm : l.length ≤ 10000) :
    Calls Try.prog 17 #[v] w fun e w' => ∃ vf p, e = .returned (.tuple #[vf, .int .i64 (p : Nat), .int .i64 ((spl l).2.2 : Nat)]) ∧ p ≤ l.length ∧ l.drop p = (spl l).2.1 ∧ Ot w' w.heap.size vf (spl l).1 ∧ Below w.heap.size w w' := by
  obtain ⟨a, cap, rfl⟩ := hs.form
  obtain ⟨_, _, _, hv, hn⟩ := hcp
  simp only [Value.slice.injEq] at hv
  obtain ⟨rfl, rfl, rfl⟩ := hv
  have Hs := hide hs
  have Hr := hide hr
  obtain ⟨n, hnn⟩ : ∃ n, l.length = n := ⟨_, rfl⟩
  have Hn := hide hnn
  rw [hnn] at hm hn ⊢
  clear hs hr hnn
  have i3 : (n : Int) ≤ 10000 := by omega
  have i4 : (n : Int) ≤ (cap : Int) := by omega
  go_enter Try.func17, Try.ntmps17
  go_wp2_with fail
  go_loopw [5, 6, 7] (fun vf va vn wr => RSplIn w l vf va vn wr) (fun _ va _ _ => n - (intOf va).toNat)
  case atStart => exact ⟨0, [], 0, by omega, by simp, rfl, Ot.none _ _, rfl, by simp, Below.refl _ _⟩
  case round =>
    obtain ⟨p, ts, k, hp, hle, rfl, hot, rfl, hsp, hb⟩ := hrel.ex
    clear hrel
    rw [Hn.out] at hp
    have j0 : (0 : Int) ≤ (p : Int) := by omega
    have j1 : (p : Int) ≤ (n : Int) := by omega
    have j2 : (k : Int) ≤ 10000 := by omega
    have j3 : (0 : Int) ≤ (k : Int) := by omega
    by_cases hlt : p + 12 ≤ n
    · have hlt' : (p : Int) + 12 ≤ (n : Int) := by omega
      have hne : ¬ cap = p := by omega
      have hlm : 12 ≤ (l.drop p).length := by rw [List.length_drop, Hn.out]; omega
      rcases Hs.out with ⟨h1, h2⟩ | ⟨x, c, h1, hc⟩
      · have := Hn.out; rw [h2] at this; simp at this; omega
      simp only [Value.slice.injEq] at h1
      obtain ⟨rfl, _, rfl⟩ := h1
      obtain ⟨b, off, spot⟩ := x
      have hspot : spot = none := by simpa [Addr.add] using World.cell?_spot (hc 0 (by rw [Hn.out]; omega))
      subst hspot
      have hbs2 : Bs w (.slice (some ⟨b, off + p, none⟩) (n - p) (cap - p)) (l.drop p) := bs_drop Hs.out p _ (by rw [Hn.out])
      have K15 := hide (fun W (hW : Below w.heap.size w W) => rdecode_any (bs_take (hbs2.keep hW) 12 hlm) ⟨_, _, _, rfl, by omega⟩ (in_take (in_drop Hr.out p) 12))
      have Hhit := hide (spl_hit hlm)
      have Hmiss := hide (spl_miss hlm)
      rw [List.drop_drop] at Hhit Hmiss
      generalize dcode ((l.drop p).take 12) = z at *
      generalize dtele ((l.drop p).take 12) = t at *
      obtain ⟨tk, td, tss, ta, tb⟩ := t
      unfold tv at K15
      have Hsp := hide hsp
      have Hle := hide hle
      clear hc hsp hle hbs2 hlm
      by_cases hz0 : z = 0
      · subst hz0
        have Hhit' := hide (Hhit.out rfl)
        clear Hhit Hmiss
        go_wp2_with (first
          | (go_at_call 15; refine (K15.out _ hb).mono ?_; rintro e w1 ⟨rfl, hb1⟩; have hb01 := hb.trans (hb1.mono hb.size))
          | (at_builtin; refine wpList_appt ((hb01.alloc hb01.size _).alloc (hb01.alloc hb01.size _).size _) (by rfl) _ _ rfl _ _ rfl rfl ts [⟨tk, td, tss, ta, tb⟩] (hot.keep ((hb1.alloc hb1.size _).alloc (hb1.alloc hb1.size _).size _)) (Rt.one _ ⟨tk, td, tss, ta, tb⟩ _ (by simp)) (by simp; have := Hle.out; omega) ?_; intro vf2 w2 hot2 hb2; refine Hid.out ?_))
        refine hide ?_
        go_wp2_with fail
        go_roundw
        case rel =>
          refine ⟨p + 12, ts ++ [⟨tk, td, tss, ta, tb⟩], k, by rw [Hn.out]; omega, by simp; have := Hle.out; omega, by go_num, hot2, rfl, ?_, hb2⟩
          rw [Hsp.out, Hhit'.out]
          simp
        case measure => simp [intOf]; omega
      · have Hmiss' := hide (Hmiss.out hz0)
        clear Hhit Hmiss
        go_wp2_with (go_at_call 15; refine (K15.out _ hb).mono ?_; rintro e w1 ⟨rfl, hb1⟩; have hb01 := hb.trans (hb1.mono hb.size))
        go_roundw
        case rel =>
          refine ⟨p + 1, ts, k + 1, by rw [Hn.out]; omega, by have := Hle.out; omega, by go_num, hot.keep (hb1.alloc hb1.size _), by go_num, ?_, hb01.alloc hb01.size _⟩
          rw [Hsp.out, Hmiss'.out]
          simp
          omega
        case measure => simp [intOf]; omega
    · have hlt' : ¬ (p : Int) + 12 ≤ (n : Int) := by omega
      have Hsp := hide hsp
      have Hsh := hide (spl_short (l := l.drop p) (by rw [List.length_drop, Hn.out]; omega))
      clear hsp
      go_wp2_with fail
      rw [Hsh.out] at Hsp
      have e1 : (spl l).1 = ts := by rw [Hsp.out]; simp
      have e2 : (spl l).2.1 = l.drop p := by rw [Hsp.out]
      have e3 : (spl l).2.2 = k := by rw [Hsp.out]; simp
      exact bodyPost_ret (v := .tuple #[_, .int .i64 p, .int .i64 k]) (by simp [results, Try.results17, go_sem]; rfl) rfl ⟨_, p, by rw [e3], by omega, e2.symm, by rw [e1]; exact hot, hb⟩

end Go.Proofs.Ytglleofhcokeiaa
