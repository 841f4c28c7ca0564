/- The telegrams of a stream: the program's Split. -/
import Derived.Test.YtapbjfllcjfpaaaTls
namespace Go.Proofs.Ytapbjfllcjfpaaa
open Go.ChangeShapes Go.WideShapes Go.ChangeAt Go.RowKit


/-- the telegrams of a stream, what is left, how many bytes were gone by -/
def spl (l : List Int) : List Tl × List Int × Nat :=
  if 12 ≤ l.length then
    if dcode (l.take 12) = 0 then (dtele (l.take 12) :: (spl (l.drop 12)).1, (spl (l.drop 12)).2.1, (spl (l.drop 12)).2.2)
    else ((spl (l.drop 1)).1, (spl (l.drop 1)).2.1, (spl (l.drop 1)).2.2 + 1)
  else ([], l, 0)
termination_by l.length
decreasing_by all_goals (simp; omega)

theorem spl_short {l : List Int} (h : l.length < 12) : spl l = ([], l, 0) := by rw [spl, if_neg (by omega)]
theorem spl_hit {l : List Int} (h : 12 ≤ l.length) (h0 : dcode (l.take 12) = 0) : spl l = (dtele (l.take 12) :: (spl (l.drop 12)).1, (spl (l.drop 12)).2.1, (spl (l.drop 12)).2.2) := by
  rw [spl, if_pos h, if_pos h0]
theorem spl_miss {l : List Int} (h : 12 ≤ l.length) (h0 : dcode (l.take 12) ≠ 0) : spl l = ((spl (l.drop 1)).1, (spl (l.drop 1)).2.1, (spl (l.drop 1)).2.2 + 1) := by
  rw [spl, if_pos h, if_neg h0]

theorem in_drop {l : List Int} (h : InB l) (k : Nat) : InB (l.drop k) := fun z hz => h z (List.mem_of_mem_drop hz)
theorem bs_drop {w : World} {b off len cap cap' : Nat} {l : List Int} (h : Bs w (.slice (some ⟨b, off, none⟩) len cap) l) (k n : Nat) (hn : n = l.length - k) : Bs w (.slice (some ⟨b, off + k, none⟩) n cap') (l.drop k) := by
  rcases h with ⟨h, _⟩ | ⟨x, c, h, hc⟩
  · cases h
  · simp only [Value.slice.injEq, Option.some.injEq] at h
    obtain ⟨rfl, _⟩ := h
    refine .inr ⟨_, cap', by rw [hn, List.length_drop], fun i hi => ?_⟩
    rw [List.length_drop] at hi
    have := hc (k + i) (by omega)
    rw [add_plain] at this ⊢
    rw [Nat.add_assoc, this, List.getElem?_drop]

theorem bs_drop_if {w : World} {b off cap n : Nat} {m : List Int} (h : Bs w (.slice (some ⟨b, off, none⟩) m.length cap) m) (hn : m.length = n) (hc : n ≤ cap) (k : Nat) (hk : k ≤ n) :
    Bs w (.slice (if cap = k then some ⟨b, off, none⟩ else some ⟨b, off + k, none⟩) (n - k) (cap - k)) (m.drop k) := by
  by_cases he : cap = k
  · rw [if_pos he]
    have e : m.drop k = [] := List.drop_eq_nil_of_le (by omega)
    rw [e]
    refine .inr ⟨_, cap - k, by rw [show n - k = 0 by omega]; rfl, fun i hi => by simp at hi⟩
  · rw [if_neg he]
    exact bs_drop h k _ (by omega)

def lenOf : Value → Nat | .slice _ n _ => n | _ => 0

structure SplIn (w : World) (l : List Int) (vb vf vn : Value) (wr : World) : Prop where
  mk :: (ex : ∃ (m : List Int) (ts : List Tl) (k : Nat), Bs w vb m ∧ Cp vb ∧ InB m ∧ m.length + ts.length + k ≤ l.length ∧ Ot wr w.heap.size vf ts ∧ vn = .int .i64 k ∧ spl l = (ts ++ (spl m).1, (spl m).2.1, k + (spl m).2.2) ∧ Below w.heap.size w wr)


set_option maxHeartbeats 4000000 in
theorem split_any {w : World} {v : Value} {l : List Int} (hs : Bs w v l) (hcp : Cp v) (hr : InB l) (hm : l.length ≤ 10000) :
    Calls Try.prog 6 #[v] w fun e w' => ∃ vf vl, e = .returned (.tuple #[vf, vl, .int .i64 ((spl l).2.2 : Nat)]) ∧ Ot w' w.heap.size vf (spl l).1 ∧ Ow w' w.heap.size vl (spl l).2.1 ∧ Below w.heap.size w w' := by
  have Hm := hide hm
  have Hs := hide hs
  have Hc := hide hcp
  have Hr := hide hr
  clear hm hs hcp hr
  go_enter Try.func6, Try.ntmps6
  go_wp2_with fail
  go_loopw [0, 5, 6] (fun vb vf vn wr => SplIn w l vb vf vn wr) (fun vb _ _ _ => lenOf vb)
  case atStart => exact ⟨l, [], 0, Hs.out, Hc.out, Hr.out, by simp, Ot.none _ _, rfl, by simp, Below.refl _ _⟩
  case round =>
    obtain ⟨m, ts, k, hbs, hcp, hin, hle, hot, rfl, hsp, hb⟩ := hrel.ex
    clear hrel
    by_cases hlt : 12 ≤ m.length
    · rcases hbs with ⟨rfl, rfl⟩ | ⟨x, cap, rfl, hc⟩
      · simp at hlt
      obtain ⟨b, off, spot⟩ := x
      have hspot : spot = none := by simpa [Addr.add] using World.cell?_spot (hc 0 (by omega))
      subst hspot
      have hbs : Bs w (.slice (some ⟨b, off, none⟩) m.length cap) m := .inr ⟨_, _, rfl, hc⟩
      obtain ⟨_, _, _, hv, hn⟩ := hcp
      simp only [Value.slice.injEq] at hv
      obtain ⟨rfl, rfl, rfl⟩ := hv
      have K13 := hide (fun W (hW : Below w.heap.size w W) => decode_any (bs_take (hbs.keep hW) 12 hlt) ⟨_, _, _, rfl, by omega⟩ (in_take hin 12))
      have Hhit := hide (spl_hit (l := m) hlt)
      have Hmiss := hide (spl_miss (l := m) hlt)
      generalize hz : dcode (m.take 12) = z at *
      generalize ht : dtele (m.take 12) = t at *
      obtain ⟨tk, td, tss, ta, tb⟩ := t
      unfold tv at K13
      have Hle := hide hle
      have Hsp := hide hsp
      have Hbs := hide hbs
      have Hin := hide hin
      have Hml : Hid (m.length ≤ 10000) := hide (by have := Hm.out; omega)
      obtain ⟨n, hnn⟩ : ∃ n, m.length = n := ⟨_, rfl⟩
      have Hn := hide hnn
      rw [hnn] at hlt hn ⊢
      have i0 : (12 : Int) ≤ (n : Int) := by omega
      have i1 : (n : Int) ≤ (cap : Int) := by omega
      have i2 : (12 : Int) ≤ (cap : Int) := by omega
      have i3 : (n : Int) ≤ 10000 := by have := Hml.out; omega
      have i4 : (k : Int) ≤ 10000 := by have := Hle.out; have := Hm.out; omega
      have i5 : (0 : Int) ≤ (k : Int) := by omega
      clear hc hz ht hle hsp hbs hin hnn
      by_cases hz0 : z = 0
      · subst hz0
        have Hhit' := hide (Hhit.out rfl)
        clear Hhit Hmiss
        go_wp2_with (first
          | (go_at_call 11; refine (K13.out _ hb).mono ?_; rintro e w1 ⟨rfl, hb1⟩; have hb01 := hb.trans (hb1.mono hb.size))
          | (at_builtin; refine wpList_appt ((hb01.alloc hb01.size _).alloc (hb01.alloc hb01.size _).size _) (by rfl) _ _ rfl _ _ rfl rfl ts [⟨tk, td, tss, ta, tb⟩] (hot.keep ((hb1.alloc hb1.size _).alloc (hb1.alloc hb1.size _).size _)) (Rt.one _ ⟨tk, td, tss, ta, tb⟩ _ (by simp)) (by simp; have := Hle.out; have := Hm.out; omega) ?_; intro vf2 w2 hot2 hb2; refine Hid.out ?_))
        refine hide ?_
        go_wp2_with fail
        go_roundw
        case rel =>
          refine ⟨m.drop 12, ts ++ [⟨tk, td, tss, ta, tb⟩], k, bs_drop_if Hbs.out Hn.out hn 12 hlt, ⟨_, _, _, rfl, by omega⟩, in_drop Hin.out 12, ?_, hot2, rfl, ?_, hb2⟩
          · simp only [List.length_drop, List.length_append, List.length_cons, List.length_nil]
            have := Hle.out
            have := Hn.out
            omega
          · rw [Hsp.out, Hhit'.out]
            simp
        case measure => simp [lenOf]; omega
      · have Hmiss' := hide (Hmiss.out hz0)
        clear Hhit Hmiss
        go_wp2_with (first | (go_at_call 11; refine (K13.out _ hb).mono ?_; rintro e w1 ⟨rfl, hb1⟩; have hb01 := hb.trans (hb1.mono hb.size)))
        go_roundw
        case rel =>
          refine ⟨m.drop 1, ts, k + 1, bs_drop Hbs.out 1 _ (by rw [Hn.out]), ⟨_, _, _, rfl, by omega⟩, in_drop Hin.out 1, ?_, hot.keep (hb1.alloc hb1.size _), by go_num, ?_, hb01.alloc hb01.size _⟩
          · simp only [List.length_drop]
            have := Hle.out
            have := Hn.out
            omega
          · rw [Hsp.out, Hmiss'.out]
            simp
            omega
        case measure => simp [lenOf]; omega
    · have K27 := hide (fun W (hW : Below w.heap.size w W) => clone_any (hbs.keep hW) (by omega))
      have Hsp := hide hsp
      have Hsh := hide (spl_short (l := m) (by omega))
      obtain ⟨a, cap, rfl⟩ := hbs.form
      obtain ⟨n, hnn⟩ : ∃ n, m.length = n := ⟨_, rfl⟩
      rw [hnn] at hlt K27 ⊢
      have i0 : (n : Int) < 12 := by omega
      clear hbs hcp hin hle hsp hnn
      go_wp2_with (go_at_call 12; refine (K27.out _ hb).mono ?_; rintro e w1 ⟨v1, rfl, hown1, hb1⟩)
      rw [Hsh.out] at Hsp
      have e1 : (spl l).1 = ts := by rw [Hsp.out]; simp
      have e2 : (spl l).2.1 = m := by rw [Hsp.out]
      have e3 : (spl l).2.2 = k := by rw [Hsp.out]; simp
      exact bodyPost_ret (v := .tuple #[_, v1, .int .i64 k]) (by simp [results, Try.results6, go_sem]; rfl) rfl ⟨_, _, by rw [e3], by rw [e1]; exact hot.keep hb1, by rw [e2]; exact Ow.mono hown1 hb.size, hb.trans (hb1.mono hb.size)⟩

end Go.Proofs.Ytapbjfllcjfpaaa
