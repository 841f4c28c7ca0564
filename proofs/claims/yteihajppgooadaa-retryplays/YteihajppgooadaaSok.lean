/- What stays of a sender's numbers through its calls; awake. -/
import Derived.Test.YteihajppgooadaaStick
import Derived.Test.YteihajppgooadaaSto
import Derived.Test.YteihajppgooadaaSopen
import Derived.Lib.SlBytesConst
namespace Go.Proofs.Yteihajppgooadaa
open Go.RowKit
set_option linter.unusedVariables false

/-- the numbers are in order, the data short -/
structure Sd.Fit (S : Sd) : Prop where
  ok : S.Ok
  short : ∀ p ∈ S.ps, p.d.length ≤ 256

theorem Sd.Fit.new (win pause times first : Int) : (Sd.new win pause times first).Fit := ⟨Sd.new_ok _ _ _ _, (fun p h => by cases h)⟩
theorem Sd.Ok.lo_le {S : Sd} (h : S.Ok) (p : Pc) (hp : p ∈ S.ps) : S.lo ≤ p.n := by
  unfold Sd.lo
  have ho := h.ord
  cases hs : S.ps with
  | nil => rw [hs] at hp; cases hp
  | cons q qs =>
    rw [hs] at hp ho
    simp only
    rcases List.mem_cons.1 hp with rfl | hp
    · omega
    · have := (List.pairwise_cons.1 ho).1 p hp; omega
theorem Sd.Fit.put {S : Sd} (h : S.Fit) (hl : S.Lim) (v : Value) (p : Pc) (hn : p.n = S.count) (hs : p.sent = 0) (ha : p.ago = 0) (hd : p.d.length ≤ 256) (hw : S.count - S.lo + 1 ≤ S.win) : (S.put v p).Fit := by
  refine ⟨⟨?_, ?_, ?_⟩, ?_⟩
  · show (S.ps ++ [p]).Pairwise _
    rw [List.pairwise_append]
    refine ⟨h.ok.ord, by simp, fun a ha b hb => ?_⟩
    have e : b = p := by simpa using hb
    rw [e, hn]
    exact (h.ok.num a ha).2
  · intro q hq
    show S.count + 1 - S.win ≤ q.n ∧ q.n < S.count + 1
    rcases List.mem_append.1 hq with hq | hq
    · have := h.ok.lo_le q hq
      have := h.ok.num q hq
      omega
    · have e : q = p := by simpa using hq
      have := hl.win
      rw [e, hn]; omega
  · intro q hq
    show 0 ≤ q.sent ∧ q.sent ≤ S.times ∧ 0 ≤ q.ago ∧ q.ago < S.pause
    rcases List.mem_append.1 hq with hq | hq
    · exact h.ok.tim q hq
    · have e : q = p := by simpa using hq
      have := hl.times
      have := hl.pause
      rw [e, hs, ha]; omega
  · intro q hq
    rcases List.mem_append.1 hq with hq | hq
    · exact h.short q hq
    · have e : q = p := by simpa using hq
      rw [e]; exact hd
theorem cut_sub (ps : List Pc) (i j : Nat) (hij : i ≤ j) : (ps.take i ++ ps.drop j).Sublist ps := by
  have : (ps.take i ++ ps.drop j).Sublist (ps.take i ++ ps.drop i) := List.Sublist.append_left (by
    obtain ⟨k, rfl⟩ : ∃ k, j = i + k := ⟨j - i, by omega⟩
    rw [← List.drop_drop]
    exact List.drop_sublist _ _) _
  rwa [List.take_append_drop] at this
theorem Sd.Fit.cut {S : Sd} (h : S.Fit) (v : Value) (i j : Nat) (hij : i ≤ j) : (S.cut v i j).Fit := by
  have hs := cut_sub S.ps i j hij
  exact ⟨⟨h.ok.ord.sublist hs, fun p hp => h.ok.num p (hs.subset hp), fun p hp => h.ok.tim p (hs.subset hp)⟩, fun p hp => h.short p (hs.subset hp)⟩
theorem tk_n (pause : Int) (p : Pc) : (tk pause p).n = p.n ∧ (tk pause p).d = p.d ∧ (tk pause p).v = p.v := by
  unfold tk
  split <;> exact ⟨rfl, rfl, rfl⟩
theorem Sd.Fit.tick {S : Sd} (h : S.Fit) (hl : S.Lim) (hd : S.dies = false) : S.tick.Fit := by
  refine ⟨⟨?_, ?_, ?_⟩, ?_⟩
  · show (S.ps.map (tk S.pause)).Pairwise _
    rw [List.pairwise_map]
    exact h.ok.ord.imp (fun {a b} hab => by rw [(tk_n S.pause a).1, (tk_n S.pause b).1]; exact hab)
  · intro q hq
    obtain ⟨p, hp, rfl⟩ := List.mem_map.1 hq
    rw [(tk_n S.pause p).1]
    exact h.ok.num p hp
  · intro q hq
    obtain ⟨p, hp, rfl⟩ := List.mem_map.1 hq
    have ht := h.ok.tim p hp
    have hp1 := hl.pause
    show 0 ≤ (tk S.pause p).sent ∧ (tk S.pause p).sent ≤ S.times ∧ 0 ≤ (tk S.pause p).ago ∧ (tk S.pause p).ago < S.pause
    unfold tk
    by_cases hdue : due S.pause p = true
    · have he : ends S p = false := by
        have := List.any_eq_false.1 hd p hp
        simpa using this
      have : p.sent ≠ S.times := by
        unfold ends at he
        rw [hdue] at he
        simpa using he
      rw [if_pos hdue]
      simp only
      omega
    · rw [if_neg hdue]
      have : ¬ (p.sent = 0 ∨ p.ago + 1 = S.pause) := by
        intro hh
        exact hdue (decide_eq_true hh)
      simp only
      omega
  · intro q hq
    obtain ⟨p, hp, rfl⟩ := List.mem_map.1 hq
    rw [(tk_n S.pause p).2.1]
    exact h.short p hp

theorem tick_ok {w : World} {g B : Nat} {S : Sd} (H : Snd w g B S) (hF : S.Fit) (hd : S.dead = false) (hdie : S.dies = false) : Calls Try.prog 14 #[.pointer (some ⟨g, 0, none⟩)] w fun e w' => Chg g S.v w w' ∧ TickOk w g B S e w' := by
  refine (tick_any H hF.ok hF.short hd).mono ?_
  rintro e w' ⟨h1, h2⟩
  rcases h2 with h2 | h2
  · exact ⟨h1, h2.2⟩
  · rw [hdie] at h2; cases h2.1
theorem tick_die {w : World} {g B : Nat} {S : Sd} (H : Snd w g B S) (hF : S.Fit) (hd : S.dead = false) (hdie : S.dies = true) : Calls Try.prog 14 #[.pointer (some ⟨g, 0, none⟩)] w fun e w' => Chg g S.v w w' ∧ TickNo g B S e w' := by
  refine (tick_any H hF.ok hF.short hd).mono ?_
  rintro e w' ⟨h1, h2⟩
  rcases h2 with h2 | h2
  · rw [hdie] at h2; cases h2.1
  · exact ⟨h1, h2.2⟩

theorem Snd.below {w w' a : World} {g B : Nat} {S : Sd} (H : Snd w g B S) (hb : Below B a w) (x : Chg g S.v w w') : Below B a w' := x.below hb (Nat.le_of_lt (Nat.lt_of_le_of_lt H.base (heap_lt H.box))) H.base (fun k hk => H.lies.row.ge k hk)
theorem Snd.mono {w : World} {g B B' : Nat} {S : Sd} (H : Snd w g B S) (hB : B' ≤ B) : Snd w g B' S := ⟨H.lim, Nat.le_trans hB H.base, H.box, ⟨H.lies.row.mono hB, H.lies.dat⟩⟩

theorem bytes_new (w : World) (C : Array Value) (xs : List Int) (hC : C.toList = bytesE.fl xs) (fr : Nat × Nat) (g n c : Nat) (hg : g = w.heap.size) (hn : n = xs.length) : bytesE.Rd (w.alloc (.cells C 5 fr)) (.slice (some ⟨g, 0, none⟩) n c) xs := by
  subst hg hn
  refine .inr ⟨_, c, rfl, fun i hi => ?_⟩
  rw [addr_plain, Nat.zero_add]
  have e : (w.alloc (.cells C 5 fr)).heap[w.heap.size]? = some (.cells C 5 fr) := by
    show (w.heap.push (.cells C 5 fr))[w.heap.size]? = _
    simp
  unfold World.cell?
  simp only [e]
  show C[i]? = _
  rw [← hC]; simp

/-- one piece that was never sent -/
theorem one_outs {S : Sd} {p : Pc} (hp : S.ps = [p]) (hs : p.sent = 0) (ht : 1 ≤ S.times) : S.dies = false ∧ S.outs = [(sq S.first p.n, p.d)] := by
  have hd : due S.pause p = true := decide_eq_true (.inl hs)
  constructor
  · unfold Sd.dies
    rw [hp]
    simp [ends, hd, hs]
    omega
  · unfold Sd.outs
    rw [hp]
    simp [hd]
theorem map_one {os : List Ot} {s : Int} {d : List Int} (h : os.map (fun o => (o.s, o.d)) = [(s, d)]) : ∃ o, os = [o] ∧ o.s = s ∧ o.d = d := by
  match os, h with
  | [o], h => simp at h; exact ⟨o, rfl, h.1, h.2⟩
theorem out_at {w : World} {B : Nat} {v : Value} {os : List Ot} (h : outE.Own w B v os) (i : Nat) (o : Ot) (ho : os[i]? = some o) : ∃ b c, v = .slice (some ⟨b, 0, none⟩) os.length c ∧ w.cell? ⟨b, i * 2, none⟩ = some (.int .u16 o.s) ∧ w.cell? ⟨b, i * 2 + 1, none⟩ = some o.v := by
  have hi : i < os.length := (List.getElem?_eq_some_iff.1 ho).1
  rcases h.2 with ⟨_, h0⟩ | ⟨b, c, cur, h1, hrest⟩
  · omega
  · subst h1
    have hc : ∀ j, j < 2 → w.cell? ⟨b, i * 2 + j, none⟩ = (outE.enc o)[j]? := fun j hj => by
      obtain ⟨h1, _⟩ := El.Own.cell (E := outE) h (i * 2 + j) (by show i * 2 + j < os.length * 2; omega)
      rw [h1]
      exact outE.fl_at os i j o ho hj
    exact ⟨b, c, rfl, hc 0 (by omega), hc 1 (by omega)⟩

set_option maxRecDepth 100000 in
set_option maxHeartbeats 4000000 in
theorem awake2 (w : World) : Calls Try.prog 9 #[] w fun e w' => e = .returned (.bool true) ∧ Below w.heap.size w w' := by
  have kc := fun (w : World) (C : Array Value) (n c : Nat) => Lib.run_convert_bytes_const (P := Try.prog) w 36 5 C n c Try.underlying36 Try.underlying5
  go_enter Try.func9, Try.ntmps9
  go_upto_region 2 with (go_at_call 10; refine (snew_ok 2 3 2 9 _ (by unfold badSet; omega) (by omega)).mono ?_; rintro e w1 ⟨rfl, H1, B1, Z1⟩)
  obtain ⟨g, hg⟩ : ∃ g, w.heap.size = g := ⟨_, rfl⟩
  have HB1 := hide B1
  rw [hg] at H1 HB1 ⊢
  have hz1 : g ≤ w1.heap.size := by omega
  clear B1 Z1
  have bX : Below w1.heap.size w1 (w1.alloc (.cells #[.int .u8 120] 5 (1, 2))) := (Below.refl _ _).alloc (Nat.le_refl _) _
  have HBX := hide (HB1.out.trans (bX.mono hz1))
  have HX := hide (H1.keep bX)
  have K12 := hide (put_ok HX.out (Sd.Fit.new 2 3 2 9).ok (by have := bX.size; omega) rfl (l := [120]) (bytes_new w1 #[.int .u8 120] [120] rfl (1, 2) w1.heap.size 1 1 rfl rfl) (by decide) (by decide))
  rw [show sq (Sd.new 2 3 2 9).first (Sd.new 2 3 2 9).count = 9 from rfl] at K12
  clear bX H1
  go_upto_region 5 with (go_at_call 12; refine K12.out.mono ?_; rintro e w2 ⟨rfl, p, v2, pn, pd, ps, pa, H2, C2, V2, D2⟩)
  have F2 := hide ((Sd.Fit.new 2 3 2 9).put HX.out.lim v2 p pn ps pa (by rw [pd]; decide) (by decide))
  have HB2 := hide (HX.out.below HBX.out C2)
  obtain ⟨hdie, houts⟩ := one_outs (S := (Sd.new 2 3 2 9).put v2 p) (p := p) rfl ps (show (1 : Int) ≤ 2 by decide)
  rw [pd, pn] at houts
  rw [show sq ((Sd.new 2 3 2 9).put v2 p).first (Sd.new 2 3 2 9).count = 9 from rfl] at houts
  have K14 := hide (tick_ok H2 F2.out rfl hdie)
  have HS2 := hide H2
  have Hp : Hid (p.n = 0 ∧ p.sent = 0) := hide ⟨pn, ps⟩
  have Ho := hide houts
  have Hdie := hide hdie
  clear H2 C2 V2 D2 K12 HBX HX hdie houts pn pd ps pa HB1
  go_upto_region 6 with (go_at_call 14; refine K14.out.mono ?_; rintro e w3 ⟨C3, v3, os, rfl, H3, O3, E3, D3⟩)
  rw [Ho.out] at E3
  obtain ⟨o, rfl, o1, o2⟩ := map_one E3
  obtain ⟨b, c, rfl, d0, _⟩ := out_at O3 0 o rfl
  rw [o1] at d0
  simp only [Nat.zero_mul] at d0
  have F3 := hide (F2.out.tick HS2.out.lim Hdie.out)
  have HB3 := hide (HS2.out.below HB2.out C3)
  have HS3 := hide H3
  have q1 : (tk 3 p).n = 0 := by rw [(tk_n 3 p).1, Hp.out.1]
  have e8 : pixI 9 8 [tk 3 p] = -1 := by unfold pixI; rw [pix_none (fun j q hj hq => by
      obtain rfl : j = 0 := by simp at hj; omega
      have hq' : tk 3 p = q := by simpa using hq
      rw [← hq', q1]; decide), if_neg (Nat.lt_irrefl _)]
  have e9 : pix 9 9 [tk 3 p] = 0 := pix_at (p := tk 3 p) rfl (by rw [q1]; decide) (fun j q hj => by omega)
  have K17 := hide (ack_none HS3.out (show (1 : Nat) ≤ 1000 by decide) rfl 8 (by show pixI 9 8 [tk 3 p] < 0; rw [e8]; decide))
  have H9 := hide e9
  clear E3 o1 o2 O3 D3 C3 H3 K14 HS2 HB2 F2 q1 e8 e9 Ho Hdie Hp
  go_wp2_with fail
  refine K17.out.mono ?_
  rintro e w4 ⟨rfl, B4⟩
  have HS4 := hide (HS3.out.keep B4)
  have HB4 := hide (HB3.out.trans (B4.mono (Nat.le_of_lt (heap_lt HS3.out.box))))
  have K17' := hide (ack_ok HS4.out (show (1 : Nat) ≤ 1000 by decide) rfl 9 (by show pix 9 9 [tk 3 p] < 1; rw [H9.out]; decide))
  clear K17 B4 HS3 HB3
  go_wp2_with fail
  refine K17'.out.mono ?_
  rintro e w5 ⟨rfl, v5, H5, C5, O5⟩
  have HB5 := hide (HS4.out.below HB4.out C5)
  have HZ5 : Hid (g ≤ w5.heap.size) := hide (Nat.le_of_lt (heap_lt H5.box))
  have e5 : (((Sd.new 2 3 2 9).put v2 p).tick.cut v5 (pix 9 9 [tk 3 p]) (pix 9 9 [tk 3 p] + 1)).ps = [] := by
    show [tk 3 p].take (pix 9 9 [tk 3 p]) ++ [tk 3 p].drop (pix 9 9 [tk 3 p] + 1) = []
    rw [H9.out]; rfl
  have K23 := hide (open_any H5 (by show (((Sd.new 2 3 2 9).put v2 p).tick.cut v5 (pix 9 9 [tk 3 p]) (pix 9 9 [tk 3 p] + 1)).ps.length ≤ 1000; rw [e5]; decide))
  have en : Sd.nums (((Sd.new 2 3 2 9).put v2 p).tick.cut v5 (pix 9 9 [tk 3 p]) (pix 9 9 [tk 3 p] + 1)) = [] := by unfold Sd.nums; rw [e5]; rfl
  have En := hide en
  clear H5 C5 O5 K17' HS4 HB4 e5 en
  go_wp2_with fail
  refine K23.out.mono ?_
  rintro e w6 ⟨v6, rfl, O6, B6⟩
  have O6' : u16sE.Own w6 w5.heap.size v6 [] := by rw [← En.out]; exact O6
  obtain ⟨a6, c6, rfl⟩ := O6'.rd.form
  have HB6 := hide (HB5.out.trans (B6.mono HZ5.out))
  simp only [List.length_nil]
  clear O6 O6' B6 K23
  go_wp2_with fail
  go_ret
  rw [hg]
  exact ⟨rfl, HB6.out⟩
end Go.Proofs.Yteihajppgooadaa
