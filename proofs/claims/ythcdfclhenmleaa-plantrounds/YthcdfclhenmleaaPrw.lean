/- The walk of PlantRounds. -/
import Derived.Test.YthcdfclhenmleaaPri
import Derived.Test.YthcdfclhenmleaaPaw
import Derived.Test.YthcdfclhenmleaaDpc
import Derived.BigQuiet
import Derived.BigRegion
import Derived.Deep.CutBlock
import Derived.Deep.RegionWith
namespace Go.Proofs.Ythcdfclhenmleaa
open Go.RowKit
set_option linter.unusedVariables false
theorem few9 (x : Int) (m : Nat) (hm : 1 ≤ m ∧ m ≤ 1000) : ∃ k : Nat, wrap64 ((IntKind.u64.wrap x).tmod (m : Int)) = (k : Int) ∧ k < m := by
  have h0 : 0 ≤ IntKind.u64.wrap x := by simp [IntKind.wrap, IntKind.bits, IntKind.signed]; omega
  have e : (IntKind.u64.wrap x).tmod (m : Int) = IntKind.u64.wrap x % (m : Int) := Int.tmod_eq_emod_of_nonneg h0
  rw [e]
  generalize IntKind.u64.wrap x = b at h0
  have h1 := Int.emod_nonneg b (show (m : Int) ≠ 0 by omega)
  have h2 := Int.emod_lt_of_pos b (show 0 < (m : Int) by omega)
  obtain ⟨k, hk⟩ := Int.eq_ofNat_of_zero_le h1
  refine ⟨k, ?_, by omega⟩
  rw [hk]
  unfold wrap64
  omega
theorem two8 {W : World} {g : Nat} {x y : Value} {t : TypeId} (h : W.heap[g]? = some (.cells #[x, y] t)) : W.cell? ⟨g, 0, none⟩ = some x ∧ W.cell? ⟨g, 1, none⟩ = some y ∧ (∀ i, W.frozen? ⟨g, i, none⟩ = false) := ⟨(cells_at h 0).1, (cells_at h 1).1, fun i => (cells_at h i).2⟩
theorem ch_app (c : UInt8) : (⟨#[110]⟩ : ByteArray) ++ ⟨#[c]⟩ = ⟨#[110, c]⟩ := by
  apply ByteArray.ext
  simp
theorem nd_new (w : World) (B : Nat) (hB : B ≤ w.heap.size) (i : Nat) (g : Nat) (hg : g = w.heap.size) (c : UInt8) (hc : UInt8.ofNat (97 + i) = c) : ndE.Rd (w.alloc (.cells #[.string ((⟨#[110]⟩ : ByteArray) ++ ⟨#[c]⟩), .int .i64 1, .int .i64 0] 67)) (.slice (some ⟨g, 0, none⟩) 1 1) [rgNd i] :=
  (El.Own.new ndE w B hB _ [rgNd i] (by rw [ch_app, ← hc]; rfl) (by simp) _ _ _ hg rfl rfl).rd
theorem ed_new (w : World) (B : Nat) (hB : B ≤ w.heap.size) (x : Ed) (g : Nat) (hg : g = w.heap.size) : edE.Rd (w.alloc (.cells #[.int .i64 x.1, .int .i64 x.2] 42)) (.slice (some ⟨g, 0, none⟩) 1 1) [x] :=
  (El.Own.new edE w B hB _ [x] rfl (by simp) _ _ _ hg rfl rfl).rd
theorem rk1 (i n : Nat) : (i : Int).tmod (n : Int) = ((i % n : Nat) : Int) := by
  rw [Int.tmod_eq_emod_of_nonneg (by omega)]; push_cast; rfl
theorem rk2 (i n : Nat) : ((i : Int) + 1).tmod (n : Int) = (((i + 1) % n : Nat) : Int) := rk1 (i + 1) n
theorem rsq (f : Int) (i : Nat) : IntKind.u16.wrap (f + (i : Int)) = sq9 f i := by unfold sq9; simp [IntKind.wrap, IntKind.bits, IntKind.signed]
theorem rsl (f : Int) (i n : Nat) : IntKind.u16.wrap (sq9 f i - (n : Int)) = (f + (i : Int) - (n : Int)) % 65536 := by unfold sq9; simp [IntKind.wrap, IntKind.bits, IntKind.signed]
theorem rs1 (f : Int) (i : Nat) : 0 ≤ sq9 f i ∧ sq9 f i ≤ 65535 := by unfold sq9; omega
theorem rs2 (x : Int) : 0 ≤ x % 65536 ∧ x % 65536 ≤ 65535 := by omega
theorem rin (k : Nat) (s : Int) (hk : k < 7) (hs : 0 ≤ s ∧ s ≤ 65535) : Tl.In ⟨1, (k : Int) + 1, s, 1, 0⟩ := by
  unfold Tl.In
  refine ⟨⟨?_, ?_⟩, ⟨?_, ?_⟩, ⟨?_, ?_⟩, ⟨?_, ?_⟩, ⟨?_, ?_⟩⟩ <;> dsimp only <;> omega
theorem ru16 (x : Int) (h : 0 ≤ x ∧ x ≤ 1000) : IntKind.u16.wrap x = x ∧ IntKind.i64.wrap x = x ∧ wrap64 x = x := by
  refine ⟨?_, ?_, ?_⟩
  · simp [IntKind.wrap, IntKind.bits, IntKind.signed]; omega
  · rw [IntKind.wrap_i64]; omega
  · unfold wrap64; omega
theorem ruk (k : Nat) (h : k < 7) : wrap64 (k : Int) = (k : Int) ∧ IntKind.u16.wrap ((k : Int) + 1) = (k : Int) + 1 ∧ IntKind.i64.wrap ((k : Int) + 1) = (k : Int) + 1 ∧ wrap64 ((k : Int) + 1) = (k : Int) + 1 := ⟨(ru16 (k : Int) (by omega)).2.2, (ru16 ((k : Int) + 1) (by omega)).1, (ru16 ((k : Int) + 1) (by omega)).2.1, (ru16 ((k : Int) + 1) (by omega)).2.2⟩
theorem rui (i : Nat) (h : i < 60) : IntKind.u16.wrap (i : Int) = (i : Int) ∧ IntKind.i64.wrap ((i : Int) + 1) = (i : Int) + 1 := ⟨(ru16 (i : Int) (by omega)).1, (ru16 ((i : Int) + 1) (by omega)).2.1⟩
theorem runw (n : Nat) (h : n ≤ 7) : IntKind.u16.wrap (n : Int) = (n : Int) := (ru16 (n : Int) (by omega)).1
theorem run0 (n : Nat) (h : 2 ≤ n) : ((n : Int) == 0) = false ∧ ¬ (n : Int) = 0 ∧ ¬ n = 0 := ⟨beq_eq_false_iff_ne.2 (by omega), by omega, by omega⟩
theorem capE8 {α : Type} {E : El Try.prog α} {w : World} {B n c : Nat} {a : Option Addr} {xs : List α} (h : E.Own w B (.slice a n c) xs) : xs.length ≤ c := by
  rcases h.2 with ⟨e1, e2⟩ | ⟨g, cap, cur, e1, _, _, e2, _⟩
  · omega
  · cases e1; exact e2
theorem rg_succ {α : Type} (f : Nat → α) (i : Nat) : (List.range i).map f ++ [f i] = (List.range (i + 1)).map f := by simp [List.range_succ]
set_option maxRecDepth 100000 in
set_option maxHeartbeats 8000000 in
theorem rounds_any (x f y : Int) (hf : 0 ≤ f ∧ f ≤ 65535) (w : World) :
    Calls Try.prog 6 #[.int .i64 x, .int .u16 f, .int .i64 y] w fun e w' => e = .returned (.bool true) ∧ Below w.heap.size w w' := by
  obtain ⟨kn, hkn, hk6⟩ := few9 x 6 (by omega)
  obtain ⟨st, hst, hs6⟩ := few9 y 60 (by omega)
  replace hkn : wrap64 ((IntKind.u64.wrap x).tmod 6) = (kn : Int) := hkn
  replace hst : wrap64 ((IntKind.u64.wrap y).tmod 60) = (st : Int) := hst
  obtain ⟨n, hn⟩ : ∃ n, kn + 2 = n := ⟨_, rfl⟩
  have r2 : wrap64 ((kn : Int) + 2) = (n : Int) := by unfold wrap64; omega
  have Hn : Hid (2 ≤ n ∧ n ≤ 7) := hide (by omega)
  have n1 : 2 ≤ n := by omega
  have n2 : n ≤ 7 := by omega
  have Hf := hide hf
  clear hn hk6 hf
  have I0 := hide (Its.nil w)
  go_enter Try.func6, Try.ntmps6
  go_upto_region 3 with (go_at_call 9; refine (awake_any _).mono ?_; rintro e1 W2 ⟨rfl, q⟩; have I2 := hide (I0.out.keep q); clear q)
  go_upto_region 5 with fail
  rw [r2, hst]
  have Hst := hide hs6
  clear hkn r2 hst hs6
  have I3 := hide (I2.out.box1 #[.slice none 0 0, .slice none 0 0] 25)
  obtain ⟨gl, hgl⟩ : ∃ gl, W2.heap.size = gl := ⟨_, rfl⟩
  rw [hgl] at I3
  try rw [hgl]
  generalize W2.alloc (.cells #[.slice none 0 0, .slice none 0 0] 25) = W3 at *
  have I4 : Hid (Its w ([.row ndE w.heap.size (.slice none 0 0) ((List.range 0).map rgNd), .row edE w.heap.size (.slice none 0 0) ((List.range 0).map (rgEd n)), .box gl #[.slice none 0 0, .slice none 0 0] 25]) W3) := hide ((I3.out.empty edE).empty ndE)
  clear I0 I2 I3 hgl
  go_wp2_with fail
  go_loopw [8] (fun v8 wr => ∃ (i : Nat) (aN aE : Option Addr) (cN cE : Nat), v8 = .int .i64 i ∧ i ≤ n ∧ Hid (Its w ([.row ndE w.heap.size (.slice aN i cN) ((List.range i).map rgNd), .row edE w.heap.size (.slice aE i cE) ((List.range i).map (rgEd n)), .box gl #[.slice aN i cN, .slice aE i cE] 25]) wr)) (fun v8 _ => n - (intOf v8).toNat)
  case atStart => exact ⟨0, none, none, 0, 0, rfl, by omega, I4⟩
  case round =>
  clear I4
  obtain ⟨i, aN, aE, cN, cE, rfl, hi, HR⟩ := hrel
  obtain ⟨b0, b1, bf⟩ := two8 HR.out.three
  by_cases hin : i < n
  case pos =>
    have q1 : (i : Int) < (n : Int) := by omega
    have u1 : IntKind.u8.wrap (97 + (i : Int)) = 97 + (i : Int) := by simp [IntKind.wrap, IntKind.bits, IntKind.signed]; omega
    have KC : (convert 65 9 (.slice (some ⟨wr.heap.size, 0, none⟩) 1 1)).run Try.prog (wr.alloc (.cells #[.int .u8 (97 + (i : Int))] 5)) = .ok (.string ⟨#[UInt8.ofNat (97 + i)]⟩) (wr.alloc (.cells #[.int .u8 (97 + (i : Int))] 5)) := by
      have q := run_convert_bytes_back (P := Try.prog) (wr.alloc (.cells #[.int .u8 (97 + (i : Int))] 5)) 65 9 5 ⟨wr.heap.size, 0, none⟩ 1 [UInt8.ofNat (97 + i)] Try.underlying65 Try.underlying5 Try.underlying9 (fun j hj => by
        have : j = 0 := by simpa using hj
        subst this
        refine (World.cell?_alloc_mark wr #[.int .u8 (97 + (i : Int))] 5 (0, 0) 0).trans ?_
        have : (97 + i) % 256 = 97 + i := by omega
        simp [this])
      exact q
    obtain ⟨ch, hch⟩ : ∃ ch, UInt8.ofNat (97 + i) = ch := ⟨_, rfl⟩
    rw [hch] at KC
    have HX : Hid (Its w ([.row ndE w.heap.size (.slice aN i cN) ((List.range i).map rgNd), .row edE w.heap.size (.slice aE i cE) ((List.range i).map (rgEd n)), .box gl #[.slice aN i cN, .slice aE i cE] 25]) ((wr.alloc (.cells #[.int .u8 (97 + (i : Int))] 5)).alloc (.cells #[.string ((⟨#[110]⟩ : ByteArray) ++ ⟨#[ch]⟩), .int .i64 1, .int .i64 0] 67))) := hide ((HR.out.alloc _).alloc _)
    have HS : Hid (ndE.Rd ((wr.alloc (.cells #[.int .u8 (97 + (i : Int))] 5)).alloc (.cells #[.string ((⟨#[110]⟩ : ByteArray) ++ ⟨#[ch]⟩), .int .i64 1, .int .i64 0] 67)) (.slice (some ⟨wr.heap.size + 1, 0, none⟩) 1 1) [rgNd i]) := hide (nd_new (wr.alloc _) 0 (Nat.zero_le _) i _ (by show _ = (wr.heap.push _).size; simp) ch hch)
    have HL1 : Hid (((List.range i).map rgNd).length + [rgNd i].length ≤ 1000000) := hide (by simp; omega)
    have HL2 : Hid (((List.range (i + 1)).map rgNd).length = i + 1) := hide (by simp)
    clear hch
    go_upto_region 9 with (at_builtin; refine ndE.wpB (B := w.heap.size) HX.out.size (by rfl) _ _ rfl _ _ rfl rfl ((List.range i).map rgNd) [rgNd i] HX.out.one HS.out HL1.out ?_; intro v5 W5 ho hg hs; rw [rg_succ] at ho; obtain ⟨a5, p5, hf5⟩ := ho.rd.form; rw [HL2.out] at hf5; subst hf5; have HI5 := hide (HX.out.grow ho hg hs); clear ho hg hs; obtain ⟨d0, d1, df⟩ := two8 HI5.out.three)
    clear KC HX HS HL1 HL2 HR b0 b1 bf u1
    have HI6 : Hid (Its w [.row edE w.heap.size (.slice aE i cE) ((List.range i).map (rgEd n)), .row ndE w.heap.size (.slice a5 (i + 1) p5) ((List.range (i + 1)).map rgNd), .box gl #[.slice a5 (i + 1) p5, .slice aE i cE] 25] (W5.setCell ⟨gl, 0, none⟩ (.slice a5 (i + 1) p5))) := hide (((((HI5.out.pick 2 rfl).put1 0 (.slice a5 (i + 1) p5)).pick 1 rfl).pick 2 rfl))
    clear HI5 d0 d1 df
    generalize W5.setCell ⟨gl, 0, none⟩ (.slice a5 (i + 1) p5) = W6 at *
    obtain ⟨b0, b1, bf⟩ := two8 HI6.out.three
    have m1 : ((i : Int) + 1).tmod (n : Int) = (((i + 1) % n : Nat) : Int) := by
      rw [Int.tmod_eq_emod_of_nonneg (by omega)]; push_cast; rfl
    have m2 : wrap64 (((i : Int) + 1).tmod (n : Int)) = (((i + 1) % n : Nat) : Int) := by
      rw [m1]; have := Nat.mod_lt (i + 1) (show 0 < n by omega); unfold wrap64; omega
    have m0 : IntKind.i64.wrap ((i : Int) + 1) = (i : Int) + 1 := by rw [IntKind.wrap_i64]; omega
    have m3 : ((n : Int) == 0) = false := beq_eq_false_iff_ne.2 (by omega)
    have m4 : ¬ (n : Int) = 0 := by omega
    have HX : Hid (Its w [.row edE w.heap.size (.slice aE i cE) ((List.range i).map (rgEd n)), .row ndE w.heap.size (.slice a5 (i + 1) p5) ((List.range (i + 1)).map rgNd), .box gl #[.slice a5 (i + 1) p5, .slice aE i cE] 25] (W6.drew.alloc (.cells #[.int .i64 (i : Int), .int .i64 (((i + 1) % n : Nat) : Int)] 42))) := hide ((HI6.out.drew 1).alloc _)
    have HS : Hid (edE.Rd (W6.drew.alloc (.cells #[.int .i64 (i : Int), .int .i64 (((i + 1) % n : Nat) : Int)] 42)) (.slice (some ⟨W6.heap.size, 0, none⟩) 1 1) [rgEd n i]) := hide (ed_new W6.drew 0 (Nat.zero_le _) (rgEd n i) _ rfl)
    have HL1 : Hid (((List.range i).map (rgEd n)).length + [rgEd n i].length ≤ 1000000) := hide (by simp; omega)
    have HL2 : Hid (((List.range (i + 1)).map (rgEd n)).length = i + 1) := hide (by simp)
    obtain ⟨SS, hSS⟩ : ∃ SS : World → Prop, SS = fun W' => W'.cell? ⟨gl, 1, none⟩ = some (.slice aE i cE) := ⟨_, rfl⟩
    have s1 : ∀ W', SS W' → W'.cell? ⟨gl, 1, none⟩ = some (.slice aE i cE) := fun W' h => by rw [hSS] at h; exact h
    have s0 : ∀ W' : World, W'.cell? ⟨gl, 1, none⟩ = some (.slice aE i cE) → SS W' := fun W' h => by rw [hSS]; exact h
    have hS0 : SS W6.drew := s0 _ ((two8 (HI6.out.drew 1).three).2.1)
    have S1 : SS (W6.drew.alloc (.cells #[.int .i64 (i : Int), .int .i64 (((i + 1) % n : Nat) : Int)] 42)) := s0 _ ((two8 HX.out.three).2.1)
    clear hSS b0 b1 bf
    refine wp_region_E SS 11 (by kernel_rfl) ?_
    refine wpAnyE_take (i := 0) (v := .pointer (some ⟨gl, 1, none⟩)) rfl (by kernel_rfl) (by kernel_rfl) (by kernel_rfl) (by kernel_rfl) (fun _ _ _ h => h) (Or.inl ⟨by rfl, fun W' hW => by go_simp⟩) hS0 ?_
    refine wpAnyE_take (i := 1) (v := .slice aE i cE) rfl (by kernel_rfl) (by kernel_rfl) (by kernel_rfl) (by kernel_rfl) (fun _ _ _ h => h) (Or.inl ⟨by rfl, fun W' hW => by have x0 := s1 W' hW; go_simp⟩) hS0 ?_
    refine wpAnyE_take (i := 2) (v := .int .i64 (i : Int)) rfl (by kernel_rfl) (by kernel_rfl) (by kernel_rfl) (by kernel_rfl) (fun _ _ _ h => h) (Or.inl ⟨by rfl, fun W' hW => by go_simp⟩) hS0 ?_
    refine wpAnyE_take (i := 3) (v := .int .i64 (i : Int)) rfl (by kernel_rfl) (by kernel_rfl) (by kernel_rfl) (by kernel_rfl) (fun _ _ _ h => h) (Or.inl ⟨by rfl, fun W' hW => by go_simp⟩) hS0 ?_
    refine wpAnyE_take (i := 4) (v := .int .i64 ((i : Int) + 1)) rfl (by kernel_rfl) (by kernel_rfl) (by kernel_rfl) (by kernel_rfl) (fun _ _ _ h => h) (Or.inl ⟨by rfl, fun W' hW => by go_simp⟩) hS0 ?_
    refine wpAnyE_take (i := 5) (v := .int .i64 (n : Int)) rfl (by kernel_rfl) (by kernel_rfl) (by kernel_rfl) (by kernel_rfl) (fun _ _ _ h => h) (Or.inl ⟨by rfl, fun W' hW => by go_simp⟩) hS0 ?_
    refine wpAnyE_take (i := 6) (v := .int .i64 (((i + 1) % n : Nat) : Int)) rfl (by kernel_rfl) (by kernel_rfl) (by kernel_rfl) (by kernel_rfl) (fun _ _ _ h => h) (Or.inl ⟨by rfl, fun W' hW => by go_simp; omega⟩) hS0 ?_
    refine wpAnyE_take (i := 7) (v := .agg #[.int .i64 (i : Int), .int .i64 (((i + 1) % n : Nat) : Int)]) rfl (by kernel_rfl) (by kernel_rfl) (by kernel_rfl) (by kernel_rfl) (fun _ _ _ h => h) (Or.inl ⟨by rfl, fun W' hW => by go_simp⟩) hS0 ?_
    refine wpAnyE_ready (rs := [8]) (by kernel_rfl) (by simp) ?_
    refine AllReadyE.cons rfl (fun K hK => ?_) AllReadyE.nil
    go_simp
    refine hK.out _ _ (fun _ => S1) ?_
    clear hK K
    refine wpAnyE_ready (rs := [9]) (by kernel_rfl) (by simp) ?_
    refine AllReadyE.cons rfl (fun K hK => ?_) AllReadyE.nil
    refine edE.step (w0 := w) HX.out.bel rfl (.tmp 48) (.tmp 55) rfl (.slice aE i cE) (.slice (some ⟨W6.heap.size, 0, none⟩) 1 1) rfl rfl ((List.range i).map (rgEd n)) [rgEd n i] HX.out.one HS.out HL1.out ?_
    intro v6 W7 ho hg hs hb
    rw [rg_succ] at ho
    obtain ⟨a6, p6, hf6⟩ := ho.rd.form
    rw [HL2.out] at hf6
    subst hf6
    have HI7 := hide (HX.out.grow ho hg hs)
    have S2 := s0 W7 ((two8 HI7.out.three).2.1)
    refine hK.out _ _ (fun _ => S2) ?_
    clear hK K ho hg hs hb
    refine wpAnyE_take (i := 10) (v := .pointer (some ⟨gl, 1, none⟩)) rfl (by kernel_rfl) (by kernel_rfl) (by kernel_rfl) (by kernel_rfl) (fun _ _ _ h => h) (Or.inl ⟨by rfl, fun W' hW => by go_simp⟩) S2 ?_
    refine wpAnyE_ready (rs := [11]) (by kernel_rfl) (by simp) ?_
    refine AllReadyE.cons rfl (fun K hK => ?_) AllReadyE.nil
    obtain ⟨d0, d1, df⟩ := two8 HI7.out.three
    go_simp
    refine hK.out _ _ (fun h => absurd rfl h) ?_
    clear hK K
    refine wpAnyE_done (by kernel_rfl) ?_ _
    go_wp2_with fail
    go_roundw
    case rel => exact ⟨i + 1, a5, a6, p5, p6, by go_num, by omega, hide ((((HI7.out.pick 2 rfl).put1 1 (.slice a6 (i + 1) p6)).pick 1 rfl).pick 2 rfl)⟩
    case measure => simp [intOf]; omega
  case neg =>
  have q1 : ¬ (i : Int) < (n : Int) := by omega
  have e9 : n = i := by omega
  subst e9
  obtain ⟨wA, rfl⟩ : ∃ W, W = wr := ⟨_, rfl⟩
  have L9 : Lyt wA aN aE cN cE n n (rgN n) (rgE n) := ⟨by simp [rgN], by simp [rgE], El.Own.rd (E := ndE) HR.out.one, El.Own.rd (E := edE) HR.out.two, by have q := capE8 (E := edE) HR.out.two; simpa using q, fun p hp => by obtain ⟨k, _, rfl⟩ := List.mem_map.1 hp; show 2 ≤ maxLen; unfold maxLen; omega⟩
  have KN := hide (new_ok L9 (rg_good Hn.out))
  obtain ⟨S0, hp0, hr0⟩ := Ring.zero Hn.out (f := f)
  have KP : Hid (∀ (g : Nat) (H : Nat × Nat) (W : World) (l : List It), Its w (.pla w.heap.size g H n n (rgE n) (Pl.nw n (rgE n)) :: l) W → Calls Try.prog 15 #[.pointer (some ⟨g, 0, none⟩), .int .i64 1, .int .i64 0] W fun e w' => e = .returned (.int .i64 0) ∧ Its w (.pla w.heap.size g H n n (rgE n) S0 :: l) w') := hide (fun g H W l hW => by
    have q := putS hW 1 0
    rw [hp0] at q
    exact q)
  have HR0 := hide hr0
  clear L9 hp0 hr0
  go_upto_region 13 with (first
    | (go_at_call 15; refine (KP.out _ _ _ _ I5.out).mono ?_; rintro e1 W6 ⟨rfl, q⟩; have I6 := hide q; clear q)
    | (go_at_call 12; refine KN.out.mono ?_; rintro e1 W5 ⟨g, H, rfl, q⟩; have I5 := hide (HR.out.addm q); clear q))
  have I7 : Hid (Its w [.pla w.heap.size g H n n (rgE n) S0] W6) := hide ((((I6.out.pick 1 rfl).tail.pick 1 rfl).tail.pick 1 rfl).tail)
  clear KN KP I5 I6 HR b0 b1 bf q1
  go_wp2_with fail
  go_loopw [11] (fun v11 wr => ∃ (i : Nat) (S : Pl), v11 = .int .i64 i ∧ i ≤ st ∧ Hid (Ring n f i S) ∧ Hid (Its w [.pla w.heap.size g H n n (rgE n) S] wr)) (fun v11 _ => st - (intOf v11).toNat)
  case atStart => exact ⟨0, S0, rfl, by omega, HR0, I7⟩
  case round =>
  clear HR0 I7
  obtain ⟨i, S, rfl, hi, HRing, HR⟩ := hrel
  have i60 : st < 60 := Hst.out
  by_cases his : i < st
  case neg =>
    have q1 : ¬ (i : Int) < (st : Int) := by omega
    have e9 : st = i := by omega
    have KM : Hid (∀ W l, Its w (.pla w.heap.size g H n n (rgE n) S :: l) W → Calls Try.prog 23 #[.pointer (some ⟨g, 0, none⟩)] W fun r9 w' => r9 = .returned (.int .i64 (st : Int)) ∧ w' = W) := hide (fun W l hW => by
      have q := moves_m hW.one
      rw [HRing.out.mv, ← e9] at q
      exact q)
    have KW : Hid (∀ W l, Its w (.pla w.heap.size g H n n (rgE n) S :: l) W → Calls Try.prog 24 #[.pointer (some ⟨g, 0, none⟩), .int .i64 1] W fun r9 w' => r9 = .returned (.int .i64 ((st % n : Nat) : Int)) ∧ w' = W) := hide (fun W l hW => by
      have q := where_m hW.one 1
      rw [HRing.out.whr Hn.out, ← e9] at q
      exact q)
    have m1 : (st : Int).tmod (n : Int) = ((st % n : Nat) : Int) := by
      rw [Int.tmod_eq_emod_of_nonneg (by omega)]; push_cast; rfl
    have m2 : wrap64 ((st : Int).tmod (n : Int)) = ((st % n : Nat) : Int) := by
      rw [m1]; have := Nat.mod_lt st (show 0 < n by omega); unfold wrap64; omega
    have m3 : ((n : Int) == 0) = false := beq_eq_false_iff_ne.2 (by omega)
    have m4 : ¬ (n : Int) = 0 := by omega
    have m5 : ¬ n = 0 := by omega
    have m6 : ((st : Int) == (st : Int)) = true := by simp
    have m7 : (((st % n : Nat) : Int) == ((st % n : Nat) : Int)) = true := by simp
    clear e9
    go_upto_region 24 with fail
    go_quiet (first
      | (go_at_call 23; exact Calls.quiet_of_same (KM.out _ _ (HR.out.drew _)))
      | (go_at_call 24; exact Calls.quiet_of_same (KW.out _ _ (HR.out.drew _))))
    go_wp2_with fail
    go_ret
    exact ⟨rfl, (HR.out.drew _).bel⟩
  case pos =>
  have q1 : (i : Int) < (st : Int) := by omega
  have hs1 := rs1 f i
  have hs2 := rs2 (f + (i : Int) - (n : Int))
  have hmv : S.mv ≤ 1000000 := by rw [HRing.out.mv]; omega
  have hkn : i % n < 7 := Nat.lt_of_lt_of_le (mod9 Hn.out i).1 n2
  have hw1 : (i + 1) % n < 7 := Nat.lt_of_lt_of_le (mod9 Hn.out (i + 1)).1 n2
  obtain ⟨a1, a2⟩ := HRing.out.step Hn.out Hf.out
  have a3 := a2.whr Hn.out
  have a4 := fun h : n ≤ i => a2.late Hn.out Hf.out h
  have k1 := rk1 i n
  have m1 := rk2 i n
  have hsq := rsq f i
  have hsl := rsl f i n
  have hi1 := rin (i % n) (sq9 f i) hkn hs1
  have hi2 := rin (i % n) _ hkn hs2
  have F1 := hide a1
  have F2 := hide a2
  have F3 := hide a3
  have F4 := hide a4
  have F5 := hide hsl
  have F6 := hide hi1
  have F7 := hide hi2
  clear a1 a2 a3 a4 hsl hi1 hi2 hs1 hs2
  obtain ⟨kd, hkd⟩ : ∃ kd, i % n = kd := ⟨_, rfl⟩
  obtain ⟨wd, hwd⟩ : ∃ wd, (i + 1) % n = wd := ⟨_, rfl⟩
  obtain ⟨sq, hsq9⟩ : ∃ sq, sq9 f i = sq := ⟨_, rfl⟩
  obtain ⟨sl, hsl9⟩ : ∃ sl, (f + (i : Int) - (n : Int)) % 65536 = sl := ⟨_, rfl⟩
  rw [hkd] at F1 F2 F3 F4 F6 F7 k1 hkn
  rw [hwd] at F3 m1 hw1
  rw [hsq9] at F1 F2 F3 F4 F5 F6 hsq
  rw [hsl9] at F4 F5 F7
  clear hkd hwd hsq9 hsl9
  have KH : Hid (∀ W l, Its w (.pla w.heap.size g H n n (rgE n) S :: l) W → Calls Try.prog 17 #[.pointer (some ⟨g, 0, none⟩), .agg #[.int .u8 1, .int .u16 ((kd : Int) + 1), .int .u16 sq, .int .u16 1, .int .u16 0]] W fun e w' => HP w l w.heap.size g n n H (rgE n) (S.hear ⟨1, (kd : Int) + 1, sq, 1, 0⟩) e w') := hide (fun W l hW => hearS hW ⟨1, (kd : Int) + 1, sq, 1, 0⟩ F6.out hmv)
  rw [F1.out] at KH
  clear F1
  have F8 : Hid ((S.go ⟨1, (kd : Int) + 1, sq, 1, 0⟩).mv ≤ 1000000) := hide (by rw [F2.out.mv]; omega)
  obtain ⟨S1, hS1⟩ : ∃ S1, S.go ⟨1, (kd : Int) + 1, sq, 1, 0⟩ = S1 := ⟨_, rfl⟩
  rw [hS1] at KH F2 F3 F4 F8
  clear hS1
  unfold HP tv at KH
  dsimp only at KH
  have KW : Hid (∀ W l, Its w (.pla w.heap.size g H n n (rgE n) S1 :: l) W → Calls Try.prog 24 #[.pointer (some ⟨g, 0, none⟩), .int .i64 1] W fun r9 w' => r9 = .returned (.int .i64 (wd : Int)) ∧ w' = W) := hide (fun W l hW => by
    have q := where_m hW.one 1
    rw [F3.out] at q
    exact q)
  obtain ⟨k2, k3, k5, k6⟩ := ruk kd hkn
  have m2 := (ruk wd hw1).1
  obtain ⟨k4, m0⟩ := rui i (Nat.lt_trans his i60)
  obtain ⟨m3, m4, m5⟩ := run0 n n1
  go_upto_region 17 with fail
  go_upto_region 18 with (go_at_call 17; refine (KH.out _ _ HR.out).mono ?_; rintro e1 W3 ⟨rfl, q⟩; have J1 := hide q; clear q; have J2 := hide (J1.out.boxN #[.int .u8 2, .int .u16 ((kd : Int) + 1), .int .u16 sq, .int .u16 1, .int .u16 0] 45 rfl))
  have J3 : Hid (Its w (.box W3.heap.size #[.int .u8 2, .int .u16 ((kd : Int) + 1), .int .u16 sq, .int .u16 1, .int .u16 0] 45 :: .pla w.heap.size g H n n (rgE n) S1 :: []) (W3.alloc (.cells #[.int .u8 2, .int .u16 ((kd : Int) + 1), .int .u16 sq, .int .u16 1, .int .u16 0] 45))) := J2
  clear J1 J2 KH
  obtain ⟨gt, hgt⟩ : ∃ gt, W3.heap.size = gt := ⟨_, rfl⟩
  rw [hgt] at J3
  try rw [hgt]
  clear hgt
  generalize W3.alloc (.cells #[.int .u8 2, .int .u16 ((kd : Int) + 1), .int .u16 sq, .int .u16 1, .int .u16 0] 45) = W4 at *
  obtain ⟨t0, t1, t2, t3, t4, tf⟩ := Its.cells5 J3.out
  have e1 : ((kd : Int) + 1 == (kd : Int) + 1) = true := by simp
  have e2 : (sq == sq) = true := by simp
  have e3 : ((wd : Int) == (wd : Int)) = true := by simp
  go_quiet ((go_at_call 24; exact Calls.quiet_of_same (KW.out _ _ ((J3.out.drew _).pick 1 rfl))))
  have J4 := hide (J3.out.drew nq).tail
  clear t0 t1 t2 t3 t4 tf J3 KW e1 e2 e3
  generalize W4.drewN nq = W5 at *
  by_cases hin : n ≤ i
  case neg =>
    have q2 : ¬ (i : Int) ≥ (n : Int) := by omega
    have q3 : (i : Int) < (n : Int) := by omega
    have q4 : ¬ (n : Int) ≤ (i : Int) := by omega
    go_wp2_with fail
    go_roundw
    case rel => exact ⟨i + 1, S1, by go_num, by omega, F2, J4⟩
    case measure => simp [intOf]; omega
  case pos =>
  have q2 : (i : Int) ≥ (n : Int) := by omega
  have q3 : ¬ (i : Int) < (n : Int) := by omega
  have q4 : (n : Int) ≤ (i : Int) := by omega
  have k7 := runw n n2
  have k8 := F5.out
  have KL : Hid (∀ W l, Its w (.pla w.heap.size g H n n (rgE n) S1 :: l) W → Calls Try.prog 17 #[.pointer (some ⟨g, 0, none⟩), .agg #[.int .u8 1, .int .u16 ((kd : Int) + 1), .int .u16 sl, .int .u16 1, .int .u16 0]] W fun e w' => HP w l w.heap.size g n n H (rgE n) (S1.hear ⟨1, (kd : Int) + 1, sl, 1, 0⟩) e w') := hide (fun W l hW => hearS hW ⟨1, (kd : Int) + 1, sl, 1, 0⟩ F7.out F8.out)
  rw [F4.out hin] at KL
  unfold HP tv tz at KL
  dsimp only at KL
  go_wp2_with (go_at_call 17; refine (KL.out _ _ J4.out).mono ?_; rintro e1 W6 ⟨rfl, q⟩; have J5 := hide q; clear q; have J6 := hide (J5.out.boxN #[.int .u8 0, .int .u16 0, .int .u16 0, .int .u16 0, .int .u16 0] 45 rfl))
  go_roundw
  case rel => exact ⟨i + 1, S1, by go_num, by omega, F2, hide J6.out.tail⟩
  case measure => simp [intOf]; omega
end Go.Proofs.Ythcdfclhenmleaa

