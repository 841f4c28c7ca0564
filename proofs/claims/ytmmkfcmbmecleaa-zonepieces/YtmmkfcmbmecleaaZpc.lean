/- Pieces and Zones. -/
import Derived.Test.YtmmkfcmbmecleaaZzo
import Derived.Test.YtmmkfcmbmecleaaZsl
import Derived.Test.YtmmkfcmbmecleaaBtw
namespace Go.Proofs.Ytmmkfcmbmecleaa
open Go.RowKit
set_option linter.unusedVariables false

set_option maxRecDepth 100000 in
set_option maxHeartbeats 2000000 in
theorem zones_any (a a' aP : Option Addr) (c c' cP n m k : Nat) (ns : List Nd) (es : List Ed) (path : List Int) (w : World) (hL : Ly w a a' c c' n m ns es) (hk : path.length = k) (hP : intE.Rd w (.slice aP k cP) path) (hk4 : k ≤ 1000) :
    Calls Try.prog 13 #[.agg #[.slice a n c, .slice a' m c'], .slice aP k cP] w fun e w' => (∃ u x, e = .returned (.tuple #[u, .int .i64 x]) ∧ ZP (path.all (dOk es)) (pzs (dz ns es) path k) w.heap.size u x w') ∧ Below w.heap.size w w' := by
  obtain ⟨W0, hW0⟩ : ∃ W0, w.alloc (.cells #[.slice a n c, .slice a' m c'] 25) = W0 := ⟨_, rfl⟩
  have bA : Below w.heap.size w W0 := by rw [← hW0]; exact (Below.refl _ _).alloc (Nat.le_refl _) _
  have hbox : W0.heap[w.heap.size]? = some (.cells #[.slice a n c, .slice a' m c'] 25) := by rw [← hW0]; exact heap_new _ _
  obtain ⟨b0, b1⟩ := layc hbox (Below.refl _ _)
  have HA := hide bA
  have K31 := hide (zonesOf_any a a' aP c c' cP n m k ns es path W0 (hL.keep bA) hk (hP.keep bA) hk4)
  have KC : Hid (∀ (d : List Int) (B : Nat) (v : Value) (W : World), intE.Own W B v d → d.length ≤ 1000 → Calls Try.prog 32 #[v] W fun e w' => ∃ v', e = .returned v' ∧ intE.Own w' B v' (Lib.compactUpTo d.toArray d.toArray.size) ∧ Below B W w') := hide (fun d B v W => compact_any d B v W)
  have KN : Hid (∀ (W : World), Calls Try.prog 32 #[.slice none 0 0] W fun e w' => e = .returned (.slice none 0 0) ∧ w' = W) := hide (fun W => compact_none none 0 W)
  have Hcz : Hid (Lib.compactUpTo (path.map (dz ns es)).toArray (path.map (dz ns es)).toArray.size = pzs (dz ns es) path k) := hide (by
    rw [show (path.map (dz ns es)).toArray.size = k by simp [hk]]
    exact compact_pzs _ _ k (by omega))
  have Hzl : Hid ((path.map (dz ns es)).length ≤ 1000) := hide (by simp; omega)
  generalize path.map (dz ns es) = zs at *
  generalize pzs (dz ns es) path k = cz at *
  generalize path.all (dOk es) = ok at *
  clear hL hP bA hbox hk hk4
  go_enter Try.func13, Try.ntmps13
  go_upto_region 2 with (go_at_call 31; refine (K31.out).mono ?_; rintro e W1 ⟨⟨u, x, rfl, hz⟩, hb1⟩; have HZ := hide hz; have HB1 := hide hb1; clear hz hb1)
  rcases HZ.out with ⟨rfl, rfl, ho⟩ | ⟨rfl, rfl, rfl⟩
  · have KC1 := hide (KC.out zs W0.heap.size u W1 ho Hzl.out)
    have Hfin : Hid (∀ v' W, intE.Own W W0.heap.size v' (Lib.compactUpTo zs.toArray zs.toArray.size) → Below W0.heap.size W1 W → ZP true cz w.heap.size v' 0 W ∧ Below w.heap.size w W) := hide (fun v' W h hb => ⟨.inl ⟨rfl, rfl, by rw [← Hcz.out]; exact h.mono HA.out.size⟩, HA.out.trans ((HB1.out.trans hb).mono HA.out.size)⟩)
    clear ho HZ KC
    go_wp2_with (go_at_call 32; refine (KC1.out).mono ?_; rintro e W2 ⟨v', rfl, ho2, hb2⟩; have HF := hide (Hfin.out v' W2 ho2 hb2); clear ho2 hb2)
    go_ret2
    exact ⟨⟨_, _, rfl, HF.out.1⟩, HF.out.2⟩
  · have Hfin : Hid (ZP false cz w.heap.size (.slice none 0 0) 1 W1) := hide (.inr ⟨rfl, rfl, rfl⟩)
    have HB2 := hide (HA.out.trans (HB1.out.mono HA.out.size))
    clear HZ
    go_wp2_with (go_at_call 32; refine (KN.out _).mono ?_; rintro e W2 ⟨rfl, rfl⟩)
    go_ret2
    exact ⟨⟨_, _, rfl, Hfin.out⟩, HB2.out⟩

/-- what Pieces tells -/
def PP (ok : Bool) (ps : List (List Int)) (B : Nat) (u : Value) (x : Int) (w' : World) : Prop := (ok = true ∧ x = 0 ∧ ∃ svs, Lb B w' u svs ps) ∨ (ok = false ∧ x = 1 ∧ u = .slice none 0 0)

set_option maxRecDepth 100000 in
set_option maxHeartbeats 8000000 in
theorem pieces_any (a a' aP : Option Addr) (c c' cP n m k : Nat) (ns : List Nd) (es : List Ed) (path : List Int) (w : World) (hL : Ly w a a' c c' n m ns es) (hk : path.length = k) (hP : intE.Rd w (.slice aP k cP) path) (hk4 : k ≤ 1000) :
    Calls Try.prog 12 #[.agg #[.slice a n c, .slice a' m c'], .slice aP k cP] w fun e w' => (∃ u x, e = .returned (.tuple #[u, .int .i64 x]) ∧ PP (path.all (dOk es)) (pcs (dz ns es) path k) w.heap.size u x w') ∧ Below w.heap.size w w' := by
  obtain ⟨W0, hW0⟩ : ∃ W0, w.alloc (.cells #[.slice a n c, .slice a' m c'] 25) = W0 := ⟨_, rfl⟩
  have bA : Below w.heap.size w W0 := by rw [← hW0]; exact (Below.refl _ _).alloc (Nat.le_refl _) _
  have hbox : W0.heap[w.heap.size]? = some (.cells #[.slice a n c, .slice a' m c'] 25) := by rw [← hW0]; exact heap_new _ _
  obtain ⟨b0, b1⟩ := layc hbox (Below.refl _ _)
  have HA := hide bA
  have HP0 := hide (hP.keep bA)
  have K31 := hide (zonesOf_any a a' aP c c' cP n m k ns es path W0 (hL.keep bA) hk (hP.keep bA) hk4)
  have Hk := hide hk
  have i0 : (k : Int) ≤ 1000 := by omega
  generalize path.all (dOk es) = ok at *
  clear hL hP bA hbox hk
  go_enter Try.func12, Try.ntmps12
  go_upto_region 2 with (go_at_call 31; refine (K31.out).mono ?_; rintro e W1 ⟨⟨u, x, rfl, hz⟩, hb1⟩; have HZ := hide hz; have HB1 := hide hb1; clear hz hb1)
  clear hW0 b0 b1
  rcases HZ.out with ⟨rfl, rfl, ho⟩ | ⟨rfl, rfl, rfl⟩
  · obtain ⟨az, cz, hf⟩ := ho.rd.form
    rw [List.length_map, Hk.out] at hf
    subst hf
    have HZr : Hid (∀ W, Below W1.heap.size W1 W → intE.Rd W (.slice az k cz) (path.map (dz ns es))) := hide (fun W hb => ho.rd.keep hb)
    have HPr : Hid (∀ W, Below W1.heap.size W1 W → intE.Rd W (.slice aP k cP) path) := hide (fun W hb => (HP0.out.keep HB1.out).keep hb)
    clear ho HZ
    go_upto_region 6 with fail
    go_loopw [8, 23] (fun v8 v23 wr => ∃ (i : Nat) (svs : List Sv), v23 = .int .i64 i ∧ i ≤ k ∧ Hid (Below W1.heap.size W1 wr) ∧ Hid (Lb W1.heap.size wr v8 svs (pcs (dz ns es) path i))) (fun _ v23 _ => k - (intOf v23).toNat)
    case atStart => exact ⟨0, [], rfl, Nat.zero_le _, hide (Below.refl _ _), hide (Lb.nil _ _)⟩
    case round =>
      obtain ⟨i, svs, rfl, hi, HB, HLb⟩ := hrel
      by_cases hlt : i < k
      · obtain ⟨x, hx⟩ : ∃ x, path[i]? = some x := ⟨_, List.getElem?_eq_getElem (by rw [Hk.out]; exact hlt)⟩
        obtain ⟨bp, offp, haP, c0⟩ := int_at (HPr.out _ HB.out) i x hx
        subst haP
        have hzx : (path.map (dz ns es))[i]? = some (dz ns es x) := by rw [List.getElem?_map, hx]; rfl
        obtain ⟨bz, offz, haz, z0⟩ := int_at (HZr.out _ HB.out) i _ hzx
        subst haz
        have g0 : (0 : Int) ≤ (i : Int) := by omega
        have g1 : (i : Int) < (k : Int) := by omega
        have Hx := hide hx
        clear hx hzx
        by_cases h0 : i = 0
        · have Hch : Hid (chg (dz ns es) path i = true) := hide (by rw [h0]; exact chg_zero (dz ns es) path)
          have hd0 : ((i : Int) == 0) = true := by rw [h0]; decide
          have hd1 : decide ((i : Int) = 0) = true := by rw [h0]; decide
          generalize dz ns es x = zx at z0
          clear h0
          have HB9 : Hid (∀ q, Below W1.heap.size W1 (wr.drewN q)) := hide (fun q => below_heap HB.out rfl rfl rfl rfl)
          have HL9 : Hid (∀ q, Lb W1.heap.size (wr.drewN q) u8 svs (pcs (dz ns es) path i)) := hide (fun q => HLb.out.keep (below_heap (Below.refl _ _) rfl rfl rfl rfl))
          have Hba9 : Hid (∀ q (o : Obj), Below (wr.drewN q).heap.size (wr.drewN q) ((wr.drewN q).alloc o)) := hide (fun q o => (Below.refl _ _).alloc (Nat.le_refl _) o)
          have Hlen9 : Hid (svs.length + [(⟨none, 0, 0⟩ : Sv)].length ≤ 1000000) := hide (by rw [HLb.out.len]; have := pcs_bound (dz ns es) path i; simp; omega)
          have HNw9 : Hid (∀ q, slE.Rd ((wr.drewN q).alloc (.cells #[.slice none 0 0] 26)) (.slice (some ⟨(wr.drewN q).heap.size, 0, none⟩) 1 1) [⟨none, 0, 0⟩]) := hide (fun q => (El.Own.new slE (wr.drewN q) 0 (Nat.zero_le _) _ [⟨none, 0, 0⟩] rfl (by simp) _ _ _ rfl rfl rfl).rd)
          go_upto_region 8 with fail
          go_quiet (fail)
          go_upto_region 10 with (at_builtin; refine slE.wp (w0 := W1) ((HB9.out _).trans ((Hba9.out _ _).mono (HB9.out _).size)) (by rfl) _ _ rfl _ _ rfl rfl svs [⟨none, 0, 0⟩] ((HL9.out _).own.keep (Hba9.out _ _)) (HNw9.out _) Hlen9.out ?_; intro v2 W2 ho2 hg2 hs2 hb2; have HL2 := hide (((HL9.out _).keep (Hba9.out _ _)).snoc (p := []) ho2 hg2 (El.Own.nil _ _ _) (fun i u hu g hg => by cases hg)); have HB2 := hide hb2; clear ho2 hg2 hs2 hb2)
          obtain ⟨Q, hQ⟩ : ∃ Q, pcs (dz ns es) path i = Q := ⟨_, rfl⟩
          obtain ⟨pl, hpl⟩ : ∃ pl : List Int, ([] : List Int) = pl := ⟨_, rfl⟩
          obtain ⟨svs2, hsv⟩ : ∃ s2, svs ++ [(⟨none, 0, 0⟩ : Sv)] = s2 := ⟨_, rfl⟩
          have HQ : Hid (Q.length ≤ 1000) := hide (by rw [← hQ]; have := pcs_bound (dz ns es) path i; omega)
          have Hpl : Hid (pl.length ≤ 1000) := hide (by rw [← hpl]; simp)
          have Hpn : Hid (pcs (dz ns es) path (i + 1) = Q ++ [pl ++ [x]]) := hide (by rw [pcs_yes Hch.out, hQ, ← hpl, pat_at Hx.out]; rfl)
          rw [hQ, hpl, hsv] at HL2
          clear hQ hpl hsv
          obtain ⟨N, hN⟩ : ∃ N, Q.length = N := ⟨_, rfl⟩
          obtain ⟨g, cap, hf, _, _⟩ := HL2.out.own.some (by intro e; have := congrArg List.length e; rw [HL2.out.len, List.length_append] at this; simp at this)
          rw [HL2.out.len, List.length_append, List.length_singleton, hN] at hf
          subst hf
          have hat : (Q ++ [pl])[N]? = some pl := by rw [← hN]; exact last_at Q pl
          have hset : (Q ++ [pl]).set N (pl ++ [x]) = Q ++ [pl ++ [x]] := by rw [← hN]; exact set_last Q pl _
          obtain ⟨s, hs, hsl, c8, f8, hov⟩ := HL2.out.cell hat
          have Hs := hide hs
          have Hsl := hide hsl
          have Hov := hide hov
          have Hat := hide hat
          have Hset := hide hset
          obtain ⟨pn, hpn⟩ : ∃ pn, pl.length = pn := ⟨_, rfl⟩
          rw [hpn] at c8 Hov Hsl
          have Hl5 : Hid (pl.length + [x].length ≤ 1000000) := hide (by have := Hpl.out; simp; omega)
          have Hba : Hid (∀ (o : Obj), Below W2.heap.size W2 (W2.alloc o)) := hide (fun o => (Below.refl _ _).alloc (Nat.le_refl _) o)
          have Hla : Hid (∀ (o : Obj), Lb W1.heap.size (W2.alloc o) (.slice (some ⟨g, 0, none⟩) (N + 1) cap) svs2 (Q ++ [pl])) := hide (fun o => HL2.out.keep (Hba.out o))
          have HBa : Hid (∀ (o : Obj), Below W1.heap.size W1 (W2.alloc o)) := hide (fun o => HB2.out.trans ((Hba.out o).mono HB2.out.size))
          have Hgr : Hid (∀ (V W : World), World.grownBy V W (Value.slice s.a pn s.c).ownBlock → World.grownBy V W (Value.slice s.a s.l s.c).ownBlock) := hide (fun V W h => by rw [Hsl.out]; exact h)
          have Hcl : Hid (∀ W : World, W.cell? ⟨g, N, none⟩ = some (.slice s.a s.l s.c) → W.cell? ⟨g, N, none⟩ = some (.slice s.a pn s.c)) := hide (fun W h => by rw [h, Hsl.out])
          have N5 : (N : Int) + 1 ≤ 1001 := by have := HQ.out; omega
          have N6 : (N : Int) + 1 - 1 = (N : Int) := by omega
          have N7 : (0 : Int) ≤ (N : Int) := by omega
          have N8 : (N : Int) < (N : Int) + 1 := by omega
          obtain ⟨sa, sl, sc⟩ := s
          simp only at c8 Hov Hgr Hcl Hs
          clear hN hat hset hs hsl hov hpn
          go_wp2_with (at_builtin; refine intE.wp (w0 := W1) (HBa.out _) (by rfl) _ _ rfl _ _ rfl rfl pl [x] (Hov.out.keep (Hba.out _)) (int_new W2 _ _ rfl) Hl5.out ?_; intro v3 w3 ho3 hg3 hs3 hb3; obtain ⟨pa, pll, pcc, rfl⟩ : ∃ a l c, v3 = .slice a l c := (by obtain ⟨a, c, h⟩ := ho3.rd.form; exact ⟨_, _, _, h⟩); obtain ⟨⟨y0, y1⟩, hF⟩ := (Hla.out _).put Hat.out Hs.out ho3 (Hgr.out _ _ hg3) (by rcases hs3 with h | h; exact .inl (by rw [h]; cases sa <;> rfl); exact .inr h); have HF := hide hF; have HB3 : Hid (∀ u, Below W1.heap.size W1 (w3.setCell ⟨g, N, none⟩ u)) := hide (fun u => hb3.setCell (p := ⟨g, N, none⟩) ((Hla.out (.cells #[.int .i64 x] 3)).own.ge g rfl) u); have y2 := Hcl.out _ y0; clear ho3 hg3 hs3 hb3 hF y0)
          go_roundw
          case rel => exact ⟨i + 1, _, by go_num, by omega, hide (HB3.out _), hide (by rw [Hpn.out, ← Hset.out]; exact HF.out)⟩
          case measure => simp [intOf]; omega
        · obtain ⟨y, hy⟩ : ∃ y, path[i - 1]? = some y := ⟨_, List.getElem?_eq_getElem (by rw [Hk.out]; omega)⟩
          have hzy : (path.map (dz ns es))[i - 1]? = some (dz ns es y) := by rw [List.getElem?_map, hy]; rfl
          obtain ⟨bz', offz', haz', z1⟩ := int_at (HZr.out _ HB.out) (i - 1) _ hzy
          simp only [Option.some.injEq, Addr.mk.injEq] at haz'
          obtain ⟨rfl, rfl, _⟩ := haz'
          have hd0 : ((i : Int) == 0) = false := beq_eq_false_iff_ne.2 (by omega)
          have hd1 : ¬ ((i : Int) = 0) := by omega
          have hwi : IntKind.i64.wrap ((i : Int) - 1) = (((i - 1 : Nat)) : Int) := by rw [show (i : Int) - 1 = ((i - 1 : Nat) : Int) by omega]; exact i64_small _ (by omega) (by omega)
          have hsi : (i : Int) - 1 = ((i - 1 : Nat) : Int) := by omega
          have Hchd : Hid (chg (dz ns es) path i = decide (dz ns es x ≠ dz ns es y)) := hide (by
            unfold chg
            rw [pat_at Hx.out, pat_at hy]
            simp [h0])
          obtain ⟨im, him⟩ : ∃ im : Nat, i - 1 = im := ⟨_, rfl⟩
          rw [him] at z1 hwi hsi
          have m0 : (0 : Int) ≤ (im : Int) := by omega
          have m1 : (im : Int) < (k : Int) := by omega
          have Hy := hide hy
          have Hpos : Hid (0 < i) := hide (by omega)
          clear hy hzy him
          by_cases hne : dz ns es x = dz ns es y
          · have Hch : Hid (chg (dz ns es) path i = false) := hide (by rw [Hchd.out]; simp [hne])
            rw [hne] at z0
            generalize dz ns es y = zy at z0 z1
            have hbn : (zy != zy) = false := by simp
            have hpos := (pcf (dz ns es) path i (by rw [Hk.out]; omega)).some Hpos.out
            have hpb := pcf (dz ns es) path i (by rw [Hk.out]; omega)
            obtain ⟨Q, pl, hQ⟩ : ∃ Q pl, pcs (dz ns es) path i = Q ++ [pl] := ⟨_, _, (List.dropLast_concat_getLast (List.length_pos_iff.1 hpos)).symm⟩
            have HQ : Hid (Q.length ≤ 1000) := hide (by have := pcs_bound (dz ns es) path i; rw [hQ] at this; simp at this; omega)
            have Hpl : Hid (pl.length ≤ 1000) := hide (by have := piece_bound hpb (p := pl) (by rw [hQ]; simp); omega)
            have Hpn : Hid (pcs (dz ns es) path (i + 1) = Q ++ [pl ++ [x]]) := hide (by rw [pcs_no Hch.out, hQ, List.dropLast_concat, last_snoc, pat_at Hx.out]; rfl)
            rw [hQ] at HLb
            obtain ⟨svs2, hsv⟩ : ∃ s2, svs = s2 := ⟨_, rfl⟩
            rw [hsv] at HLb
            have HL9 : Hid (∀ q, Lb W1.heap.size (wr.drewN q) u8 svs2 (Q ++ [pl])) := hide (fun q => HLb.out.keep (below_heap (Below.refl _ _) rfl rfl rfl rfl))
            have HB9 : Hid (∀ q, Below W1.heap.size W1 (wr.drewN q)) := hide (fun q => below_heap HB.out rfl rfl rfl rfl)
            clear hpos hpb hQ hsv hne
            go_upto_region 8 with fail
            go_quiet (fail)
            go_upto_region 10 with fail
            have HL2 := hide (HL9.out nq)
            have HB2 := hide (HB9.out nq)
            obtain ⟨W2, hW2⟩ : ∃ W, wr.drewN nq = W := ⟨_, rfl⟩
            rw [hW2] at HL2 HB2
            rw [hW2]
            clear hW2 HL9 HB9 z0 z1 c0
            obtain ⟨N, hN⟩ : ∃ N, Q.length = N := ⟨_, rfl⟩
            obtain ⟨g, cap, hf, _, _⟩ := HL2.out.own.some (by intro e; have := congrArg List.length e; rw [HL2.out.len, List.length_append] at this; simp at this)
            rw [HL2.out.len, List.length_append, List.length_singleton, hN] at hf
            subst hf
            have hat : (Q ++ [pl])[N]? = some pl := by rw [← hN]; exact last_at Q pl
            have hset : (Q ++ [pl]).set N (pl ++ [x]) = Q ++ [pl ++ [x]] := by rw [← hN]; exact set_last Q pl _
            obtain ⟨s, hs, hsl, c8, f8, hov⟩ := HL2.out.cell hat
            have Hs := hide hs
            have Hsl := hide hsl
            have Hov := hide hov
            have Hat := hide hat
            have Hset := hide hset
            obtain ⟨pn, hpn⟩ : ∃ pn, pl.length = pn := ⟨_, rfl⟩
            rw [hpn] at c8 Hov Hsl
            have Hl5 : Hid (pl.length + [x].length ≤ 1000000) := hide (by have := Hpl.out; simp; omega)
            have Hba : Hid (∀ (o : Obj), Below W2.heap.size W2 (W2.alloc o)) := hide (fun o => (Below.refl _ _).alloc (Nat.le_refl _) o)
            have Hla : Hid (∀ (o : Obj), Lb W1.heap.size (W2.alloc o) (.slice (some ⟨g, 0, none⟩) (N + 1) cap) svs2 (Q ++ [pl])) := hide (fun o => HL2.out.keep (Hba.out o))
            have HBa : Hid (∀ (o : Obj), Below W1.heap.size W1 (W2.alloc o)) := hide (fun o => HB2.out.trans ((Hba.out o).mono HB2.out.size))
            have Hgr : Hid (∀ (V W : World), World.grownBy V W (Value.slice s.a pn s.c).ownBlock → World.grownBy V W (Value.slice s.a s.l s.c).ownBlock) := hide (fun V W h => by rw [Hsl.out]; exact h)
            have Hcl : Hid (∀ W : World, W.cell? ⟨g, N, none⟩ = some (.slice s.a s.l s.c) → W.cell? ⟨g, N, none⟩ = some (.slice s.a pn s.c)) := hide (fun W h => by rw [h, Hsl.out])
            have N5 : (N : Int) + 1 ≤ 1001 := by have := HQ.out; omega
            have N6 : (N : Int) + 1 - 1 = (N : Int) := by omega
            have N7 : (0 : Int) ≤ (N : Int) := by omega
            have N8 : (N : Int) < (N : Int) + 1 := by omega
            obtain ⟨sa, sl, sc⟩ := s
            simp only at c8 Hov Hgr Hcl Hs
            clear hN hat hset hs hsl hov hpn
            go_wp2_with (at_builtin; refine intE.wp (w0 := W1) (HBa.out _) (by rfl) _ _ rfl _ _ rfl rfl pl [x] (Hov.out.keep (Hba.out _)) (int_new W2 _ _ rfl) Hl5.out ?_; intro v3 w3 ho3 hg3 hs3 hb3; obtain ⟨pa, pll, pcc, rfl⟩ : ∃ a l c, v3 = .slice a l c := (by obtain ⟨a, c, h⟩ := ho3.rd.form; exact ⟨_, _, _, h⟩); obtain ⟨⟨y0, y1⟩, hF⟩ := (Hla.out _).put Hat.out Hs.out ho3 (Hgr.out _ _ hg3) (by rcases hs3 with h | h; exact .inl (by rw [h]; cases sa <;> rfl); exact .inr h); have HF := hide hF; have HB3 : Hid (∀ u, Below W1.heap.size W1 (w3.setCell ⟨g, N, none⟩ u)) := hide (fun u => hb3.setCell (p := ⟨g, N, none⟩) ((Hla.out (.cells #[.int .i64 x] 3)).own.ge g rfl) u); have y2 := Hcl.out _ y0; clear ho3 hg3 hs3 hb3 hF y0)
            go_roundw
            case rel => exact ⟨i + 1, _, by go_num, by omega, hide (HB3.out _), hide (by rw [Hpn.out, ← Hset.out]; exact HF.out)⟩
            case measure => simp [intOf]; omega
          · have Hch : Hid (chg (dz ns es) path i = true) := hide (by rw [Hchd.out]; simp [hne])
            have hbn : (dz ns es x != dz ns es y) = true := by simp [hne]
            generalize dz ns es x = zx at z0 hbn hne
            generalize dz ns es y = zy at z1 hbn hne
            have HB9 : Hid (∀ q, Below W1.heap.size W1 (wr.drewN q)) := hide (fun q => below_heap HB.out rfl rfl rfl rfl)
            have HL9 : Hid (∀ q, Lb W1.heap.size (wr.drewN q) u8 svs (pcs (dz ns es) path i)) := hide (fun q => HLb.out.keep (below_heap (Below.refl _ _) rfl rfl rfl rfl))
            have Hba9 : Hid (∀ q (o : Obj), Below (wr.drewN q).heap.size (wr.drewN q) ((wr.drewN q).alloc o)) := hide (fun q o => (Below.refl _ _).alloc (Nat.le_refl _) o)
            have Hlen9 : Hid (svs.length + [(⟨none, 0, 0⟩ : Sv)].length ≤ 1000000) := hide (by rw [HLb.out.len]; have := pcs_bound (dz ns es) path i; simp; omega)
            have HNw9 : Hid (∀ q, slE.Rd ((wr.drewN q).alloc (.cells #[.slice none 0 0] 26)) (.slice (some ⟨(wr.drewN q).heap.size, 0, none⟩) 1 1) [⟨none, 0, 0⟩]) := hide (fun q => (El.Own.new slE (wr.drewN q) 0 (Nat.zero_le _) _ [⟨none, 0, 0⟩] rfl (by simp) _ _ _ rfl rfl rfl).rd)
            go_upto_region 8 with fail
            go_quiet (fail)
            go_upto_region 10 with (at_builtin; refine slE.wp (w0 := W1) ((HB9.out _).trans ((Hba9.out _ _).mono (HB9.out _).size)) (by rfl) _ _ rfl _ _ rfl rfl svs [⟨none, 0, 0⟩] ((HL9.out _).own.keep (Hba9.out _ _)) (HNw9.out _) Hlen9.out ?_; intro v2 W2 ho2 hg2 hs2 hb2; have HL2 := hide (((HL9.out _).keep (Hba9.out _ _)).snoc (p := []) ho2 hg2 (El.Own.nil _ _ _) (fun i u hu g hg => by cases hg)); have HB2 := hide hb2; clear ho2 hg2 hs2 hb2)
            obtain ⟨Q, hQ⟩ : ∃ Q, pcs (dz ns es) path i = Q := ⟨_, rfl⟩
            obtain ⟨pl, hpl⟩ : ∃ pl : List Int, ([] : List Int) = pl := ⟨_, rfl⟩
            obtain ⟨svs2, hsv⟩ : ∃ s2, svs ++ [(⟨none, 0, 0⟩ : Sv)] = s2 := ⟨_, rfl⟩
            have HQ : Hid (Q.length ≤ 1000) := hide (by rw [← hQ]; have := pcs_bound (dz ns es) path i; omega)
            have Hpl : Hid (pl.length ≤ 1000) := hide (by rw [← hpl]; simp)
            have Hpn : Hid (pcs (dz ns es) path (i + 1) = Q ++ [pl ++ [x]]) := hide (by rw [pcs_yes Hch.out, hQ, ← hpl, pat_at Hx.out]; rfl)
            rw [hQ, hpl, hsv] at HL2
            clear hQ hpl hsv
            obtain ⟨N, hN⟩ : ∃ N, Q.length = N := ⟨_, rfl⟩
            obtain ⟨g, cap, hf, _, _⟩ := HL2.out.own.some (by intro e; have := congrArg List.length e; rw [HL2.out.len, List.length_append] at this; simp at this)
            rw [HL2.out.len, List.length_append, List.length_singleton, hN] at hf
            subst hf
            have hat : (Q ++ [pl])[N]? = some pl := by rw [← hN]; exact last_at Q pl
            have hset : (Q ++ [pl]).set N (pl ++ [x]) = Q ++ [pl ++ [x]] := by rw [← hN]; exact set_last Q pl _
            obtain ⟨s, hs, hsl, c8, f8, hov⟩ := HL2.out.cell hat
            have Hs := hide hs
            have Hsl := hide hsl
            have Hov := hide hov
            have Hat := hide hat
            have Hset := hide hset
            obtain ⟨pn, hpn⟩ : ∃ pn, pl.length = pn := ⟨_, rfl⟩
            rw [hpn] at c8 Hov Hsl
            have Hl5 : Hid (pl.length + [x].length ≤ 1000000) := hide (by have := Hpl.out; simp; omega)
            have Hba : Hid (∀ (o : Obj), Below W2.heap.size W2 (W2.alloc o)) := hide (fun o => (Below.refl _ _).alloc (Nat.le_refl _) o)
            have Hla : Hid (∀ (o : Obj), Lb W1.heap.size (W2.alloc o) (.slice (some ⟨g, 0, none⟩) (N + 1) cap) svs2 (Q ++ [pl])) := hide (fun o => HL2.out.keep (Hba.out o))
            have HBa : Hid (∀ (o : Obj), Below W1.heap.size W1 (W2.alloc o)) := hide (fun o => HB2.out.trans ((Hba.out o).mono HB2.out.size))
            have Hgr : Hid (∀ (V W : World), World.grownBy V W (Value.slice s.a pn s.c).ownBlock → World.grownBy V W (Value.slice s.a s.l s.c).ownBlock) := hide (fun V W h => by rw [Hsl.out]; exact h)
            have Hcl : Hid (∀ W : World, W.cell? ⟨g, N, none⟩ = some (.slice s.a s.l s.c) → W.cell? ⟨g, N, none⟩ = some (.slice s.a pn s.c)) := hide (fun W h => by rw [h, Hsl.out])
            have N5 : (N : Int) + 1 ≤ 1001 := by have := HQ.out; omega
            have N6 : (N : Int) + 1 - 1 = (N : Int) := by omega
            have N7 : (0 : Int) ≤ (N : Int) := by omega
            have N8 : (N : Int) < (N : Int) + 1 := by omega
            obtain ⟨sa, sl, sc⟩ := s
            simp only at c8 Hov Hgr Hcl Hs
            clear hN hat hset hs hsl hov hpn
            go_wp2_with (at_builtin; refine intE.wp (w0 := W1) (HBa.out _) (by rfl) _ _ rfl _ _ rfl rfl pl [x] (Hov.out.keep (Hba.out _)) (int_new W2 _ _ rfl) Hl5.out ?_; intro v3 w3 ho3 hg3 hs3 hb3; obtain ⟨pa, pll, pcc, rfl⟩ : ∃ a l c, v3 = .slice a l c := (by obtain ⟨a, c, h⟩ := ho3.rd.form; exact ⟨_, _, _, h⟩); obtain ⟨⟨y0, y1⟩, hF⟩ := (Hla.out _).put Hat.out Hs.out ho3 (Hgr.out _ _ hg3) (by rcases hs3 with h | h; exact .inl (by rw [h]; cases sa <;> rfl); exact .inr h); have HF := hide hF; have HB3 : Hid (∀ u, Below W1.heap.size W1 (w3.setCell ⟨g, N, none⟩ u)) := hide (fun u => hb3.setCell (p := ⟨g, N, none⟩) ((Hla.out (.cells #[.int .i64 x] 3)).own.ge g rfl) u); have y2 := Hcl.out _ y0; clear ho3 hg3 hs3 hb3 hF y0)
            go_roundw
            case rel => exact ⟨i + 1, _, by go_num, by omega, hide (HB3.out _), hide (by rw [Hpn.out, ← Hset.out]; exact HF.out)⟩
            case measure => simp [intOf]; omega
      · obtain rfl : i = k := by omega
        have g1 : ¬ (i : Int) < (i : Int) := by omega
        have HB2 := hide (HA.out.trans ((HB1.out.trans (HB.out.mono HB1.out.size)).mono HA.out.size))
        have Hfin : Hid (PP true (pcs (dz ns es) path i) w.heap.size u8 0 wr) := hide (.inl ⟨rfl, rfl, svs, HLb.out.mono (Nat.le_trans HA.out.size HB1.out.size)⟩)
        go_wp2_with fail
        go_ret2
        exact ⟨⟨_, _, rfl, Hfin.out⟩, HB2.out⟩
  · have Hfin : Hid (PP false (pcs (dz ns es) path k) w.heap.size (.slice none 0 0) 1 W1) := hide (.inr ⟨rfl, rfl, rfl⟩)
    have HB2 := hide (HA.out.trans (HB1.out.mono HA.out.size))
    clear HZ
    go_wp2_with fail
    go_ret2
    exact ⟨⟨_, _, rfl, Hfin.out⟩, HB2.out⟩
end Go.Proofs.Ytmmkfcmbmecleaa
