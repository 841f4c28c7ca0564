import Derived.BigQuiet
import Derived.BigRegion
import Derived.ChangeKeysEq
import Derived.ChangeOld
import Derived.Deep.CutRange
import Derived.Deep.DeepCutAuto
import Derived.Deep.QuietTactic
import Derived.Deep.RegionWith
import Derived.Laws.BytesArg
import Derived.Laws.MakeOwn
import Derived.Laws.RangeAny
import Derived.LoopTactic
import Derived.Maps.Own
import Derived.Maps.OwnOps
import Derived.Maps.OwnSet
import Derived.Maps.Views
import Derived.OpenShut
import Derived.ShutString
import Derived.SizedLaws
import Derived.Test.YtocmngpoemfpkabGreatDoorControlSendsAA
import Derived.WideShapes4
set_option linter.unusedVariables false
namespace Go.Proofs.YtocmngpoemfpkabGreatDoor
open Go.RowKit
section
variable {w0 w : World} {l : List It} {B g n m : Nat} {H : Nat × Nat} {es : List (Int × Int)} {S : Mr}
set_option maxRecDepth 100000 in
set_option maxHeartbeats 2000000 in
theorem movedS (h : Its w0 (.mir B g H n m es S :: l) w) (d t : Int) : Calls Tryz.prog 198 #[.pointer (some ⟨g, 0, none⟩), .int .i64 d, .int .i64 t] w fun e w' => e = .returned (.int .i64 (S.mov d t).1) ∧ Its w0 (.mir B g H n m es (S.mov d t).2 :: l) w' := by
 have h1 := h.one
 have hok := (mr_ok h1).mov d t
 have K1 := hide (isDev_m h1 d)
 have K2 := hide (isTote_any t w)
 have HI := hide h
 have e0 : S.mov d t = if (S.isD d && isT t) = false then (1, S) else if (S.dev d).tt = 0 then (4, S) else if (S.dev d).tt ≠ t then (160, S) else (0, ⟨(S.ts.set (S.dev d).fr.toNat 0).set (S.dev d).en.toNat t, S.ds.set (d - 1).toNat { S.dev d with tt := 0 }⟩) := rfl
 rw [e0] at hok ⊢
 cases hD : S.isD d with
 | false =>
  rw [hD] at K1
  rw [if_pos (show (false && isT t) = false from rfl)]
  clear hD e0 h h1 hok
  go_enter Tryz.func198, Tryz.ntmps198
  go_wp2_with (go_at_call 131; refine K1.out.mono ?_; rintro e w1 ⟨rfl, rfl⟩)
  go_ret
  exact ⟨rfl, HI.out⟩
 | true =>
 rw [hD] at K1 hok
 cases hT : isT t with
 | false =>
  rw [hT] at K2
  rw [if_pos (show (true && false) = false from rfl)]
  clear hD hT e0 h h1 hok
  go_enter Tryz.func198, Tryz.ntmps198
  go_wp2_with (first
   | (go_at_call 131; refine K1.out.mono ?_; rintro e w1 ⟨rfl, rfl⟩)
   | (go_at_call 111; refine K2.out.mono ?_; rintro e w1 ⟨rfl, rfl⟩))
  go_ret
  exact ⟨rfl, HI.out⟩
 | true =>
 rw [hT] at K2 hok
 rw [if_neg (show ¬ (true && true) = false by simp)] at hok ⊢
 obtain ⟨k, kf, ke, hd, hk, hk', hp, ef, hkf, ee, hke, hne, X0⟩ := rds_of h1 hD
 have X := hide (X0 w0 l)
 clear X0
 have K4 := hide (device_m h1 k hk)
 obtain ⟨c0, c1, c2, c3, c4, c5, c6, cq, cv, c7, c8, c9⟩ := X.out _ HI.out
 have f2 := c7 2 (by omega)
 have j0 : (0 : Int) ≤ (kf : Int) := by omega
 have j1 : (kf : Int) < (n : Int) := by omega
 have j2 : (0 : Int) ≤ (ke : Int) := by omega
 have j3 : (ke : Int) < (n : Int) := by omega
 have fi : Hid (MFact n m es S) := hide (mr_fact h1)
 have hbd : H.1 ≠ H.2 := fun q => by
  have q1 := own_cells (mr_ts h1) H.1 rfl
  have q2 := own_cells (mr_ds h1) H.2 rfl
  obtain ⟨a, q1, _⟩ := q1
  obtain ⟨b, q2, _⟩ := q2
  rw [q, q2] at q1
  simp only [Option.some.injEq, Obj.cells.injEq] at q1
  exact absurd q1.2.1 (show (215 : Nat) ≠ 3 by omega)
 by_cases z : (S.dev d).tt = 0
 case pos =>
  rw [if_pos z]
  rw [z] at c5
  subst hd
  clear hD hT e0 h h1 hp hk' ef ee hok hne z hbd
  generalize S.att (S.dev ((k : Int) + 1)).fr = xa at *
  generalize S.att (S.dev ((k : Int) + 1)).en = ya at *
  generalize S.dev ((k : Int) + 1) = D at *
  go_enter Tryz.func198, Tryz.ntmps198
  go_wp2_with (first
   | (go_at_call 131; refine K1.out.mono ?_; rintro e w1 ⟨rfl, rfl⟩)
   | (go_at_call 111; refine K2.out.mono ?_; rintro e w1 ⟨rfl, rfl⟩)
   | (go_at_call 132; refine K4.out.mono ?_; rintro e w1 ⟨rfl, rfl⟩))
  go_ret
  exact ⟨rfl, HI.out⟩
 case neg =>
 rw [if_neg z] at hok ⊢
 have ZT : (S.dev d).tt = t → (t == 0) = false := fun q => by rw [← q]; exact beq_eq_false_iff_ne.2 z
 have z' : ((S.dev d).tt == 0) = false := beq_eq_false_iff_ne.2 z
 by_cases y : (S.dev d).tt = t
 case neg =>
  rw [if_pos y]
  have y' : ((S.dev d).tt == t) = false := beq_eq_false_iff_ne.2 y
  subst hd
  clear hD hT e0 h h1 hp hk' ef ee hok hne hbd
  generalize S.att (S.dev ((k : Int) + 1)).fr = xa at *
  generalize S.att (S.dev ((k : Int) + 1)).en = ya at *
  generalize S.dev ((k : Int) + 1) = D at *
  go_enter Tryz.func198, Tryz.ntmps198
  go_wp2_with (first
   | (go_at_call 131; refine K1.out.mono ?_; rintro e w1 ⟨rfl, rfl⟩)
   | (go_at_call 111; refine K2.out.mono ?_; rintro e w1 ⟨rfl, rfl⟩)
   | (go_at_call 132; refine K4.out.mono ?_; rintro e w1 ⟨rfl, rfl⟩))
  go_ret
  exact ⟨rfl, HI.out⟩
 case pos =>
 rw [if_neg (by simpa using y)] at hok ⊢
 rw [ef, ee, hk', show ((kf : Int)).toNat = kf by omega, show ((ke : Int)).toNat = ke by omega] at hok ⊢
 have Y : Hid (∀ W, Its w0 (mparts B g H n m S ++ l) W → Its w0 (mparts B g H n m ⟨(S.ts.set kf 0).set ke t, S.ds⟩ ++ l) ((W.setCell ⟨H.1, kf, none⟩ (.int .i64 0)).setCell ⟨H.1, ke, none⟩ (.int .i64 t))) := hide (fun W hW => ((hW.swap.tset kf 0).tset ke t).swap)
 have Z : Hid (∀ W, Its w0 (mparts B g H n m ⟨(S.ts.set kf 0).set ke t, S.ds⟩ ++ l) W → W.cell? ⟨H.2, k * 6 + 2, none⟩ = some (.int .i64 t) ∧ W.frozen? ⟨H.2, k * 6 + 2, none⟩ = false ∧
   Its w0 (.mir B g H n m es ⟨(S.ts.set kf 0).set ke t, S.ds.set k { S.dev d with tt := 0 }⟩ :: l) (W.setCell ⟨H.2, k * 6 + 2, none⟩ (.int .i64 0))) := hide (fun W hW => by
  have o1 : dvE.Own W B (.slice (some ⟨H.2, 0, none⟩) m m) S.ds := hW.one
  have a1 := (dv_at o1.rd k _ hp).2.2.1
  rw [y] at a1
  have a2 := (o1.cell (k * 6 + 2) (by show k * 6 + 2 < S.ds.length * 6; have := idx_lt hp; omega)).2.1
  exact ⟨a1, a2, Its.mshut (S := ⟨(S.ts.set kf 0).set ke t, S.ds.set k { S.dev d with tt := 0 }⟩) (Its.dset hW hp { S.dev d with tt := 0 } 2 (.int .i64 0) (by omega) rfl) ⟨hok, fi.out.2⟩⟩)
 replace ZT := ZT y
 have HO := hide HI.out.mopen.1
 rw [y] at c5
 have hek : ke ≠ kf := fun q => hne q.symm
 subst hd
 generalize S.att (S.dev ((k : Int) + 1)).fr = xa at *
 generalize S.att (S.dev ((k : Int) + 1)).en = ya at *
 generalize S.dev ((k : Int) + 1) = D at *
 clear hD hT e0 h h1 hp hk' ef ee hok z y z' c7
 go_enter Tryz.func198, Tryz.ntmps198
 go_wp2_with (first
   | (go_at_call 131; refine K1.out.mono ?_; rintro e w1 ⟨rfl, rfl⟩)
   | (go_at_call 111; refine K2.out.mono ?_; rintro e w1 ⟨rfl, rfl⟩)
   | (go_at_call 132; refine K4.out.mono ?_; rintro e w1 ⟨rfl, rfl⟩))
 go_region
 have q1 : Its w0 (mparts B g H n m ⟨(S.ts.set kf 0).set ke t, S.ds⟩ ++ l) ((w1.setCell ⟨H.1, kf, none⟩ (.int .i64 0)).setCell ⟨H.1, ke, none⟩ (.int .i64 t)).drew := (Y.out _ HO.out).drew 1
 obtain ⟨y1, y2, y3⟩ := Z.out _ q1
 have HY := hide y3
 clear q1 y3 Y Z X HO HI K1 K2 K4 c0 c1 c2 c3 c4 c5 c6 c8 c9 cq cv f2
 generalize ((w1.setCell ⟨H.1, kf, none⟩ (.int .i64 0)).setCell ⟨H.1, ke, none⟩ (.int .i64 t)).drew = wz at *
 go_wp2_with fail
 go_ret
 exact ⟨rfl, HY.out⟩
set_option maxRecDepth 100000 in
set_option maxHeartbeats 2000000 in
theorem applyS (h : Its w0 (.mir B g H n m es S :: l) w) (x : Nt) : Calls Tryz.prog 146 #[.pointer (some ⟨g, 0, none⟩), .agg #[.int .i64 x.kind, .int .i64 x.a, .int .i64 x.b, .int .i64 x.c]] w fun e w' => e = .returned (.int .i64 (S.app x).1) ∧ Its w0 (.mir B g H n m es (S.app x).2 :: l) w' := by
  obtain ⟨w1, hw1⟩ : ∃ w1, w.alloc (.cells #[.int .i64 x.kind, .int .i64 x.a, .int .i64 x.b, .int .i64 x.c] 101) = w1 := ⟨_, rfl⟩
  have h1 : Its w0 (.mir B g H n m es S :: l) w1 := by rw [← hw1]; exact h.alloc _
  have b1 : w1.heap[w.heap.size]? = some (.cells #[.int .i64 x.kind, .int .i64 x.a, .int .i64 x.b, .int .i64 x.c] 101) := by rw [← hw1]; exact heap_new _ _
  have y0 : w1.cell? ⟨w.heap.size, 0, none⟩ = some (.int .i64 x.kind) := (cells_at b1 0).1
  have y1 : w1.cell? ⟨w.heap.size, 1, none⟩ = some (.int .i64 x.a) := (cells_at b1 1).1
  have y2 : w1.cell? ⟨w.heap.size, 2, none⟩ = some (.int .i64 x.b) := (cells_at b1 2).1
  have y3 : w1.cell? ⟨w.heap.size, 3, none⟩ = some (.int .i64 x.c) := (cells_at b1 3).1
  have HI := hide h1
  have K1 := hide (putS h1 x.a x.b)
  have K4 := hide (sendS h1 x.a x.b x.c)
  have K5 := hide (movedS h1 x.a x.b)
  have K7 := hide (dropS h1 x.a)
  have K8 := hide (maskS h1 x.a (decide (x.b = 1)))
  have e0 : S.app x = if x.kind = 1 then S.put x.a x.b else if x.kind = 4 then S.snd x.a x.b x.c else if x.kind = 5 then S.mov x.a x.b else if x.kind = 7 then S.drp x.a else if x.kind = 8 then S.msk x.a (decide (x.b = 1)) else (23, S) := rfl
  rw [e0]
  obtain ⟨kd, xa, xb, xc⟩ := x
  dsimp only at *
  subst hw1
  clear e0 h h1 b1
  by_cases k1 : kd = 1
  · subst k1
    rw [if_pos rfl]
    go_enter Tryz.func146, Tryz.ntmps146
    go_wp2_with (go_at_call 196; refine K1.out.mono ?_; rintro e w2 ⟨rfl, q⟩; have HQ := hide q; clear q)
    go_ret
    exact ⟨rfl, HQ.out⟩
  rw [if_neg k1]
  have k1' : (kd == 1) = false := beq_eq_false_iff_ne.2 k1
  by_cases k4 : kd = 4
  · subst k4
    rw [if_pos rfl]
    clear k1 k1'
    go_enter Tryz.func146, Tryz.ntmps146
    go_wp2_with (go_at_call 197; refine K4.out.mono ?_; rintro e w2 ⟨rfl, q⟩; have HQ := hide q; clear q)
    go_ret
    exact ⟨rfl, HQ.out⟩
  rw [if_neg k4]
  have k4' : (kd == 4) = false := beq_eq_false_iff_ne.2 k4
  by_cases k5 : kd = 5
  · subst k5
    rw [if_pos rfl]
    clear k1 k1' k4 k4'
    go_enter Tryz.func146, Tryz.ntmps146
    go_wp2_with (go_at_call 198; refine K5.out.mono ?_; rintro e w2 ⟨rfl, q⟩; have HQ := hide q; clear q)
    go_ret
    exact ⟨rfl, HQ.out⟩
  rw [if_neg k5]
  have k5' : (kd == 5) = false := beq_eq_false_iff_ne.2 k5
  by_cases k7 : kd = 7
  · subst k7
    rw [if_pos rfl]
    clear k1 k1' k4 k4' k5 k5'
    go_enter Tryz.func146, Tryz.ntmps146
    go_wp2_with (go_at_call 199; refine K7.out.mono ?_; rintro e w2 ⟨rfl, q⟩; have HQ := hide q; clear q)
    go_ret
    exact ⟨rfl, HQ.out⟩
  rw [if_neg k7]
  have k7' : (kd == 7) = false := beq_eq_false_iff_ne.2 k7
  by_cases k8 : kd = 8
  · subst k8
    rw [if_pos rfl]
    clear k1 k1' k4 k4' k5 k5' k7 k7'
    have eb : (xb == 1) = decide (xb = 1) := by by_cases q : xb = 1 <;> simp [q]
    generalize decide (xb = 1) = bb at *
    go_enter Tryz.func146, Tryz.ntmps146
    go_wp2_with (go_at_call 200; refine K8.out.mono ?_; rintro e w2 ⟨rfl, q⟩; have HQ := hide q; clear q)
    go_ret
    exact ⟨rfl, HQ.out⟩
  rw [if_neg k8]
  have k8' : (kd == 8) = false := beq_eq_false_iff_ne.2 k8
  go_enter Tryz.func146, Tryz.ntmps146
  go_wp2_with fail
  go_ret
  exact ⟨rfl, HI.out⟩
end
open Go.RowKit
theorem downF_app (i : Nat) (l : List Dv) (D : Dv) : downF i (l ++ [D]) = downF i l ++ (if D.dn then [((i + l.length : Nat) : Int) + 1] else []) := by
 induction l generalizing i with
 | nil => simp [downF]
 | cons E t ih =>
  rw [List.cons_append]
  unfold downF
  rw [ih]
  have : i + 1 + t.length = i + (E :: t).length := by simp; omega
  rw [this]
  by_cases h : E.dn <;> simp [h]
theorem take_one {α : Type} {l : List α} {k : Nat} {x : α} (h : l[k]? = some x) : l.take (k + 1) = l.take k ++ [x] := by
 rw [List.take_add_one, h]; rfl
theorem downF_len (i : Nat) (l : List Dv) : (downF i l).length ≤ l.length := by
 induction l generalizing i with
 | nil => simp [downF]
 | cons E t ih =>
  have := ih (i + 1)
  unfold downF
  by_cases h : E.dn <;> simp [h] <;> omega
open Go.RowKit
structure Nd where
 name : ByteArray
 kind : Int
 zone : Int
deriving DecidableEq
abbrev Ed := Int × Int
def ndE : El Tryz.prog Nd where
 t := 22
 e := 133
 k := 3
 by' := 32
 z := .agg #[.string ByteArray.empty, .int .i64 0, .int .i64 0]
 enc n := [.string n.name, .int .i64 n.kind, .int .i64 n.zone]
 ht := Tryz.underlying22
 info := by kernel_rfl
 zc := rfl
 kpos := by omega
 bsm := by omega
 len _ := rfl
 one x v hv := by simp at hv; rcases hv with rfl | rfl | rfl <;> rfl
def edE : El Tryz.prog Ed where
 t := 23
 e := 65
 k := 2
 by' := 16
 z := .agg #[.int .i64 0, .int .i64 0]
 enc e := [.int .i64 e.1, .int .i64 e.2]
 ht := Tryz.underlying23
 info := by kernel_rfl
 zc := rfl
 kpos := by omega
 bsm := by omega
 len _ := rfl
 one x v hv := by simp at hv; rcases hv with rfl | rfl <;> rfl
def chOk (i x : Nat) : Bool := decide (97 ≤ x ∧ x ≤ 122) || (decide (48 ≤ x ∧ x ≤ 57) && decide (i ≠ 0))
def byteAt (s : ByteArray) (i : Nat) : Nat := (s.data.toList[i]?.getD 0).toNat
def nameB (s : ByteArray) : Bool := decide (1 ≤ s.size ∧ s.size ≤ 8 ∧ ∀ i, i < s.size → chOk i (byteAt s i) = true)
def zoneB (z : Int) : Bool := decide (0 ≤ z ∧ z < 8)
def ndB (n : Nd) : Bool := nameB n.name && decide (1 ≤ n.kind ∧ n.kind ≤ 4) && zoneB n.zone
def goodN (ns : List Nd) : Bool := decide (1 ≤ ns.length ∧ ns.length ≤ 40 ∧ (∀ n ∈ ns, ndB n = true) ∧ (ns.map (·.name)).Nodup)
def placeB (ns : List Nd) (i : Int) : Bool := decide (0 ≤ i ∧ i < ns.length)
def kindAt (ns : List Nd) (i : Int) : Int := (ns[i.toNat]?.map (·.kind)).getD 0
def edB (ns : List Nd) (e : Ed) : Bool := placeB ns e.1 && placeB ns e.2 && decide (e.1 ≠ e.2) && (decide (kindAt ns e.1 = 1) || decide (kindAt ns e.2 = 1))
def goodE (ns : List Nd) (es : List Ed) : Bool := decide (es.length ≤ 120 ∧ (∀ e ∈ es, edB ns e = true) ∧ es.Nodup)
def good (ns : List Nd) (es : List Ed) : Bool := goodN ns && goodE ns es
theorem byteAt_eq (s : ByteArray) (i : Nat) (h : i < s.size) : byteAt s i = (s[i]'h).toNat := by
 unfold byteAt
 have hl : i < s.data.toList.length := by simpa using h
 rw [List.getElem?_eq_getElem hl]
 rfl
open Go.RowKit
set_option maxHeartbeats 1000000 in
theorem isZone_any (z : Int) (w : World) : Calls Tryz.prog 192 #[.int .i64 z] w fun e w' => e = .returned (.bool (zoneB z)) ∧ w' = w := by
  unfold zoneB
  by_cases h1 : 0 ≤ z
  · by_cases h2 : z < 8
    · go_enter Tryz.func192, Tryz.ntmps192
      go_wp2_with fail
      go_ret
      exact ⟨by simp [h1, h2], rfl⟩
    · go_enter Tryz.func192, Tryz.ntmps192
      go_wp2_with fail
      go_ret
      exact ⟨by simp [h2], rfl⟩
  · go_enter Tryz.func192, Tryz.ntmps192
    go_wp2_with fail
    go_ret
    exact ⟨by rw [decide_eq_false (by omega)]; rfl, rfl⟩
set_option maxHeartbeats 1000000 in
theorem isPlace_any (a : Option Addr) (n c : Nat) (i : Int) (w : World) : Calls Tryz.prog 193 #[.slice a n c, .int .i64 i] w fun e w' => e = .returned (.bool (decide (0 ≤ i ∧ i < n))) ∧ w' = w := by
  by_cases h1 : 0 ≤ i
  · by_cases h2 : i < n
    · go_enter Tryz.func193, Tryz.ntmps193
      go_wp2_with fail
      go_ret
      exact ⟨by simp [h1, h2], rfl⟩
    · go_enter Tryz.func193, Tryz.ntmps193
      go_wp2_with fail
      go_ret
      exact ⟨by simp [h2], rfl⟩
  · go_enter Tryz.func193, Tryz.ntmps193
    go_wp2_with fail
    go_ret
    exact ⟨by rw [decide_eq_false (by omega)]; rfl, rfl⟩
set_option maxRecDepth 100000 in
set_option maxHeartbeats 4000000 in
theorem isName_any (s : ByteArray) (w : World) : Calls Tryz.prog 189 #[.string s] w fun e w' => e = .returned (.bool (nameB s)) ∧ Below w.heap.size w w' := by
  have b0 : Below w.heap.size w w := Below.refl _ _
  by_cases h1 : s.size < 1
  · have e1 : nameB s = false := by unfold nameB; exact decide_eq_false (by omega)
    rw [e1]
    have h1' : (s.size : Int) < 1 := by omega
    go_enter Tryz.func189, Tryz.ntmps189
    go_wp2_with fail
    go_ret
    exact ⟨rfl, b0⟩
  by_cases h2 : 8 < s.size
  · have e1 : nameB s = false := by unfold nameB; exact decide_eq_false (by omega)
    rw [e1]
    have h1' : ¬ (s.size : Int) < 1 := by omega
    have h2' : (8 : Int) < s.size := by omega
    go_enter Tryz.func189, Tryz.ntmps189
    go_wp2_with fail
    go_ret
    exact ⟨rfl, b0⟩
  have h1' : ¬ (s.size : Int) < 1 := by omega
  have h2' : ¬ (8 : Int) < s.size := by omega
  have fin : Hid (∀ p, Below w.heap.size w (w.iter s p)) := hide (fun p => (Below.refl _ _).alloc (Nat.le_refl _) _)
  have no : Hid (∀ i, i < s.size → chOk i (byteAt s i) = false → nameB s = false) := hide (fun i hi hc => by
    unfold nameB
    refine decide_eq_false (fun h => ?_)
    rw [h.2.2 i hi] at hc; cases hc)
  have yes : Hid ((∀ i, i < s.size → chOk i (byteAt s i) = true) → nameB s = true) := hide (fun h => by
    unfold nameB
    exact decide_eq_true ⟨by omega, by omega, h⟩)
  generalize nameB s = res at *
  have Hn := hide (And.intro h1 h2)
  clear h1 h2 b0
  go_enter Tryz.func189, Tryz.ntmps189
  go_wp2_with fail
  go_loopw [] (fun wr => ∃ pos : Nat, wr = w.iter s pos ∧ pos ≤ s.size ∧ Hid (∀ i, i < pos → chOk i (byteAt s i) = true)) (fun wr => s.size - wr.iterPos w.heap.size)
  case atStart => exact ⟨0, rfl, Nat.zero_le _, hide (fun i hi => by omega)⟩
  case round =>
    obtain ⟨pos, rfl, hp, hall⟩ := hrel
    by_cases hlt : pos < s.size
    · have hnx : ∀ ty, (Instr.next (.pointer (some ⟨w.heap.size, 0, none⟩)) true ty).run Tryz.prog (w.iter s pos) = _ := fun ty => run_next_any w s pos ty hlt
      have hk : Hid (chOk pos (byteAt s pos) = (decide (97 ≤ (Utf8.decode s pos).1 ∧ (Utf8.decode s pos).1 ≤ 122) || (decide (48 ≤ (Utf8.decode s pos).1 ∧ (Utf8.decode s pos).1 ≤ 57) && decide (pos ≠ 0))) ∧ (chOk pos (byteAt s pos) = true → (Utf8.decode s pos).2 = 1)) := hide (by
        by_cases ha : (s[pos]'hlt).toNat < 128
        · rw [decode_ascii s pos hlt ha, byteAt_eq s pos hlt]
          exact ⟨rfl, fun _ => rfl⟩
        · have hh := (decode_high s pos hlt (by omega)).1
          rw [byteAt_eq s pos hlt]
          generalize (s[pos]'hlt).toNat = x at *
          generalize (Utf8.decode s pos).1 = y at *
          have z : chOk pos x = false := by
            unfold chOk
            rw [decide_eq_false (by omega), decide_eq_false (by omega)]; rfl
          refine ⟨?_, fun h => by rw [z] at h; cases h⟩
          rw [z, decide_eq_false (show ¬ (97 ≤ y ∧ y ≤ 122) by omega), decide_eq_false (show ¬ (48 ≤ y ∧ y ≤ 57) by omega)]; rfl)
      have hrl := decode_le s pos
      generalize (Utf8.decode s pos).1 = r at *
      generalize (Utf8.decode s pos).2 = d at *
      have step : Hid (chOk pos (byteAt s pos) = true → d = 1 ∧ ∀ i, i < pos + 1 → chOk i (byteAt s i) = true) := hide (fun h => ⟨hk.out.2 h, fun i hi => by
        rcases Nat.lt_or_ge i pos with h' | h'
        · exact hall.out i h'
        · obtain rfl : i = pos := by omega
          exact h⟩)
      have kk := hk.out.1
      have Hkk := hide kk
      clear kk hk
      by_cases l1 : 97 ≤ r ∧ r ≤ 122
      · have c1 : chOk pos (byteAt s pos) = true := by rw [Hkk.out, decide_eq_true l1]; rfl
        obtain ⟨rfl, st⟩ := step.out c1
        have Hst := hide st
        obtain ⟨l2, l3⟩ := l1
        have l2' : (97 : Int) ≤ (r : Int) := by omega
        have l3' : (r : Int) ≤ 122 := by omega
        clear st step Hkk c1
        by_cases d1 : 48 ≤ r ∧ r ≤ 57
        · omega
        · by_cases d2 : 48 ≤ r
          · have d2' : (48 : Int) ≤ (r : Int) := by omega
            have d3' : ¬ (r : Int) ≤ 57 := by omega
            clear d1
            go_wp2_with fail
            go_roundw
            case rel => exact ⟨pos + 1, rfl, by omega, Hst⟩
            case measure => simp; omega
          · have d2' : ¬ (48 : Int) ≤ (r : Int) := by omega
            clear d1
            go_wp2_with fail
            go_roundw
            case rel => exact ⟨pos + 1, rfl, by omega, Hst⟩
            case measure => simp; omega
      · have lf : ¬ ((97 : Int) ≤ (r : Int) ∧ (r : Int) ≤ 122) := by omega
        by_cases d1 : 48 ≤ r ∧ r ≤ 57
        · have l2' : ¬ (97 : Int) ≤ (r : Int) := by omega
          have d2' : (48 : Int) ≤ (r : Int) := by omega
          have d3' : (r : Int) ≤ 57 := by omega
          by_cases p0 : pos = 0
          · have c1 : chOk pos (byteAt s pos) = false := by rw [Hkk.out, decide_eq_false l1, decide_eq_true d1, decide_eq_false (by simpa using p0)]; rfl
            have c2 := no.out pos hlt c1
            subst c2
            subst p0
            clear l1 lf d1 step Hkk c1
            go_wp2_with fail
            go_ret
            exact ⟨rfl, fin.out _⟩
          · have c1 : chOk pos (byteAt s pos) = true := by rw [Hkk.out, decide_eq_false l1, decide_eq_true d1, decide_eq_true (by simpa using p0)]; rfl
            obtain ⟨rfl, st⟩ := step.out c1
            have Hst := hide st
            have p0' : ¬ (pos : Int) = 0 := by omega
            clear st step Hkk c1 l1 lf d1
            go_wp2_with fail
            go_roundw
            case rel => exact ⟨pos + 1, rfl, by omega, Hst⟩
            case measure => simp; omega
        · have c1 : chOk pos (byteAt s pos) = false := by rw [Hkk.out, decide_eq_false l1, decide_eq_false d1]; rfl
          have c2 := no.out pos hlt c1
          subst c2
          have df : ¬ ((48 : Int) ≤ (r : Int) ∧ (r : Int) ≤ 57) := by omega
          clear step Hkk c1 l1 d1
          by_cases l2 : (97 : Int) ≤ (r : Int)
          · have l3 : ¬ (r : Int) ≤ 122 := fun h => lf ⟨l2, h⟩
            have d2 : (48 : Int) ≤ (r : Int) := by omega
            have d3 : ¬ (r : Int) ≤ 57 := by omega
            clear lf df
            go_wp2_with fail
            go_ret
            exact ⟨rfl, fin.out _⟩
          · by_cases d2 : (48 : Int) ≤ (r : Int)
            · have d3 : ¬ (r : Int) ≤ 57 := fun h => df ⟨d2, h⟩
              clear lf df
              go_wp2_with fail
              go_ret
              exact ⟨rfl, fin.out _⟩
            · clear lf df
              go_wp2_with fail
              go_ret
              exact ⟨rfl, fin.out _⟩
    · obtain rfl : pos = s.size := by omega
      have hnx : ∀ ty, (Instr.next (.pointer (some ⟨w.heap.size, 0, none⟩)) true ty).run Tryz.prog (w.iter s s.size) = _ := fun ty => run_next_end w s s.size ty hlt
      have c2 := yes.out hall.out
      subst c2
      go_wp2_with fail
      go_ret
      exact ⟨rfl, fin.out _⟩
set_option maxRecDepth 100000 in
set_option maxHeartbeats 2000000 in
theorem isNode_any (n : Nd) (w : World) : Calls Tryz.prog 138 #[.agg #[.string n.name, .int .i64 n.kind, .int .i64 n.zone]] w fun e w' => e = .returned (.bool (ndB n)) ∧ Below w.heap.size w w' := by
  obtain ⟨s, k, z⟩ := n
  have K50 := hide (fun W => isName_any s W)
  have K51 := hide (fun W => isZone_any z W)
  have e1 : Hid (ndB ⟨s, k, z⟩ = (nameB s && (decide (1 ≤ k) && (decide (k ≤ 4) && zoneB z)))) := hide (by
    unfold ndB
    show (nameB s && decide (1 ≤ k ∧ k ≤ 4) && zoneB z) = _
    rw [Bool.decide_and]; cases nameB s <;> cases decide (1 ≤ k) <;> cases decide (k ≤ 4) <;> rfl)
  have bA : Below w.heap.size w (w.alloc (.cells #[.string s, .int .i64 k, .int .i64 z] 133)) := (Below.refl _ _).alloc (Nat.le_refl _) _
  have fin : Hid (∀ W', Below (w.alloc (.cells #[.string s, .int .i64 k, .int .i64 z] 133)).heap.size (w.alloc (.cells #[.string s, .int .i64 k, .int .i64 z] 133)) W' → Below w.heap.size w W' ∧ ∀ i, W'.cell? ⟨w.heap.size, i, none⟩ = #[Value.string s, .int .i64 k, .int .i64 z][i]?) := hide (fun W' h => ⟨bA.trans (h.mono (by simp)), fun i => by
    have hx : W'.heap[w.heap.size]? = some (.cells #[.string s, .int .i64 k, .int .i64 z] 133) := by rw [h.block _ (by simp)]; exact heap_new _ _
    exact (cells_at hx i).1⟩)
  show Calls Tryz.prog 138 #[.agg #[.string s, .int .i64 k, .int .i64 z]] w _
  rw [e1.out]
  clear bA
  cases hn : nameB s with
  | false =>
    go_enter Tryz.func138, Tryz.ntmps138
    go_wp2_with ((go_at_call 189; refine (K50.out _).mono ?_; rintro e W1 ⟨rfl, h1⟩; rw [hn]; obtain ⟨f1, f2⟩ := fin.out _ h1; have Hf := hide f1; clear f1 h1))
    go_ret
    exact ⟨rfl, Hf.out⟩
  | true =>
    by_cases k1 : 1 ≤ k
    · by_cases k2 : k ≤ 4
      · rw [decide_eq_true k1, decide_eq_true k2]
        go_enter Tryz.func138, Tryz.ntmps138
        go_wp2_with (first
          | (go_at_call 189; refine (K50.out _).mono ?_; rintro e W1 ⟨rfl, h1⟩; rw [hn]; obtain ⟨f1, f2⟩ := fin.out _ h1; have Hf := hide f1; have g1 := f2 1; have g2 := f2 2; simp at g1 g2; clear f1 f2 h1)
          | (go_at_call 192; refine (K51.out _).mono ?_; rintro e W2 ⟨rfl, rfl⟩))
        go_ret
        exact ⟨rfl, Hf.out⟩
      · rw [decide_eq_true k1, decide_eq_false k2]
        go_enter Tryz.func138, Tryz.ntmps138
        go_wp2_with ((go_at_call 189; refine (K50.out _).mono ?_; rintro e W1 ⟨rfl, h1⟩; rw [hn]; obtain ⟨f1, f2⟩ := fin.out _ h1; have Hf := hide f1; have g1 := f2 1; simp at g1; clear f1 f2 h1))
        go_ret
        exact ⟨rfl, Hf.out⟩
    · rw [decide_eq_false k1]
      go_enter Tryz.func138, Tryz.ntmps138
      go_wp2_with ((go_at_call 189; refine (K50.out _).mono ?_; rintro e W1 ⟨rfl, h1⟩; rw [hn]; obtain ⟨f1, f2⟩ := fin.out _ h1; have Hf := hide f1; have g1 := f2 1; simp at g1; clear f1 f2 h1))
      go_ret
      exact ⟨rfl, Hf.out⟩
open Go.RowKit
theorem nd_at {w : World} {a : Option Addr} {n c : Nat} {ns : List Nd} (h : ndE.Rd w (.slice a n c) ns) (i : Nat) (p : Nd) (hp : ns[i]? = some p) : ∃ b off, a = some ⟨b, off, none⟩ ∧ w.cell? ⟨b, off + i * 3, none⟩ = some (.string p.name) ∧ w.cell? ⟨b, off + i * 3 + 1, none⟩ = some (.int .i64 p.kind) ∧ w.cell? ⟨b, off + i * 3 + 2, none⟩ = some (.int .i64 p.zone) := by
 obtain ⟨b, off, h1, h2⟩ := h.at i p hp
 exact ⟨b, off, h1, h2 0 (by decide), h2 1 (by decide), h2 2 (by decide)⟩
theorem ed_at {w : World} {a : Option Addr} {n c : Nat} {es : List Ed} (h : edE.Rd w (.slice a n c) es) (i : Nat) (p : Ed) (hp : es[i]? = some p) : ∃ b off, a = some ⟨b, off, none⟩ ∧ w.cell? ⟨b, off + i * 2, none⟩ = some (.int .i64 p.1) ∧ w.cell? ⟨b, off + i * 2 + 1, none⟩ = some (.int .i64 p.2) := by
 obtain ⟨b, off, h1, h2⟩ := h.at i p hp
 exact ⟨b, off, h1, h2 0 (by decide), h2 1 (by decide)⟩
theorem take_mem {ns : List Nd} {k : Nat} {p : Nd} (hp : ns[k]? = some p) (s : ByteArray) : s ∈ (ns.take (k + 1)).map (·.name) ↔ s ∈ (ns.take k).map (·.name) ∨ s = p.name := by
 rw [List.take_add_one, hp, List.map_append]; simp
theorem dup_no {ns : List Nd} {k : Nat} {p : Nd} (hp : ns[k]? = some p) (h : p.name ∈ (ns.take k).map (·.name)) : goodN ns = false := by
  unfold goodN
  refine decide_eq_false fun hg => ?_
  have hn := hg.2.2.2
  have hk : k < ns.length := by
    rcases Nat.lt_or_ge k ns.length with h' | h'
    · exact h'
    · rw [List.getElem?_eq_none h'] at hp; cases hp
  have e : ns = ns.take k ++ p :: ns.drop (k + 1) := by
    rw [List.getElem?_eq_getElem hk] at hp
    cases hp
    rw [List.getElem_cons_drop, List.take_append_drop]
  rw [e, List.map_append, List.map_cons, List.nodup_append] at hn
  exact hn.2.2 _ h _ (List.mem_cons_self ..) rfl
theorem bad_no {ns : List Nd} {k : Nat} {p : Nd} (hp : ns[k]? = some p) (h : ndB p = false) : goodN ns = false := by
 unfold goodN
 refine decide_eq_false fun hg => ?_
 rw [hg.2.2.1 p (List.mem_of_getElem? hp)] at h; cases h
theorem take_nodup {ns : List Nd} {k : Nat} {p : Nd} (hp : ns[k]? = some p) (h : ((ns.take k).map (·.name)).Nodup) (h2 : p.name ∉ (ns.take k).map (·.name)) : ((ns.take (k + 1)).map (·.name)).Nodup := by
 rw [List.take_add_one, hp, List.map_append]
 simp only [Option.toList_some, List.map_cons, List.map_nil]
 rw [List.nodup_append]
 exact ⟨h, by simp, fun a ha b hb => by simp at hb; subst hb; rintro rfl; exact h2 ha⟩
theorem info3 : (Tryz.prog.info? 3).map (fun i => i.size) = some 1 := by kernel_rfl
theorem ed_equal' (w : World) (a b c e : Int) (d : Nat) : (Op.equalIn (d + 1 + 1) 65 (.agg #[.int .i64 a, .int .i64 b]) (.agg #[.int .i64 c, .int .i64 e])).run Tryz.prog w = .ok (decide ((a, b) = (c, e))) w := by
  obtain ⟨i, hi, he⟩ := Option.map_eq_some_iff.1 info3
  have c3 : Tryz.prog.cellsOf 3 = 1 := by kernel_rfl
  have p1 : ∀ (xs : Array Value) (j : Nat) (v : Value), xs[j]? = some v → (part 3 xs j).run Tryz.prog w = .ok v w := fun xs j v h => by
    have ag : (isAgg 3).run Tryz.prog w = .ok false w := by kernel_rfl
    simp [part, ag, h]
  rw [run_equalIn_array w (d + 1) #[.int .i64 a, .int .i64 b] #[.int .i64 c, .int .i64 e] Tryz.underlying65 hi, c3]
  simp only [show List.range 2 = [0, 1] from rfl, Op.eqItems, Sem.run_bind, Nat.zero_mul, Nat.one_mul]
  rw [p1 _ 0 (.int .i64 a) rfl]
  simp only [Result.andThen_ok]
  rw [p1 _ 0 (.int .i64 c) rfl]
  simp only [Result.andThen_ok, run_equalIn_int w d 3 .i64 .i64 a c Tryz.underlying3]
  by_cases h1 : a = c
  · subst h1
    simp only [beq_self_eq_true, Bool.not_true, Bool.false_eq_true, if_false, Sem.run_bind]
    rw [p1 _ 1 (.int .i64 b) rfl]
    simp only [Result.andThen_ok]
    rw [p1 _ 1 (.int .i64 e) rfl]
    simp only [Result.andThen_ok, run_equalIn_int w d 3 .i64 .i64 b e Tryz.underlying3]
    by_cases h2 : b = e
    · subst h2; simp
    · simp [h2]
  · simp [h1]
theorem ed_equal (w : World) (a b c e : Int) : (Op.equalIn 10000 65 (.agg #[.int .i64 a, .int .i64 b]) (.agg #[.int .i64 c, .int .i64 e])).run Tryz.prog w = .ok (decide ((a, b) = (c, e))) w := ed_equal' w a b c e 9998
theorem edge_dup {ns : List Nd} {es : List Ed} {k : Nat} {p : Ed} (hp : es[k]? = some p) (h : p ∈ es.take k) : goodE ns es = false := by
  unfold goodE
  refine decide_eq_false fun hg => ?_
  have hn := hg.2.2
  have hk : k < es.length := by
    rcases Nat.lt_or_ge k es.length with h' | h'
    · exact h'
    · rw [List.getElem?_eq_none h'] at hp; cases hp
  have e : es = es.take k ++ p :: es.drop (k + 1) := by
    rw [List.getElem?_eq_getElem hk] at hp
    cases hp
    rw [List.getElem_cons_drop, List.take_append_drop]
  rw [e, List.nodup_append] at hn
  exact hn.2.2 _ h _ (List.mem_cons_self ..) rfl
theorem edge_bad {ns : List Nd} {es : List Ed} {k : Nat} {p : Ed} (hp : es[k]? = some p) (h : edB ns p = false) : goodE ns es = false := by
 unfold goodE
 refine decide_eq_false fun hg => ?_
 rw [hg.2.1 p (List.mem_of_getElem? hp)] at h; cases h
theorem take_nodupE {es : List Ed} {k : Nat} {p : Ed} (hp : es[k]? = some p) (h : (es.take k).Nodup) (h2 : p ∉ es.take k) : (es.take (k + 1)).Nodup := by
 rw [List.take_add_one, hp]
 simp only [Option.toList_some]
 rw [List.nodup_append]
 exact ⟨h, by simp, fun a ha b hb => by simp at hb; subst hb; rintro rfl; exact h2 ha⟩
theorem eq_bytes (a b : ByteArray) : (a.toList == b.toList) = decide (a = b) := by
  rw [ByteArray.toList_eq, ByteArray.toList_eq]
  by_cases h : a = b
  · subst h; simp
  · rw [decide_eq_false h]
    refine beq_eq_false_iff_ne.2 fun e => h ?_
    cases a; cases b
    simp only [ByteArray.mk.injEq] at e ⊢
    exact Array.toList_inj.1 e
open Go.RowKit Go.Maps Go.ChangeMaps
def raw (v : Value) : Option (DataW Value × List MemPlace) := some (.held v, [])
theorem law : Keyed Tryz.prog 9 := string_keyed Tryz.underlying9
theorem zero3 (w : World) : (zeroValue 3).run Tryz.prog w = .ok (.int .i64 0) w := by kernel_rfl
def key (s : ByteArray) : Lit := .string s.data.toList
def Mp (w : World) (b n : Nat) (f : ByteArray → Option Int) : Prop := ∃ D, w.ownsMap Tryz.prog 9 raw b n D ∧ ∀ s : ByteArray, s.size ≤ maxLen → match f s with
 | none => has D (key s) = false
 | some x => has D (key s) = true ∧ ∀ z, D.atKey (key s) z = .held (.int .i64 x)
theorem key_ne {x y : ByteArray} (h : x ≠ y) : key x ≠ key y := fun e => h (by
 simp only [key, Lit.string.injEq] at e
 cases x; cases y
 simp only [ByteArray.mk.injEq] at e ⊢
 exact Array.toList_inj.1 e)
theorem key_lit (x : ByteArray) : WideAt.IsKeyLit (key x) := by unfold key; trivial
theorem Mp.look {w : World} {b n : Nat} {f : ByteArray → Option Int} (H : Mp w b n f) (s : ByteArray) (hs : s.size ≤ maxLen) :
  (Instr.lookup 125 (.map (some b)) (.string s) true).run Tryz.prog w = .ok (.tuple #[.int .i64 ((f s).getD 0), .bool (f s).isSome]) w := by
 obtain ⟨D, hm, hM⟩ := H
 have hx := hM s hs
 obtain ⟨v, ps, hrun, hv⟩ := hm.look_ok law Tryz.underlying125 (zero3 _) (zd := .held (.int .i64 0)) (zp := []) rfl (WideMaps.keyOf_string_mk (s := s) Tryz.underlying9 hs)
 rw [hrun]
 simp only [raw, Option.some.injEq, Prod.mk.injEq] at hv
 have ev := hv.1.symm
 cases hf : f s with
 | none =>
  rw [hf] at hx
  have e2 : D.atKey (key s) (.held (.int .i64 0)) = .held (.int .i64 0) := atKey_of_not_has hx _
  rw [show D.atKey (.string s.data.toList) (.held (.int .i64 0)) = .held (.int .i64 0) from e2] at ev
  cases ev
  rw [show has D (.string s.data.toList) = false from hx]; rfl
 | some x =>
  rw [hf] at hx
  rw [show D.atKey (.string s.data.toList) (.held (.int .i64 0)) = .held (.int .i64 x) from hx.2 _] at ev
  cases ev
  rw [show has D (.string s.data.toList) = true from hx.1]; rfl
theorem Mp.put {w : World} {b n : Nat} {f : ByteArray → Option Int} (H : Mp w b n f) (s : ByteArray) (hs : s.size ≤ maxLen) (x : Int) (hn : n ≤ 1000000) :
    ∃ w', (Instr.mapUpdate 125 (.map (some b)) (.string s) (.int .i64 x)).run Tryz.prog w = .ok () w' ∧ Mp w' b (n + 1) (fun y => if y = s then some x else f y) ∧ (∀ k, k ≠ b → w'.heap[k]? = w.heap[k]?) ∧ w'.heap.size = w.heap.size ∧ w'.os = w.os ∧ w'.tape = w.tape ∧ w'.output = w.output := by
  obtain ⟨D, hm, hM⟩ := H
  obtain ⟨w', hr, hm', ht⟩ := hm.store law Tryz.underlying125 (by unfold maxLen; omega) (WideMaps.keyOf_string_mk (s := s) Tryz.underlying9 hs) (val := .int .i64 x) (d := .held (.int .i64 x)) (ps := []) rfl
  refine ⟨w', hr, ⟨_, hm', fun y hy => ?_⟩, ?_⟩
  · have := hM y hy
    by_cases e : y = s
    · subst e
      simp only [if_true]
      exact ⟨has_put_same hm.isMap (key_lit y) _, fun z => atKey_put_same hm.isMap (key_lit y) _ z⟩
    · simp only [if_neg e]
      cases hw : f y with
      | none => rw [hw] at this; exact (has_put_other (key_ne e) _).trans this
      | some p =>
        rw [hw] at this
        exact ⟨(has_put_other (key_ne e) _).trans this.1, fun z => (atKey_put_other (key_ne e) _ z).trans (this.2 z)⟩
  · have hg := ht.grown
    obtain ⟨es, clock, es', clock', hb, rfl⟩ := ht
    exact ⟨fun k hk => by simp [setBlock, hk.symm], by simp [setBlock], hg.os, hg.tape, hg.output⟩
theorem Mp.made (w : World) : Mp (w.alloc (.map #[] 0)) w.heap.size 0 (fun _ => none) := ⟨.map [], World.ownsMap_made w Tryz.prog 9 raw, fun _ _ => rfl⟩
theorem Mp.keep {w w' : World} {b n : Nat} {f : ByteArray → Option Int} (H : Mp w b n f) (hb : w'.heap[b]? = w.heap[b]?) : Mp w' b n f := by
 obtain ⟨D, ⟨es, clock, hx, hr⟩, hM⟩ := H
 exact ⟨D, ⟨es, clock, by rw [hb]; exact hx, hr⟩, hM⟩
theorem Mp.lt {w : World} {b n : Nat} {f : ByteArray → Option Int} (H : Mp w b n f) : b < w.heap.size := by
 obtain ⟨D, hm, _⟩ := H
 exact hm.lt
set_option maxRecDepth 100000 in
set_option maxHeartbeats 4000000 in
theorem nodesFit_any (a : Option Addr) (c : Nat) (ns : List Nd) (w : World) (hv : ndE.Rd w (.slice a ns.length c) ns) (hs : ∀ n ∈ ns, n.name.size ≤ maxLen) :
    Calls Tryz.prog 64 #[.slice a ns.length c] w fun e w' => e = .returned (.bool (goodN ns)) ∧ Below w.heap.size w w' := by
  obtain ⟨n, hn⟩ : ∃ n, ns.length = n := ⟨_, rfl⟩
  rw [hn] at hv ⊢
  have b0 : Below w.heap.size w w := Below.refl _ _
  by_cases h1 : n < 1
  · have e1 : goodN ns = false := by unfold goodN; exact decide_eq_false (by omega)
    rw [e1]
    have h1' : (n : Int) < 1 := by omega
    clear hn hv hs
    go_enter Tryz.func64, Tryz.ntmps64
    go_wp2_with fail
    go_ret
    exact ⟨rfl, b0⟩
  by_cases h2 : 40 < n
  · have e1 : goodN ns = false := by unfold goodN; exact decide_eq_false (by omega)
    rw [e1]
    have h1' : ¬ (n : Int) < 1 := by omega
    have h2' : (40 : Int) < n := by omega
    clear hn hv hs
    go_enter Tryz.func64, Tryz.ntmps64
    go_wp2_with fail
    go_ret
    exact ⟨rfl, b0⟩
  have h1' : ¬ (n : Int) < 1 := by omega
  have h2' : ¬ (40 : Int) < n := by omega
  have i0 : (0 : Int) ≤ (n : Int) := by omega
  have yes : Hid ((∀ m ∈ ns, ndB m = true) → (ns.map (·.name)).Nodup → goodN ns = true) := hide (fun u v => by
    unfold goodN; exact decide_eq_true ⟨by omega, by omega, u, v⟩)
  have no1 : Hid (∀ k p, ns[k]? = some p → p.name ∈ (ns.take k).map (·.name) → goodN ns = false) := hide (fun k p => dup_no)
  have no2 : Hid (∀ k p, ns[k]? = some p → ndB p = false → goodN ns = false) := hide (fun k p => bad_no)
  generalize goodN ns = res at *
  have Hn := hide hn
  have Hv := hide hv
  have Hs := hide hs
  have Hc := hide (And.intro h1 h2)
  have K38 := hide (fun (p : Nd) W => isNode_any p W)
  have hk : ∀ t W, (Instr.makeMap t none).run Tryz.prog W = .ok (.map (some W.heap.size)) (W.alloc (.map #[] 0)) := fun t W => run_makeMap t W
  have M0 := hide (Mp.made w)
  have B0 : Hid (Below w.heap.size w (w.alloc (.map #[] 0))) := hide ((Below.refl _ _).alloc (Nat.le_refl _) _)
  clear hn hv hs h1 h2 b0
  go_enter Tryz.func64, Tryz.ntmps64
  go_wp2_with fail
  obtain ⟨g, hg⟩ : ∃ g, w.heap.size = g := ⟨_, rfl⟩
  rw [hg] at M0 ⊢
  have Hg := hide hg
  clear hg
  go_loopw [19] (fun v19 wr => ∃ k : Nat, k ≤ n ∧ v19 = .int .i64 k ∧ Hid (∃ f, Mp wr g k f ∧ ∀ s, (f s).isSome = true ↔ s ∈ (ns.take k).map (·.name)) ∧ Hid (Below w.heap.size w wr) ∧ Hid (∀ m ∈ ns.take k, ndB m = true) ∧ Hid (((ns.take k).map (·.name)).Nodup)) (fun v19 _ => n - (intOf v19).toNat)
  case atStart => exact ⟨0, by omega, rfl, hide ⟨_, M0.out, fun s => by simp⟩, B0, hide (by simp), hide (by simp)⟩
  case round =>
    clear M0 B0 hk
    obtain ⟨k, hk, rfl, HM, HB, HG, HD⟩ := hrel
    by_cases hlt : k < n
    · obtain ⟨p, hp⟩ : ∃ p, ns[k]? = some p := ⟨_, List.getElem?_eq_getElem (by rw [Hn.out]; exact hlt)⟩
      obtain ⟨b, off, rfl, c0, c1, c2⟩ := nd_at (Hv.out.keep HB.out) k p hp
      obtain ⟨f, hM, hf⟩ := HM.out
      have j0 : (0 : Int) ≤ (k : Int) := by omega
      have j1 : (k : Int) < (n : Int) := by omega
      have hps : p.name.size ≤ maxLen := Hs.out p (List.mem_of_getElem? hp)
      have glt : g < wr.heap.size := hM.lt
      have bA : Below wr.heap.size wr (wr.alloc (.cells #[.string p.name, .int .i64 p.kind, .int .i64 p.zone] 133)) := (Below.refl _ _).alloc (Nat.le_refl _) _
      have M1 : Mp (wr.alloc (.cells #[.string p.name, .int .i64 p.kind, .int .i64 p.zone] 133)) g k f := hM.keep (bA.block _ glt)
      have hlook := M1.look p.name hps
      have Hx : Hid ((wr.alloc (.cells #[.string p.name, .int .i64 p.kind, .int .i64 p.zone] 133)).heap[wr.heap.size]? = some (.cells #[.string p.name, .int .i64 p.kind, .int .i64 p.zone] 133)) := hide (heap_new _ _)
      have BA : Hid (Below w.heap.size w (wr.alloc (.cells #[.string p.name, .int .i64 p.kind, .int .i64 p.zone] 133))) := hide (HB.out.alloc HB.out.size _)
      have HM1 := hide M1
      have Hf := hide hf
      have Hp := hide hp
      have Hglt := hide glt
      have Hps := hide hps
      clear M1 hf hp hM bA glt hps HM
      cases hsm : (f p.name).isSome with
      | true =>
        have c2' := no1.out k p Hp.out ((Hf.out _).1 hsm)
        subst c2'
        rw [hsm] at hlook
        clear hsm
        go_wp2_with fail
        go_ret
        exact ⟨rfl, BA.out⟩
      | false =>
        rw [hsm] at hlook
        have Hsm := hide hsm
        clear hsm
        have K := hide (fun W => K38.out p W)
        have hnot : Hid (p.name ∉ (ns.take k).map (·.name)) := hide (fun h => by have := (Hf.out _).2 h; rw [Hsm.out] at this; cases this)
        have HG1 : Hid (ndB p = true → ∀ m ∈ ns.take (k + 1), ndB m = true) := hide (fun hb m hm => by
          rw [List.take_add_one, Hp.out] at hm
          simp at hm
          rcases hm with hm | rfl
          · exact HG.out m hm
          · exact hb)
        have HD1 := hide (take_nodup Hp.out HD.out hnot.out)
        have no2' : Hid (ndB p = false → res = false) := hide (no2.out k p Hp.out)
        obtain ⟨s, kd, z⟩ := p
        generalize ndB ⟨s, kd, z⟩ = ok at *
        cases ok with
        | false =>
          have c2' := no2'.out rfl
          subst c2'
          go_wp2_with (go_at_call 138; refine (K.out _).mono ?_; rintro e W1 ⟨rfl, hb1⟩; have Hb1 := hide hb1; clear hb1)
          go_ret
          exact ⟨rfl, BA.out.trans (Hb1.out.mono BA.out.size)⟩
        | true =>
          go_upto_region 10 with (go_at_call 138; refine (K.out _).mono ?_; rintro e W1 ⟨rfl, hb1⟩; have Hb1 := hide hb1; clear hb1)
          have hx1 : W1.heap[wr.heap.size]? = some (.cells #[.string s, .int .i64 kd, .int .i64 z] 133) := by rw [Hb1.out.block _ (by simp)]; exact Hx.out
          have d0 := (cells_at hx1 0).1
          simp at d0
          have M2 : Mp W1 g k f := HM1.out.keep (Hb1.out.block _ (by have := Hglt.out; simp; omega))
          obtain ⟨W2, hup, M3, hst, hsz, ho1, ho2, ho3⟩ := M2.put s Hps.out (k : Int) (by omega)
          have HM3 : Hid (∃ f', Mp W2 g (k + 1) f' ∧ ∀ t, (f' t).isSome = true ↔ t ∈ (ns.take (k + 1)).map (·.name)) := hide ⟨_, M3, fun t => by
            rw [take_mem Hp.out]
            show _ ↔ _ ∨ t = s
            by_cases e : t = s
            · simp [e]
            · rw [if_neg e, Hf.out]; simp [e]⟩
          have HB3 : Hid (Below w.heap.size w W2) := hide (by
            have hbb := BA.out.trans (Hb1.out.mono BA.out.size)
            exact ⟨ho1.trans hbb.os, ho2.trans hbb.tape, ho3.trans hbb.output, by rw [hsz]; exact hbb.size, fun q hq => (hst q (by rw [← Hg.out]; omega)).trans (hbb.block q hq)⟩)
          clear M2 M3 hst hsz ho1 ho2 ho3 hx1
          go_wp2_with fail
          go_roundw
          case rel => exact ⟨k + 1, by omega, by go_num, HM3, HB3, hide (HG1.out trivial), HD1⟩
          case measure => simp [intOf]; omega
    · have j1 : ¬ (k : Int) < (n : Int) := by omega
      have et : ns.take k = ns := List.take_of_length_le (by rw [Hn.out]; omega)
      have c2 := yes.out (by rw [← et]; exact HG.out) (by rw [← et]; exact HD.out)
      subst c2
      go_wp2_with fail
      go_ret
      exact ⟨rfl, HB.out⟩
open Go.RowKit
set_option maxRecDepth 100000 in
set_option maxHeartbeats 1000000 in
theorem isEdge_any (a : Option Addr) (c : Nat) (ns : List Nd) (x y : Int) (w : World) (hv : ndE.Rd w (.slice a ns.length c) ns) :
    Calls Tryz.prog 139 #[.slice a ns.length c, .agg #[.int .i64 x, .int .i64 y]] w fun e w' => e = .returned (.bool (edB ns (x, y))) ∧ Below w.heap.size w w' := by
  have fin : Hid (∀ q, Below w.heap.size w ((w.alloc (.cells #[.int .i64 x, .int .i64 y] 65)).drewN q)) := hide (fun q => by
    have b := (Below.refl w.heap.size w).alloc (Nat.le_refl _) (.cells #[.int .i64 x, .int .i64 y] 65)
    exact ⟨b.os, b.tape, b.output, b.size, b.block⟩)
  have cells : Hid (∀ (z : Int), 0 ≤ z → z < ns.length → ∃ b off, a = some ⟨b, off, none⟩ ∧ ∀ q, ((w.alloc (.cells #[.int .i64 x, .int .i64 y] 65)).drewN q).cell? ⟨b, off + z.toNat * 3 + 1, none⟩ = some (.int .i64 (kindAt ns z))) := hide (fun z h0 h1 => by
    obtain ⟨p, hp⟩ : ∃ p, ns[z.toNat]? = some p := ⟨_, List.getElem?_eq_getElem (by omega)⟩
    obtain ⟨b, off, e1, _, e2, _⟩ := nd_at hv z.toNat p hp
    refine ⟨b, off, e1, fun q => ?_⟩
    have : kindAt ns z = p.kind := by unfold kindAt; rw [hp]; rfl
    rw [this, (fin.out q).cell (cell_lt e2)]; exact e2)
  have K33 := hide (fun i W => isPlace_any a ns.length c i W)
  have eB : edB ns (x, y) = (decide (0 ≤ x ∧ x < ns.length) && decide (0 ≤ y ∧ y < ns.length) && decide (x ≠ y) && (decide (kindAt ns x = 1) || decide (kindAt ns y = 1))) := rfl
  rw [eB]
  clear eB hv
  by_cases hx : 0 ≤ x ∧ x < ns.length
  · by_cases hy : 0 ≤ y ∧ y < ns.length
    · by_cases hxy : x = y
      · subst hxy
        rw [decide_eq_false (show ¬ x ≠ x by simp), Bool.and_false, Bool.false_and]
        have tt : decide (0 ≤ x ∧ x < (ns.length : Int)) = true := decide_eq_true hx
        clear hx hy
        generalize ns.length = n at *
        go_enter Tryz.func139, Tryz.ntmps139
        go_upto_region 1 with fail
        go_quiet (fail)
        go_wp2_with (go_at_call 193; refine (K33.out _ _).mono ?_; rintro e W1 ⟨rfl, rfl⟩; rw [tt])
        go_ret
        exact ⟨rfl, fin.out _⟩
      · rw [decide_eq_true hx, decide_eq_true hy, decide_eq_true (show x ≠ y from hxy), Bool.and_self, Bool.true_and]
        obtain ⟨b, off, rfl, cx⟩ := cells.out x hx.1 hx.2
        obtain ⟨b', off', e', cy⟩ := cells.out y hy.1 hy.2
        simp only [Option.some.injEq, Addr.mk.injEq] at e'
        obtain ⟨rfl, rfl, _⟩ := e'
        have tx : decide (0 ≤ x ∧ x < (ns.length : Int)) = true := decide_eq_true hx
        have ty : decide (0 ≤ y ∧ y < (ns.length : Int)) = true := decide_eq_true hy
        obtain ⟨x0, x1⟩ := hx
        obtain ⟨y0, y1⟩ := hy
        generalize kindAt ns x = kx at *
        generalize kindAt ns y = ky at *
        generalize ns.length = n at *
        have Cx := hide cx
        have Cy := hide cy
        clear cells cx cy
        by_cases k1 : kx = 1
        · subst k1
          go_enter Tryz.func139, Tryz.ntmps139
          go_upto_region 1 with fail
          go_quiet (fail)
          have cx := Cx.out nq
          have cy := Cy.out nq
          go_wp2_with (go_at_call 193; refine (K33.out _ _).mono ?_; rintro e W1 ⟨rfl, rfl⟩; first | rw [tx] | rw [ty])
          go_ret
          exact ⟨rfl, fin.out _⟩
        · rw [decide_eq_false k1, Bool.false_or]
          go_enter Tryz.func139, Tryz.ntmps139
          go_upto_region 1 with fail
          go_quiet (fail)
          have cx := Cx.out nq
          have cy := Cy.out nq
          go_wp2_with (go_at_call 193; refine (K33.out _ _).mono ?_; rintro e W1 ⟨rfl, rfl⟩; first | rw [tx] | rw [ty])
          go_ret
          refine ⟨?_, fin.out _⟩
          simp
          by_cases k2 : ky = 1 <;> simp [k1, k2]
    · have tx : decide (0 ≤ x ∧ x < (ns.length : Int)) = true := decide_eq_true hx
      have ty : decide (0 ≤ y ∧ y < (ns.length : Int)) = false := decide_eq_false hy
      rw [tx, ty]
      clear hx hy cells
      generalize ns.length = n at *
      go_enter Tryz.func139, Tryz.ntmps139
      go_upto_region 1 with fail
      go_quiet (fail)
      go_wp2_with (go_at_call 193; refine (K33.out _ _).mono ?_; rintro e W1 ⟨rfl, rfl⟩; first | rw [tx] | rw [ty])
      go_ret
      exact ⟨rfl, fin.out _⟩
  · have tx : decide (0 ≤ x ∧ x < (ns.length : Int)) = false := decide_eq_false hx
    rw [tx]
    clear hx cells
    generalize ns.length = n at *
    go_enter Tryz.func139, Tryz.ntmps139
    go_upto_region 1 with fail
    go_quiet (fail)
    go_wp2_with (go_at_call 193; refine (K33.out _ _).mono ?_; rintro e W1 ⟨rfl, rfl⟩; rw [tx])
    go_ret
    exact ⟨rfl, fin.out _⟩
set_option maxRecDepth 100000 in
set_option maxHeartbeats 1000000 in
theorem index_any (a : Option Addr) (c : Nat) (es : List Ed) (x y : Int) (w : World) (hv : edE.Rd w (.slice a es.length c) es) (hl : es.length ≤ 100000) :
    Calls Tryz.prog 194 #[.slice a es.length c, .agg #[.int .i64 x, .int .i64 y]] w fun e w' => (∃ r : Int, e = .returned (.int .i64 r) ∧ (0 ≤ r ↔ (x, y) ∈ es)) ∧ Below w.heap.size w w' := by
  obtain ⟨n, hn⟩ : ∃ n, es.length = n := ⟨_, rfl⟩
  rw [hn] at hv hl ⊢
  obtain ⟨W0, hW0⟩ : ∃ W0, w.alloc (.cells #[.int .i64 x, .int .i64 y] 65) = W0 := ⟨_, rfl⟩
  have bA : Below w.heap.size w W0 := by rw [← hW0]; exact (Below.refl _ _).alloc (Nat.le_refl _) _
  have hbox : W0.heap[w.heap.size]? = some (.cells #[.int .i64 x, .int .i64 y] 65) := by rw [← hW0]; exact heap_new _ _
  have Hbox := hide hbox
  have HA := hide bA
  have Hv := hide (hv.keep bA)
  have Hn := hide hn
  have HW0 := hide hW0
  clear hW0
  have i0 : (n : Int) ≤ 100000 := by omega
  have i1 : (0 : Int) ≤ (n : Int) := by omega
  clear hn hv hl hbox bA
  go_enter Tryz.func194, Tryz.ntmps194
  go_wp2_with fail
  rw [HW0.out]
  clear HW0
  go_loopw [8] (fun v8 wr => ∃ k q : Nat, k ≤ n ∧ v8 = .int .i64 k ∧ wr = W0.drewN q ∧ Hid ((x, y) ∉ es.take k)) (fun v8 _ => n - (intOf v8).toNat)
  case atStart => exact ⟨0, 0, by omega, rfl, rfl, hide (by simp)⟩
  case round =>
    obtain ⟨k, q, hk, rfl, rfl, HX⟩ := hrel
    have bq : Below w.heap.size w (W0.drewN q) := ⟨HA.out.os, HA.out.tape, HA.out.output, HA.out.size, HA.out.block⟩
    have Hbq := hide bq
    clear bq
    by_cases hlt : k < n
    · obtain ⟨p, hp⟩ : ∃ p, es[k]? = some p := ⟨_, List.getElem?_eq_getElem (by rw [Hn.out]; exact hlt)⟩
      obtain ⟨b, off, rfl, c0, c1⟩ := ed_at Hv.out k p hp
      have d0 := (cells_at Hbox.out 0).1
      have d1 := (cells_at Hbox.out 1).1
      simp at d0 d1
      have j0 : (0 : Int) ≤ (k : Int) := by omega
      have j1 : (k : Int) < (n : Int) := by omega
      obtain ⟨px, py⟩ := p
      have heq := fun W => ed_equal W x y px py
      have Hp := hide hp
      clear hp
      simp only at c0 c1
      by_cases he : (x, y) = (px, py)
      · rw [decide_eq_true he] at heq
        have hin : Hid ((x, y) ∈ es) := hide (by rw [he]; exact List.mem_of_getElem? Hp.out)
        clear he
        go_upto_region 4 with fail
        go_quiet (fail)
        go_wp2_with fail
        go_ret
        exact ⟨⟨_, rfl, fun _ => hin.out, fun _ => by omega⟩, ⟨HA.out.os, HA.out.tape, HA.out.output, HA.out.size, HA.out.block⟩⟩
      · rw [decide_eq_false he] at heq
        have HX1 : Hid ((x, y) ∉ es.take (k + 1)) := hide (by
          rw [List.take_add_one, Hp.out]
          simp only [Option.toList_some, List.mem_append, List.mem_singleton]
          rintro (h | h)
          · exact HX.out h
          · exact he h)
        clear he
        go_upto_region 4 with fail
        go_quiet (fail)
        go_wp2_with fail
        go_roundw
        case rel => exact ⟨k + 1, _, by omega, by go_num, rfl, HX1⟩
        case measure => simp [intOf]; omega
    · have j1 : ¬ (k : Int) < (n : Int) := by omega
      have hX : Hid ((x, y) ∉ es) := hide (by have := HX.out; rwa [List.take_of_length_le (by rw [Hn.out]; omega)] at this)
      go_wp2_with fail
      go_ret
      exact ⟨⟨_, rfl, fun h => by omega, fun h => absurd h hX.out⟩, Hbq.out⟩
set_option maxHeartbeats 1000000 in
theorem contains_any (a : Option Addr) (c n : Nat) (es : List Ed) (hn : n = es.length) (x y : Int) (w : World) (hv : edE.Rd w (.slice a n c) es) (hl : es.length ≤ 100000) :
  Calls Tryz.prog 140 #[.slice a n c, .agg #[.int .i64 x, .int .i64 y]] w fun e w' => e = .returned (.bool (decide ((x, y) ∈ es))) ∧ Below w.heap.size w w' := by
 subst hn
 have bA : Below w.heap.size w (w.alloc (.cells #[.int .i64 x, .int .i64 y] 65)) := (Below.refl _ _).alloc (Nat.le_refl _) _
 have K52 := hide (index_any a c es x y _ (hv.keep bA) hl)
 have HA := hide bA
 generalize es.length = n at *
 clear bA hv hl
 go_enter Tryz.func140, Tryz.ntmps140
 go_wp2_with (go_at_call 194; refine (K52.out).mono ?_; rintro e W1 ⟨⟨r, rfl, hr⟩, hb1⟩; have Hr := hide hr; have Hb1 := hide hb1; clear hr hb1)
 go_ret
 refine ⟨?_, HA.out.trans (Hb1.out.mono HA.out.size)⟩
 congr 2
 simp
 exact Hr.out
set_option maxRecDepth 100000 in
set_option maxHeartbeats 1000000 in
theorem edgesFit_any (a a' : Option Addr) (c c' : Nat) (ns : List Nd) (es : List Ed) (w : World) (hv : ndE.Rd w (.slice a ns.length c) ns) (hu : edE.Rd w (.slice a' es.length c') es) (hcap : es.length ≤ c') :
    Calls Tryz.prog 65 #[.agg #[.slice a ns.length c, .slice a' es.length c']] w fun e w' => e = .returned (.bool (goodE ns es)) ∧ Below w.heap.size w w' := by
  obtain ⟨n, hn⟩ : ∃ n, ns.length = n := ⟨_, rfl⟩
  obtain ⟨m, hm⟩ : ∃ m, es.length = m := ⟨_, rfl⟩
  rw [hn] at hv ⊢
  rw [hm] at hu hcap ⊢
  obtain ⟨W0, hW0⟩ : ∃ W0, w.alloc (.cells #[.slice a n c, .slice a' m c'] 25) = W0 := ⟨_, rfl⟩
  have bA : Below w.heap.size w W0 := by rw [← hW0]; exact (Below.refl _ _).alloc (Nat.le_refl _) _
  have hbox : W0.heap[w.heap.size]? = some (.cells #[.slice a n c, .slice a' m c'] 25) := by rw [← hW0]; exact heap_new _ _
  by_cases h1 : 120 < m
  · have e1 : goodE ns es = false := by unfold goodE; exact decide_eq_false (by omega)
    rw [e1]
    have h1' : (120 : Int) < m := by omega
    clear hn hm hv hu hbox hcap
    go_enter Tryz.func65, Tryz.ntmps65
    subst hW0
    go_wp2_with fail
    go_ret
    exact ⟨rfl, bA⟩
  have h1' : ¬ (120 : Int) < m := by omega
  have i1 : (0 : Int) ≤ (m : Int) := by omega
  have yes : Hid ((∀ e ∈ es, edB ns e = true) → es.Nodup → goodE ns es = true) := hide (fun u v => by
    unfold goodE; exact decide_eq_true ⟨by omega, u, v⟩)
  have no1 : Hid (∀ k p, es[k]? = some p → p ∈ es.take k → goodE ns es = false) := hide (fun k p => edge_dup)
  have no2 : Hid (∀ k p, es[k]? = some p → edB ns p = false → goodE ns es = false) := hide (fun k p => edge_bad)
  generalize goodE ns es = res at *
  have Hn := hide hn
  have Hm := hide hm
  have Hv := hide (hv.keep bA)
  have Hu := hide (hu.keep bA)
  have Hbox := hide hbox
  have HA := hide bA
  have Hlen := hide h1
  have HW0 := hide hW0
  clear hW0
  have Hgl : Hid (w.heap.size < W0.heap.size) := hide (heap_lt hbox)
  have q0 : ∀ k : Nat, k < m → (k : Int) ≤ (c' : Int) := fun k hk => by omega
  have Hq := hide q0
  clear hn hm hv hu hbox bA h1 hcap q0
  go_enter Tryz.func65, Tryz.ntmps65
  go_wp2_with fail
  rw [HW0.out]
  clear HW0
  obtain ⟨g, hg⟩ : ∃ g, w.heap.size = g := ⟨_, rfl⟩
  rw [hg] at Hbox Hgl ⊢
  have Hg := hide hg
  clear hg
  go_loopw [12] (fun v12 wr => ∃ k : Nat, k ≤ m ∧ v12 = .int .i64 k ∧ Hid (Below W0.heap.size W0 wr) ∧ Hid (∀ p ∈ es.take k, edB ns p = true) ∧ Hid ((es.take k).Nodup)) (fun v12 _ => m - (intOf v12).toNat)
  case atStart => exact ⟨0, by omega, rfl, hide (Below.refl _ _), hide (by simp), hide (by simp)⟩
  case round =>
    obtain ⟨k, hk, rfl, HB, HG, HD⟩ := hrel
    have HBW : Hid (Below w.heap.size w wr) := hide (HA.out.trans (HB.out.mono HA.out.size))
    by_cases hlt : k < m
    · obtain ⟨p, hp⟩ : ∃ p, es[k]? = some p := ⟨_, List.getElem?_eq_getElem (by rw [Hm.out]; exact hlt)⟩
      obtain ⟨b, off, rfl, c0, c1⟩ := ed_at (Hu.out.keep HB.out) k p hp
      have hboxr : wr.heap[g]? = some (.cells #[.slice a n c, .slice (some ⟨b, off, none⟩) m c'] 25) := by rw [HB.out.block _ Hgl.out]; exact Hbox.out
      have d0 := (cells_at hboxr 0).1
      have d1 := (cells_at hboxr 1).1
      simp at d0 d1
      have j0 : (0 : Int) ≤ (k : Int) := by omega
      have j1 : (k : Int) < (m : Int) := by omega
      have j2 : (k : Int) ≤ (c' : Int) ∨ True := .inr trivial
      have Hp := hide hp
      have Hboxr := hide hboxr
      clear hp hboxr j2
      obtain ⟨x, y⟩ := p
      simp only at c0 c1
      obtain ⟨W1, hW1⟩ : ∃ W1, wr.alloc (.cells #[.int .i64 x, .int .i64 y] 65) = W1 := ⟨_, rfl⟩
      have bB : Below wr.heap.size wr W1 := by rw [← hW1]; exact (Below.refl _ _).alloc (Nat.le_refl _) _
      have hx1 : W1.heap[wr.heap.size]? = some (.cells #[.int .i64 x, .int .i64 y] 65) := by rw [← hW1]; exact heap_new _ _
      have hx2 : W1.heap[g]? = some (.cells #[.slice a n c, .slice (some ⟨b, off, none⟩) m c'] 25) := by rw [bB.block _ (heap_lt Hboxr.out)]; exact Hboxr.out
      have HB1 : Hid (Below W0.heap.size W0 W1) := hide (HB.out.trans (bB.mono HB.out.size))
      have HN1 := hide ((Hv.out.keep HB1.out))
      have HU1 := hide ((Hu.out.keep HB1.out))
      have f0 := (cells_at hx2 0).1
      have f1 := (cells_at hx2 1).1
      have f2 := (cells_at hx1 0).1
      have f3 := (cells_at hx1 1).1
      simp at f0 f1 f2 f3
      have hcap := Hq.out k hlt
      obtain ⟨SS, hSS⟩ : ∃ SS : World → Prop, SS = fun W' => Below W1.heap.size W1 W' := ⟨_, rfl⟩
      have s9 : ∀ W', SS W' → Below W1.heap.size W1 W' := fun W' h => by rw [hSS] at h; exact h
      have s8 : ∀ W', Below W1.heap.size W1 W' → SS W' := fun W' h => by rw [hSS]; exact h
      have Hx1 := hide hx1
      have Hx2 := hide hx2
      have s1 : ∀ W', SS W' → W'.cell? ⟨g, 0, none⟩ = some (.slice a n c) := fun W' h => by rw [(s9 W' h).cell (heap_lt Hx2.out)]; exact (cells_at Hx2.out 0).1
      have s2 : ∀ W', SS W' → W'.cell? ⟨g, 1, none⟩ = some (.slice (some ⟨b, off, none⟩) m c') := fun W' h => by rw [(s9 W' h).cell (heap_lt Hx2.out)]; exact (cells_at Hx2.out 1).1
      have s3 : ∀ W', SS W' → W'.cell? ⟨wr.heap.size, 0, none⟩ = some (.int .i64 x) := fun W' h => by rw [(s9 W' h).cell (heap_lt Hx1.out)]; exact (cells_at Hx1.out 0).1
      have s4 : ∀ W', SS W' → W'.cell? ⟨wr.heap.size, 1, none⟩ = some (.int .i64 y) := fun W' h => by rw [(s9 W' h).cell (heap_lt Hx1.out)]; exact (cells_at Hx1.out 1).1
      have bD : SS W1.drew := s8 _ (Below.refl _ _).drew
      have S8 := hide s8
      have S9 := hide s9
      have BD := hide bD
      have fin : Hid (∀ W', SS W' → Below w.heap.size w W') := hide (fun W' h => HA.out.trans ((HB1.out.trans ((s9 W' h).mono HB1.out.size)).mono HA.out.size))
      have HW1 := hide hW1
      clear hW1 hSS bB hx1 hx2 f0 f1 f2 f3 bD
      have no2' : Hid (edB ns (x, y) = false → res = false) := hide (no2.out k _ Hp.out)
      cases hed : edB ns (x, y) with
      | false =>
        have c2' := no2'.out hed
        subst c2'
        have K39 : Hid (∀ W', SS W' → Calls Tryz.prog 139 #[.slice a n c, .agg #[.int .i64 x, .int .i64 y]] W' fun e w' => e = .returned (.bool false) ∧ SS w') := hide (fun W' hW' => by
          have hh := isEdge_any a c ns x y W' (by rw [Hn.out]; exact HN1.out.keep (S9.out W' hW'))
          rw [Hn.out, hed] at hh
          exact hh.mono fun e w' ⟨h1, h2⟩ => ⟨h1, S8.out _ ((S9.out W' hW').trans (h2.mono (S9.out W' hW').size))⟩)
        clear s8 s9
        go_upto_region 6 with fail
        rw [HW1.out]
        clear HW1
        refine wp_region_held_drew (S := SS) (by kernel_rfl) (BD.out) (fun hS0 => ?_)
        refine wpAnyH_take (i := 0) (v := .pointer (some ⟨g, 0, none⟩)) rfl (by kernel_rfl) (by kernel_rfl) (by kernel_rfl) (fun _ _ _ h => h) (Or.inl ⟨by rfl, fun W' hW => by go_simp⟩) hS0 ?_
        refine wpAnyH_take (i := 1) (v := .slice a n c) rfl (by kernel_rfl) (by kernel_rfl) (by kernel_rfl) (fun _ _ _ h => h) (Or.inl ⟨by rfl, fun W' hW => by have x0 := s1 W' hW; go_simp⟩) hS0 ?_
        refine wpAnyH_take (i := 2) (v := .agg #[.int .i64 x, .int .i64 y]) rfl (by kernel_rfl) (by kernel_rfl) (by kernel_rfl) (fun _ _ _ h => h) (Or.inl ⟨by rfl, fun W' hW => by have x2 := s3 W' hW; have x3 := s4 W' hW; go_simp⟩) hS0 ?_
        refine wpAnyH_ready (rs := [3]) (by kernel_rfl) (by simp) ?_
        refine AllReadyH.cons rfl (fun K hK => ?_) AllReadyH.nil
        go_simp
        refine (K39.out _ hS0).mono ?_
        rintro e W2 ⟨rfl, hS2⟩
        refine hK.out _ _ (hS2) (fun hS2 => ?_)
        clear hK K
        refine wpAnyH_take (i := 4) (v := .bool true) rfl (by kernel_rfl) (by kernel_rfl) (by kernel_rfl) (fun _ _ _ h => h) (Or.inl ⟨by rfl, fun W' hW => by go_simp⟩) hS2 ?_
        refine wpAnyH_take (i := 5) (v := .bool true) rfl (by kernel_rfl) (by kernel_rfl) (by kernel_rfl) (fun _ _ _ h => h) (Or.inl ⟨by rfl, fun W' hW => by go_simp⟩) hS2 ?_
        refine wpAnyH_take (i := 6) (v := undef) rfl (by kernel_rfl) (by kernel_rfl) (by kernel_rfl) (fun _ _ _ h => h) (Or.inr ⟨by kernel_rfl, rfl⟩) hS2 ?_
        refine wpAnyH_take (i := 7) (v := undef) rfl (by kernel_rfl) (by kernel_rfl) (by kernel_rfl) (fun _ _ _ h => h) (Or.inr ⟨by kernel_rfl, rfl⟩) hS2 ?_
        refine wpAnyH_take (i := 8) (v := undef) rfl (by kernel_rfl) (by kernel_rfl) (by kernel_rfl) (fun _ _ _ h => h) (Or.inr ⟨by kernel_rfl, rfl⟩) hS2 ?_
        refine wpAnyH_take (i := 9) (v := undef) rfl (by kernel_rfl) (by kernel_rfl) (by kernel_rfl) (fun _ _ _ h => h) (Or.inr ⟨by kernel_rfl, rfl⟩) hS2 ?_
        refine wpAnyH_take (i := 10) (v := undef) rfl (by kernel_rfl) (by kernel_rfl) (by kernel_rfl) (fun _ _ _ h => h) (Or.inr ⟨by kernel_rfl, rfl⟩) hS2 ?_
        refine wpAnyH_take (i := 11) (v := undef) rfl (by kernel_rfl) (by kernel_rfl) (by kernel_rfl) (fun _ _ _ h => h) (Or.inr ⟨by kernel_rfl, rfl⟩) hS2 ?_
        refine wpAnyH_ready (rs := [12]) (by kernel_rfl) (by simp) ?_
        refine AllReadyH.cons rfl (fun K hK => ?_) AllReadyH.nil
        go_simp
        refine hK.out _ _ hS2 (fun _ => ?_)
        clear hK K
        refine wpAnyH_done (by kernel_rfl) ?_ _
        go_wp2_with fail
        go_ret
        exact ⟨rfl, fin.out _ hS2⟩
      | true =>
        have K39 : Hid (∀ W', SS W' → Calls Tryz.prog 139 #[.slice a n c, .agg #[.int .i64 x, .int .i64 y]] W' fun e w' => e = .returned (.bool true) ∧ SS w') := hide (fun W' hW' => by
          have hh := isEdge_any a c ns x y W' (by rw [Hn.out]; exact HN1.out.keep (S9.out W' hW'))
          rw [Hn.out, hed] at hh
          exact hh.mono fun e w' ⟨h1, h2⟩ => ⟨h1, S8.out _ ((S9.out W' hW').trans (h2.mono (S9.out W' hW').size))⟩)
        have HG1 : Hid (∀ p ∈ es.take (k + 1), edB ns p = true) := hide (fun q hq => by
          rw [List.take_add_one, Hp.out] at hq
          simp at hq
          rcases hq with hq | rfl
          · exact HG.out q hq
          · exact hed)
        have no1' : Hid ((x, y) ∈ es.take k → res = false) := hide (no1.out k _ Hp.out)
        have HD1 : Hid ((x, y) ∉ es.take k → (es.take (k + 1)).Nodup) := hide (take_nodupE Hp.out HD.out)
        have hlk : (es.take k).length = k := by rw [List.length_take, Hm.out]; omega
        have K40 : Hid (∀ W', SS W' → Calls Tryz.prog 140 #[.slice (some ⟨b, off, none⟩) k c', .agg #[.int .i64 x, .int .i64 y]] W' fun e w' => e = .returned (.bool (decide ((x, y) ∈ es.take k))) ∧ SS w') := hide (fun W' hW' => by
          have hr := ((HU1.out.keep (S9.out W' hW')).take k (by rw [Hm.out]; omega))
          exact (contains_any _ c' k (es.take k) hlk.symm x y W' hr (by rw [hlk]; have := Hlen.out; omega)).mono fun e w' ⟨h1, h2⟩ => ⟨h1, S8.out _ ((S9.out W' hW').trans (h2.mono (S9.out W' hW').size))⟩)
        clear s8 s9 hlk hed
        by_cases hmem : (x, y) ∈ es.take k
        · have c2' := no1'.out hmem
          subst c2'
          rw [decide_eq_true hmem] at K40
          clear hmem
          go_upto_region 6 with fail
          rw [HW1.out]
          clear HW1
          refine wp_region_held_drew (S := SS) (by kernel_rfl) (BD.out) (fun hS0 => ?_)
          refine wpAnyH_take (i := 0) (v := .pointer (some ⟨g, 0, none⟩)) rfl (by kernel_rfl) (by kernel_rfl) (by kernel_rfl) (fun _ _ _ h => h) (Or.inl ⟨by rfl, fun W' hW => by go_simp⟩) hS0 ?_
          refine wpAnyH_take (i := 1) (v := .slice a n c) rfl (by kernel_rfl) (by kernel_rfl) (by kernel_rfl) (fun _ _ _ h => h) (Or.inl ⟨by rfl, fun W' hW => by have x0 := s1 W' hW; go_simp⟩) hS0 ?_
          refine wpAnyH_take (i := 2) (v := .agg #[.int .i64 x, .int .i64 y]) rfl (by kernel_rfl) (by kernel_rfl) (by kernel_rfl) (fun _ _ _ h => h) (Or.inl ⟨by rfl, fun W' hW => by have x2 := s3 W' hW; have x3 := s4 W' hW; go_simp⟩) hS0 ?_
          refine wpAnyH_ready (rs := [3]) (by kernel_rfl) (by simp) ?_
          refine AllReadyH.cons rfl (fun K hK => ?_) AllReadyH.nil
          go_simp
          refine (K39.out _ hS0).mono ?_
          rintro e W2 ⟨rfl, hS2⟩
          refine hK.out _ _ (hS2) (fun hS2 => ?_)
          clear hK K
          refine wpAnyH_take (i := 4) (v := .bool false) rfl (by kernel_rfl) (by kernel_rfl) (by kernel_rfl) (fun _ _ _ h => h) (Or.inl ⟨by rfl, fun W' hW => by go_simp⟩) hS2 ?_
          refine wpAnyH_take (i := 5) (v := .bool false) rfl (by kernel_rfl) (by kernel_rfl) (by kernel_rfl) (fun _ _ _ h => h) (Or.inl ⟨by rfl, fun W' hW => by go_simp⟩) hS2 ?_
          refine wpAnyH_take (i := 6) (v := .pointer (some ⟨g, 1, none⟩)) rfl (by kernel_rfl) (by kernel_rfl) (by kernel_rfl) (fun _ _ _ h => h) (Or.inl ⟨by rfl, fun W' hW => by go_simp⟩) hS2 ?_
          refine wpAnyH_take (i := 7) (v := .slice (some ⟨b, off, none⟩) m c') rfl (by kernel_rfl) (by kernel_rfl) (by kernel_rfl) (fun _ _ _ h => h) (Or.inl ⟨by rfl, fun W' hW => by have x0 := s2 W' hW; go_simp⟩) hS2 ?_
          refine wpAnyH_take (i := 8) (v := .int .i64 k) rfl (by kernel_rfl) (by kernel_rfl) (by kernel_rfl) (fun _ _ _ h => h) (Or.inl ⟨by rfl, fun W' hW => by go_simp⟩) hS2 ?_
          refine wpAnyH_take (i := 9) (v := .slice (some ⟨b, off, none⟩) k c') rfl (by kernel_rfl) (by kernel_rfl) (by kernel_rfl) (fun _ _ _ h => h) (Or.inl ⟨by rfl, fun W' hW => by go_simp⟩) hS2 ?_
          refine wpAnyH_take (i := 10) (v := .agg #[.int .i64 x, .int .i64 y]) rfl (by kernel_rfl) (by kernel_rfl) (by kernel_rfl) (fun _ _ _ h => h) (Or.inl ⟨by rfl, fun W' hW => by have x2 := s3 W' hW; have x3 := s4 W' hW; go_simp⟩) hS2 ?_
          refine wpAnyH_ready (rs := [11]) (by kernel_rfl) (by simp) ?_
          refine AllReadyH.cons rfl (fun K hK => ?_) AllReadyH.nil
          go_simp
          refine (K40.out _ hS2).mono ?_
          rintro e W3 ⟨rfl, hS3⟩
          refine hK.out _ _ (hS3) (fun hS3 => ?_)
          clear hK K
          refine wpAnyH_ready (rs := [12]) (by kernel_rfl) (by simp) ?_
          refine AllReadyH.cons rfl (fun K hK => ?_) AllReadyH.nil
          go_simp
          refine hK.out _ _ hS3 (fun _ => ?_)
          clear hK K
          refine wpAnyH_done (by kernel_rfl) ?_ _
          go_wp2_with fail
          go_ret
          exact ⟨rfl, fin.out _ hS3⟩
        · have HD2 := hide (HD1.out hmem)
          rw [decide_eq_false hmem] at K40
          clear hmem
          go_upto_region 6 with fail
          rw [HW1.out]
          clear HW1
          refine wp_region_held_drew (S := SS) (by kernel_rfl) (BD.out) (fun hS0 => ?_)
          refine wpAnyH_take (i := 0) (v := .pointer (some ⟨g, 0, none⟩)) rfl (by kernel_rfl) (by kernel_rfl) (by kernel_rfl) (fun _ _ _ h => h) (Or.inl ⟨by rfl, fun W' hW => by go_simp⟩) hS0 ?_
          refine wpAnyH_take (i := 1) (v := .slice a n c) rfl (by kernel_rfl) (by kernel_rfl) (by kernel_rfl) (fun _ _ _ h => h) (Or.inl ⟨by rfl, fun W' hW => by have x0 := s1 W' hW; go_simp⟩) hS0 ?_
          refine wpAnyH_take (i := 2) (v := .agg #[.int .i64 x, .int .i64 y]) rfl (by kernel_rfl) (by kernel_rfl) (by kernel_rfl) (fun _ _ _ h => h) (Or.inl ⟨by rfl, fun W' hW => by have x2 := s3 W' hW; have x3 := s4 W' hW; go_simp⟩) hS0 ?_
          refine wpAnyH_ready (rs := [3]) (by kernel_rfl) (by simp) ?_
          refine AllReadyH.cons rfl (fun K hK => ?_) AllReadyH.nil
          go_simp
          refine (K39.out _ hS0).mono ?_
          rintro e W2 ⟨rfl, hS2⟩
          refine hK.out _ _ (hS2) (fun hS2 => ?_)
          clear hK K
          refine wpAnyH_take (i := 4) (v := .bool false) rfl (by kernel_rfl) (by kernel_rfl) (by kernel_rfl) (fun _ _ _ h => h) (Or.inl ⟨by rfl, fun W' hW => by go_simp⟩) hS2 ?_
          refine wpAnyH_take (i := 5) (v := .bool false) rfl (by kernel_rfl) (by kernel_rfl) (by kernel_rfl) (fun _ _ _ h => h) (Or.inl ⟨by rfl, fun W' hW => by go_simp⟩) hS2 ?_
          refine wpAnyH_take (i := 6) (v := .pointer (some ⟨g, 1, none⟩)) rfl (by kernel_rfl) (by kernel_rfl) (by kernel_rfl) (fun _ _ _ h => h) (Or.inl ⟨by rfl, fun W' hW => by go_simp⟩) hS2 ?_
          refine wpAnyH_take (i := 7) (v := .slice (some ⟨b, off, none⟩) m c') rfl (by kernel_rfl) (by kernel_rfl) (by kernel_rfl) (fun _ _ _ h => h) (Or.inl ⟨by rfl, fun W' hW => by have x0 := s2 W' hW; go_simp⟩) hS2 ?_
          refine wpAnyH_take (i := 8) (v := .int .i64 k) rfl (by kernel_rfl) (by kernel_rfl) (by kernel_rfl) (fun _ _ _ h => h) (Or.inl ⟨by rfl, fun W' hW => by go_simp⟩) hS2 ?_
          refine wpAnyH_take (i := 9) (v := .slice (some ⟨b, off, none⟩) k c') rfl (by kernel_rfl) (by kernel_rfl) (by kernel_rfl) (fun _ _ _ h => h) (Or.inl ⟨by rfl, fun W' hW => by go_simp⟩) hS2 ?_
          refine wpAnyH_take (i := 10) (v := .agg #[.int .i64 x, .int .i64 y]) rfl (by kernel_rfl) (by kernel_rfl) (by kernel_rfl) (fun _ _ _ h => h) (Or.inl ⟨by rfl, fun W' hW => by have x2 := s3 W' hW; have x3 := s4 W' hW; go_simp⟩) hS2 ?_
          refine wpAnyH_ready (rs := [11]) (by kernel_rfl) (by simp) ?_
          refine AllReadyH.cons rfl (fun K hK => ?_) AllReadyH.nil
          go_simp
          refine (K40.out _ hS2).mono ?_
          rintro e W3 ⟨rfl, hS3⟩
          refine hK.out _ _ (hS3) (fun hS3 => ?_)
          clear hK K
          refine wpAnyH_ready (rs := [12]) (by kernel_rfl) (by simp) ?_
          refine AllReadyH.cons rfl (fun K hK => ?_) AllReadyH.nil
          go_simp
          refine hK.out _ _ hS3 (fun _ => ?_)
          clear hK K
          refine wpAnyH_done (by kernel_rfl) ?_ _
          have HB3 : Hid (Below W0.heap.size W0 W3) := hide (HB1.out.trans ((S9.out W3 hS3).mono HB1.out.size))
          go_wp2_with fail
          go_roundw
          case rel => exact ⟨k + 1, by omega, by go_num, HB3, HG1, HD2⟩
          case measure => simp [intOf]; omega
    · have j1 : ¬ (k : Int) < (m : Int) := by omega
      have et : es.take k = es := List.take_of_length_le (by rw [Hm.out]; omega)
      have c2 := yes.out (by rw [← et]; exact HG.out) (by rw [← et]; exact HD.out)
      subst c2
      go_wp2_with fail
      go_ret
      exact ⟨rfl, HBW.out⟩
open Go.RowKit Go.Maps Go.ChangeMaps
set_option maxRecDepth 100000 in
set_option maxHeartbeats 1000000 in
theorem check_any (a a' : Option Addr) (c c' : Nat) (ns : List Nd) (es : List Ed) (w : World) (hv : ndE.Rd w (.slice a ns.length c) ns) (hu : edE.Rd w (.slice a' es.length c') es) (hcap : es.length ≤ c') (hs : ∀ n ∈ ns, n.name.size ≤ maxLen) :
  Calls Tryz.prog 23 #[.agg #[.slice a ns.length c, .slice a' es.length c']] w fun e w' => e = .returned (.int .i64 (if good ns es = true then 0 else 61)) ∧ Below w.heap.size w w' := by
 obtain ⟨W0, hW0⟩ : ∃ W0, w.alloc (.cells #[.slice a ns.length c, .slice a' es.length c'] 25) = W0 := ⟨_, rfl⟩
 have bA : Below w.heap.size w W0 := by rw [← hW0]; exact (Below.refl _ _).alloc (Nat.le_refl _) _
 have hbox : W0.heap[w.heap.size]? = some (.cells #[.slice a ns.length c, .slice a' es.length c'] 25) := by rw [← hW0]; exact heap_new _ _
 have K26 := hide (nodesFit_any a c ns W0 (hv.keep bA) hs)
 have K27 : Hid (∀ W, Below w.heap.size w W → _) := hide (fun W (h : Below w.heap.size w W) => edgesFit_any a a' c c' ns es W (hv.keep h) (hu.keep h) hcap)
 have gd : good ns es = (goodN ns && goodE ns es) := rfl
 rw [gd]
 have HA := hide bA
 have X : Hid (∀ W, Below W0.heap.size W0 W → Below w.heap.size w W ∧ W.cell? ⟨w.heap.size, 0, none⟩ = some (.slice a ns.length c) ∧ W.cell? ⟨w.heap.size, 1, none⟩ = some (.slice a' es.length c')) := hide (fun W h => by
  have hx : W.heap[w.heap.size]? = some (.cells #[.slice a ns.length c, .slice a' es.length c'] 25) := by rw [h.block _ (heap_lt hbox)]; exact hbox
  exact ⟨bA.trans (h.mono bA.size), (cells_at hx 0).1, (cells_at hx 1).1⟩)
 subst hW0
 clear hv hu bA hbox gd hcap hs
 generalize goodN ns = g1 at *
 generalize goodE ns es = g2 at *
 generalize ns.length = n at *
 generalize es.length = m at *
 cases g1 with
 | false =>
  clear K27
  go_enter Tryz.func23, Tryz.ntmps23
  go_wp2_with (go_at_call 64; refine (K26.out).mono ?_; rintro e W1 ⟨rfl, hb1⟩; have ⟨hb1', y0, y1⟩ := X.out _ hb1; have Hb1 := hide hb1'; clear hb1 hb1')
  go_ret
  exact ⟨rfl, Hb1.out⟩
 | true =>
  cases g2 with
  | false =>
   go_enter Tryz.func23, Tryz.ntmps23
   go_wp2_with (first
    | (go_at_call 64; refine (K26.out).mono ?_; rintro e W1 ⟨rfl, hb1⟩; have ⟨hb1', y0, y1⟩ := X.out _ hb1; have Hb1 := hide hb1'; clear hb1 hb1')
    | (go_at_call 65; refine (K27.out _ Hb1.out).mono ?_; rintro e W2 ⟨rfl, hb2⟩; have Hb2 := hide (Hb1.out.trans (hb2.mono Hb1.out.size)); clear hb2))
   go_ret
   exact ⟨rfl, Hb2.out⟩
  | true =>
   go_enter Tryz.func23, Tryz.ntmps23
   go_wp2_with (first
    | (go_at_call 64; refine (K26.out).mono ?_; rintro e W1 ⟨rfl, hb1⟩; have ⟨hb1', y0, y1⟩ := X.out _ hb1; have Hb1 := hide hb1'; clear hb1 hb1')
    | (go_at_call 65; refine (K27.out _ Hb1.out).mono ?_; rintro e W2 ⟨rfl, hb2⟩; have Hb2 := hide (Hb1.out.trans (hb2.mono Hb1.out.size)); clear hb2))
   go_ret
   exact ⟨rfl, Hb2.out⟩
open Go.RowKit
theorem made_cells {α : Type} (E : El Tryz.prog α) (d : α) (hz : E.z.cells.toList = E.enc d) (n : Nat) : (madeCells E.z.cells (n * E.k)).toList = E.fl (List.replicate n d) := by
  have hs : E.z.cells.size = E.k := by rw [← Array.length_toList, hz, E.len]
  apply List.ext_getElem?
  intro j
  have hk := E.kpos
  rcases Nat.lt_or_ge j (n * E.k) with h | h
  · have hi : j / E.k < n := (Nat.div_lt_iff_lt_mul hk).2 h
    have hj : j % E.k < E.k := Nat.mod_lt _ hk
    have e : j / E.k * E.k + j % E.k = j := by rw [Nat.mul_comm]; exact Nat.div_add_mod j E.k
    have := E.fl_at (List.replicate n d) (j / E.k) (j % E.k) d (by rw [List.getElem?_replicate, if_pos hi]) hj
    rw [e] at this
    rw [this, ← hz]
    unfold madeCells
    rw [Array.getElem?_toList, Array.getElem?_map, Array.getElem?_range, if_pos h, Array.getElem?_toList]
    simp only [Option.map_some, hs]
    rw [Array.getElem?_eq_getElem (by rw [hs]; exact hj)]
    simp [hs, hj]
  · rw [List.getElem?_eq_none (by rw [Array.length_toList, size_madeCells]; exact h), List.getElem?_eq_none (by rw [E.fl_len, List.length_replicate]; exact h)]
theorem made_any {α : Type} (E : El Tryz.prog α) (d : α) (hz : E.z.cells.toList = E.enc d) (n : Nat) (hn : n ≤ 1000) (hb : E.by' ≤ 1000) : ∃ C : Array Value, (∀ W, (Instr.makeSlice E.t (.int .i64 (n : Int)) (.int .i64 (n : Int))).run Tryz.prog W = .ok (.slice (some ⟨W.heap.size, 0, none⟩) n n) (W.alloc (.cells C E.e))) ∧
  ∀ W : World, E.Own (W.alloc (.cells C E.e)) W.heap.size (.slice (some ⟨W.heap.size, 0, none⟩) n n) (List.replicate n d) := by
 obtain ⟨i, hi, he⟩ := Option.map_eq_some_iff.1 E.info
 have e1 : i.zero = some E.z := congrArg Prod.fst he
 have e2 : i.size = E.k := congrArg (fun p => p.2.1) he
 have e3 : i.bytes = E.by' := congrArg (fun p => p.2.2) he
 refine ⟨madeCells E.z.cells (n * E.k), fun W => ?_, fun W => El.Own.new E W W.heap.size (Nat.le_refl _) _ _ (made_cells E d hz n) (by rw [List.length_replicate]; omega) _ _ _ rfl (by rw [List.length_replicate]) (by rw [List.length_replicate])⟩
 have hq : (i.bytes : Int) * (n : Int) ≤ 281474976710656 := by
  rw [e3]
  have h1 : E.by' * n ≤ 1000 * 1000 := Nat.mul_le_mul hb hn
  have h2 : ((E.by' * n : Nat) : Int) ≤ 281474976710656 := by omega
  rwa [Int.natCast_mul] at h2
 have := run_make (P := Tryz.prog) W E.t E.e i E.z E.ht hi e1 .i64 .i64 n n (by omega) (Int.le_refl _) hq (by omega)
 rw [e2] at this
 simpa using this
theorem made_i (n : Nat) (hn : n ≤ 1000) : ∃ C : Array Value, (∀ W, (Instr.makeSlice 40 (.int .i64 (n : Int)) (.int .i64 (n : Int))).run Tryz.prog W = .ok (.slice (some ⟨W.heap.size, 0, none⟩) n n) (W.alloc (.cells C 3))) ∧
  ∀ W : World, intE.Own (W.alloc (.cells C 3)) W.heap.size (.slice (some ⟨W.heap.size, 0, none⟩) n n) (List.replicate n 0) := made_any intE 0 rfl n hn (by decide)
def dv0 : Dv := ⟨0, 0, 0, 0, false, false⟩
theorem made_d (n : Nat) (hn : n ≤ 1000) : ∃ C : Array Value, (∀ W, (Instr.makeSlice 198 (.int .i64 (n : Int)) (.int .i64 (n : Int))).run Tryz.prog W = .ok (.slice (some ⟨W.heap.size, 0, none⟩) n n) (W.alloc (.cells C 215))) ∧
  ∀ W : World, dvE.Own (W.alloc (.cells C 215)) W.heap.size (.slice (some ⟨W.heap.size, 0, none⟩) n n) (List.replicate n dv0) := made_any dvE dv0 rfl n hn (by decide)
def mkD (e : Int × Int) : Dv := ⟨e.1, e.2, 0, 0, false, false⟩
def Mr.nw (n : Nat) (es : List (Int × Int)) : Mr := ⟨List.replicate n 0, es.map mkD⟩
def nwD (es : List (Int × Int)) (k : Nat) : List Dv := (es.take k).map mkD ++ List.replicate (es.length - k) dv0
theorem nwD_zero (es : List (Int × Int)) : nwD es 0 = List.replicate es.length dv0 := by simp [nwD]
theorem nwD_end (es : List (Int × Int)) : nwD es es.length = es.map mkD := by simp [nwD]
theorem nwD_at (es : List (Int × Int)) (k : Nat) (hk : k < es.length) : (nwD es k)[k]? = some dv0 := by
 unfold nwD
 have hl : ((es.take k).map mkD).length = k := by rw [List.length_map, List.length_take]; omega
 rw [List.getElem?_append_right (by omega), hl, Nat.sub_self, List.getElem?_replicate, if_pos (by omega)]
theorem nwD_set (es : List (Int × Int)) (k : Nat) (e : Int × Int) (he : es[k]? = some e) : (nwD es k).set k (mkD e) = nwD es (k + 1) := by
 have hk := idx_lt he
 unfold nwD
 have hl : ((es.take k).map mkD).length = k := by rw [List.length_map, List.length_take]; omega
 rw [take_one he, List.map_append, List.set_append_right _ _ (by omega), hl, Nat.sub_self]
 obtain ⟨r, hr⟩ : ∃ r, es.length - k = r + 1 := ⟨es.length - k - 1, by omega⟩
 rw [hr, List.replicate_succ, List.set_cons_zero, show es.length - (k + 1) = r by omega, List.append_assoc]
 rfl
theorem Mr.nw_ok {n : Nat} {es : List (Int × Int)} (hn : n ≤ 40) (hm : es.length ≤ 120) (he : ∀ e ∈ es, (0 ≤ e.1 ∧ e.1 < n) ∧ (0 ≤ e.2 ∧ e.2 < n) ∧ e.1 ≠ e.2) : (Mr.nw n es).Ok n es := by
  have hz : ∀ D ∈ (Mr.nw n es).ds, D.tt = 0 ∧ D.sq = 0 := fun D hD => by
    obtain ⟨e, _, rfl⟩ := List.mem_map.1 hD
    exact ⟨rfl, rfl⟩
  refine ⟨List.length_replicate .., hn, ?_, hm, he, ?_, ?_, fun D hD h => absurd (hz D hD).1 h, fun i j D E hD _ _ h => absurd (hz D (List.mem_of_getElem? hD)).1 h, fun D hD _ => (hz D hD).2⟩
  · show (es.map mkD).map ends = es
    rw [List.map_map]
    have : ends ∘ mkD = id := rfl
    rw [this, List.map_id]
  · intro x hx
    have := List.eq_of_mem_replicate hx
    omega
  · intro i j x hx hi
    have := List.eq_of_mem_replicate (List.mem_of_getElem? hi)
    exact absurd this hx
theorem good_he {ns : List Nd} {es : List Ed} (h : good ns es = true) : ns.length ≤ 40 ∧ es.length ≤ 120 ∧ ∀ e ∈ es, (0 ≤ e.1 ∧ e.1 < ns.length) ∧ (0 ≤ e.2 ∧ e.2 < ns.length) ∧ e.1 ≠ e.2 := by
 unfold good at h
 rw [Bool.and_eq_true] at h
 have h1 := of_decide_eq_true h.1
 have h2 := of_decide_eq_true h.2
 refine ⟨h1.2.1, h2.1, fun e he => ?_⟩
 have := h2.2.1 e he
 unfold edB at this
 simp only [Bool.and_eq_true, decide_eq_true_eq, placeB] at this
 exact ⟨this.1.1.1, this.1.1.2, this.1.2⟩
theorem Its.addm {w0 w w' : World} {l : List It} {g n m : Nat} {H : Nat × Nat} {es : List (Int × Int)} {S : Mr} (h : Its w0 l w) (h' : Its w [.mir w.heap.size g H n m es S] w') : Its w0 (.mir w0.heap.size g H n m es S :: l) w' := by
  have hp := h'.one
  refine h.new (x := .mir w0.heap.size g H n m es S) ⟨?_, ?_⟩ (fun k hk => ?_) h'.bel
  · intro x hx
    simp only [mparts, List.mem_cons, List.not_mem_nil, or_false] at hx
    rcases hx with rfl | rfl | rfl | rfl
    · exact mr_fact hp
    · exact (mr_ds hp).mono h.size
    · exact (mr_ts hp).mono h.size
    · exact mr_box hp
  · have := hp.2
    simp only [mparts, List.pairwise_cons, List.mem_cons, List.not_mem_nil, or_false, forall_eq_or_imp, forall_eq, It.row, It.box, It.fact] at this ⊢
    exact this
  · refine h'.ge _ (List.mem_singleton.2 rfl) k ?_
    obtain ⟨x, hx, q⟩ := hk
    simp only [mparts, List.mem_cons, List.not_mem_nil, or_false] at hx
    rcases hx with rfl | rfl | rfl | rfl
    · exact q.elim
    · exact ⟨.row dvE w.heap.size (.slice (some ⟨H.2, 0, none⟩) m m) S.ds, by simp [mparts], q⟩
    · exact ⟨.ints w.heap.size (.slice (some ⟨H.1, 0, none⟩) n n) S.ts, by simp [mparts], q⟩
    · exact ⟨.box g #[.slice (some ⟨H.1, 0, none⟩) n n, .slice (some ⟨H.2, 0, none⟩) m m] 200, by simp [mparts], q⟩
open Go.RowKit
structure Lyt (w : World) (a a' : Option Addr) (c c' n m : Nat) (ns : List Nd) (es : List Ed) : Prop where
 hn : ns.length = n
 hm : es.length = m
 hv : ndE.Rd w (.slice a n c) ns
 hu : edE.Rd w (.slice a' m c') es
 hc : m ≤ c'
 hs : ∀ p ∈ ns, p.name.size ≤ maxLen
theorem Lyt.keep {w w' : World} {a a' : Option Addr} {c c' n m : Nat} {ns : List Nd} {es : List Ed} (h : Lyt w a a' c c' n m ns es) (hb : Below w.heap.size w w') : Lyt w' a a' c c' n m ns es := ⟨h.hn, h.hm, h.hv.keep hb, h.hu.keep hb, h.hc, h.hs⟩
theorem check_l {w : World} {a a' : Option Addr} {c c' n m : Nat} {ns : List Nd} {es : List Ed} (h : Lyt w a a' c c' n m ns es) :
  Calls Tryz.prog 23 #[.agg #[.slice a n c, .slice a' m c']] w fun e w' => e = .returned (.int .i64 (if good ns es = true then 0 else 61)) ∧ Below w.heap.size w w' := by
 have h1 := h.hn
 have h2 := h.hm
 subst h1
 subst h2
 exact check_any a a' c c' ns es w h.hv h.hu h.hc h.hs
def NewP (w : World) (n m : Nat) (es : List (Int × Int)) (e : Ending) (w' : World) : Prop := ∃ g H, e = .returned (.tuple #[.pointer (some ⟨g, 0, none⟩), .int .i64 0]) ∧ Its w [.mir w.heap.size g H n m es (Mr.nw n es)] w'
theorem new_A {w w2 : World} {l : List It} {CI CD : Array Value} {n m : Nat} (h : Its w l w2)
  (oI : ∀ W : World, intE.Own (W.alloc (.cells CI 3)) W.heap.size (.slice (some ⟨W.heap.size, 0, none⟩) n n) (List.replicate n 0))
  (oD : ∀ W : World, dvE.Own (W.alloc (.cells CD 215)) W.heap.size (.slice (some ⟨W.heap.size, 0, none⟩) m m) (List.replicate m dv0)) :
  Its w (mparts w.heap.size (w2.heap.size + 1 + 1) (w2.heap.size, w2.heap.size + 1) n m ⟨List.replicate n 0, List.replicate m dv0⟩ ++ l) (((w2.alloc (.cells CI 3)).alloc (.cells CD 215)).alloc (.cells #[.slice (some ⟨w2.heap.size, 0, none⟩) n n, .slice (some ⟨w2.heap.size + 1, 0, none⟩) m m] 200)) := by
 have s1 : (w2.alloc (.cells CI 3)).heap.size = w2.heap.size + 1 := by show (w2.heap.push _).size = _; simp
 have s2 : ((w2.alloc (.cells CI 3)).alloc (.cells CD 215)).heap.size = w2.heap.size + 1 + 1 := by show ((w2.alloc (.cells CI 3)).heap.push _).size = _; simp [s1]
 have h1 := h.fresh (oI w2) (below_new _ _)
 have h2 := h1.fresh (oD _) (below_new _ _)
 rw [s1] at h2
 have h3 := h2.new (x := .box (w2.heap.size + 1 + 1) #[.slice (some ⟨w2.heap.size, 0, none⟩) n n, .slice (some ⟨w2.heap.size + 1, 0, none⟩) m m] 200) (by rw [← s2]; exact heap_new _ _) (fun k hk => by rw [s2]; exact Nat.le_of_eq hk.symm) (below_new _ (.cells #[.slice (some ⟨w2.heap.size, 0, none⟩) n n, .slice (some ⟨w2.heap.size + 1, 0, none⟩) m m] 200))
 exact h3.rot3'
theorem new_B {w w2 : World} {l : List It} {CI CD : Array Value} {n m : Nat} (h : Its w l w2)
  (oI : ∀ W : World, intE.Own (W.alloc (.cells CI 3)) W.heap.size (.slice (some ⟨W.heap.size, 0, none⟩) n n) (List.replicate n 0))
  (oD : ∀ W : World, dvE.Own (W.alloc (.cells CD 215)) W.heap.size (.slice (some ⟨W.heap.size, 0, none⟩) m m) (List.replicate m dv0)) :
  Its w (mparts w.heap.size (w2.heap.size + 1 + 1) (w2.heap.size + 1, w2.heap.size) n m ⟨List.replicate n 0, List.replicate m dv0⟩ ++ l) (((w2.alloc (.cells CD 215)).alloc (.cells CI 3)).alloc (.cells #[.slice (some ⟨w2.heap.size + 1, 0, none⟩) n n, .slice (some ⟨w2.heap.size, 0, none⟩) m m] 200)) := by
 have s1 : (w2.alloc (.cells CD 215)).heap.size = w2.heap.size + 1 := by show (w2.heap.push _).size = _; simp
 have s2 : ((w2.alloc (.cells CD 215)).alloc (.cells CI 3)).heap.size = w2.heap.size + 1 + 1 := by show ((w2.alloc (.cells CD 215)).heap.push _).size = _; simp [s1]
 have h1 := h.fresh (oD w2) (below_new _ _)
 have h2 := h1.fresh (oI _) (below_new _ _)
 rw [s1] at h2
 have h3 := h2.new (x := .box (w2.heap.size + 1 + 1) #[.slice (some ⟨w2.heap.size + 1, 0, none⟩) n n, .slice (some ⟨w2.heap.size, 0, none⟩) m m] 200) (by rw [← s2]; exact heap_new _ _) (fun k hk => by rw [s2]; exact Nat.le_of_eq hk.symm) (below_new _ (.cells #[.slice (some ⟨w2.heap.size + 1, 0, none⟩) n n, .slice (some ⟨w2.heap.size, 0, none⟩) m m] 200))
 exact h3.swap.rot3
section
variable {w : World} {a a' : Option Addr} {c c' n m : Nat} {ns : List Nd} {es : List Ed}
set_option maxRecDepth 100000 in
set_option maxHeartbeats 2000000 in
theorem new_ok (h : Lyt w a a' c c' n m ns es) (hg : good ns es = true) : Calls Tryz.prog 71 #[.agg #[.slice a n c, .slice a' m c']] w fun e w' => NewP w n m es e w' := by
  obtain ⟨w1, hw1⟩ : ∃ w1, w.alloc (.cells #[.slice a n c, .slice a' m c'] 25) = w1 := ⟨_, rfl⟩
  have b1 : Below w.heap.size w w1 := by rw [← hw1]; exact below_new _ _
  have K := check_l (h.keep b1)
  rw [if_pos hg] at K
  have HK := hide K
  have HI1 : Hid (Its w [.box w.heap.size #[.slice a n c, .slice a' m c'] 25] w1) := hide ((Its.nil w).new (x := .box w.heap.size #[.slice a n c, .slice a' m c'] 25) (by rw [← hw1]; exact heap_new _ _) (fun k hk => Nat.le_of_eq hk.symm) b1)
  obtain ⟨g1, g2, g3⟩ := good_he hg
  rw [h.hn] at g1 g3
  have HOK := hide (Mr.nw_ok g1 g2 g3)
  rw [h.hm] at g2
  have HL := hide h
  obtain ⟨CI, rI, oI⟩ := made_i n (by omega)
  obtain ⟨CD, rD, oD⟩ := made_d m (by omega)
  have HoI := hide oI
  have HoD := hide oD
  have X : Hid (∀ W, Its w [.box w.heap.size #[.slice a n c, .slice a' m c'] 25] W → W.cell? ⟨w.heap.size, 0, none⟩ = some (.slice a n c) ∧ W.cell? ⟨w.heap.size, 1, none⟩ = some (.slice a' m c')) := hide (fun W hW => ⟨(cells_at hW.one 0).1, (cells_at hW.one 1).1⟩)
  have i1 : (m : Int) ≤ 120 := by omega
  clear h hg K b1 g1 g2 g3 oI oD
  subst hw1
  go_enter Tryz.func71, Tryz.ntmps71
  go_upto_region 4 with (go_at_call 23; refine HK.out.mono ?_; rintro e w2 ⟨rfl, B2⟩; have HI2 := hide (HI1.out.keep B2); clear B2)
  obtain ⟨y0, y1⟩ := X.out _ HI2.out
  have z0 : ∀ o, (w2.alloc o).cell? ⟨w.heap.size, 0, none⟩ = some (.slice a n c) := fun o => (X.out _ (HI2.out.alloc o)).1
  have z1 : ∀ o, (w2.alloc o).cell? ⟨w.heap.size, 1, none⟩ = some (.slice a' m c') := fun o => (X.out _ (HI2.out.alloc o)).2
  go_cut [5] (fun v5 wx => ∃ (g : Nat) (H : Nat × Nat), v5 = .pointer (some ⟨g, 0, none⟩) ∧ Hid (Its w (mparts w.heap.size g H n m ⟨List.replicate n 0, List.replicate m dv0⟩ ++ [.box w.heap.size #[.slice a n c, .slice a' m c'] 25]) wx))
  case first =>
    have qA := hide ((new_A HI2.out HoI.out HoD.out).drew 1)
    have qB := hide ((new_B HI2.out HoI.out HoD.out).drew 1)
    go_region
    · go_wp2_with fail
      go_meet
      exact ⟨_, _, rfl, qA⟩
    · go_wp2_with fail
      go_meet
      exact ⟨_, _, rfl, qB⟩
  case rest =>
    obtain ⟨g, H, rfl, HP⟩ := hcut
    obtain ⟨bt, bd⟩ := H
    have HE : Hid (∀ W, Its w (mparts w.heap.size g (bt, bd) n m ⟨List.replicate n 0, nwD es m⟩ ++ [.box w.heap.size #[.slice a n c, .slice a' m c'] 25]) W → Its w [.mir w.heap.size g (bt, bd) n m es (Mr.nw n es)] W) := hide (fun W hW => by
      have e1 : nwD es m = es.map mkD := by rw [← HL.out.hm]; exact nwD_end es
      rw [e1] at hW
      have h3 : Its w (mparts w.heap.size g (bt, bd) n m (Mr.nw n es) ++ []) W := (hW.perm (List.perm_append_comm (l₁ := mparts w.heap.size g (bt, bd) n m (Mr.nw n es)) (l₂ := [.box w.heap.size #[.slice a n c, .slice a' m c'] 25]))).tail
      exact h3.mshut ⟨HOK.out, HL.out.hm⟩)
    have Y : Hid (∀ (W : World) (ds : List Dv), Its w (mparts w.heap.size g (bt, bd) n m ⟨List.replicate n 0, ds⟩ ++ [.box w.heap.size #[.slice a n c, .slice a' m c'] 25]) W → W.cell? ⟨w.heap.size, 0, none⟩ = some (.slice a n c) ∧ W.cell? ⟨w.heap.size, 1, none⟩ = some (.slice a' m c') ∧ W.cell? ⟨g, 1, none⟩ = some (.slice (some ⟨bd, 0, none⟩) m m)) := hide (fun W ds hW => by
      have h4 : W.heap[w.heap.size]? = some (.cells #[.slice a n c, .slice a' m c'] 25) := hW.four
      have h3 : W.heap[g]? = some (.cells #[.slice (some ⟨bt, 0, none⟩) n n, .slice (some ⟨bd, 0, none⟩) m m] 200) := hW.three
      exact ⟨(cells_at h4 0).1, (cells_at h4 1).1, (cells_at h3 1).1⟩)
    have HP0 : Hid (Its w (mparts w.heap.size g (bt, bd) n m ⟨List.replicate n 0, nwD es 0⟩ ++ [.box w.heap.size #[.slice a n c, .slice a' m c'] 25]) wc) := hide (by rw [nwD_zero, HL.out.hm]; exact HP.out)
    obtain ⟨y0, y1, y2⟩ := Y.out _ _ HP.out
    clear HP
    obtain ⟨wA, rfl⟩ : ∃ W, W = wc := ⟨_, rfl⟩
    go_wp2_with fail
    go_loopw [26] (fun v26 wr => ∃ k : Nat, v26 = .int .i64 k ∧ k ≤ m ∧ Hid (Its w (mparts w.heap.size g (bt, bd) n m ⟨List.replicate n 0, nwD es k⟩ ++ [.box w.heap.size #[.slice a n c, .slice a' m c'] 25]) wr)) (fun v26 _ => m - (intOf v26).toNat)
    case atStart => exact ⟨0, rfl, Nat.zero_le _, HP0⟩
    case round =>
      obtain ⟨k, rfl, hk, HR⟩ := hrel
      by_cases hlt : k < m
      · obtain ⟨e, he⟩ : ∃ e, es[k]? = some e := ⟨_, List.getElem?_eq_getElem (by rw [HL.out.hm]; exact hlt)⟩
        obtain ⟨b, off, rfl, e0, e1⟩ := ed_at (HL.out.hu.keep HR.out.bel) k e he
        have j0 : (0 : Int) ≤ (k : Int) := by omega
        have j1 : (k : Int) < (m : Int) := by omega
        have hat := nwD_at es k (by rw [HL.out.hm]; exact hlt)
        have HN := hide ((Its.dset (Its.dset (HR.out.alloc (.cells #[.int .i64 e.1, .int .i64 e.2] 65)) hat { dv0 with fr := e.1 } 0 (.int .i64 e.1) (by omega) rfl) (set_at hat) (mkD e) 1 (.int .i64 e.2) (by omega) rfl).drew 1)
        rw [List.set_set, nwD_set es k e he] at HN
        replace HN : Hid (Its w (mparts w.heap.size g (bt, bd) n m ⟨List.replicate n 0, nwD es (k + 1)⟩ ++ [.box w.heap.size #[.slice a n c, .slice (some ⟨b, off, none⟩) m c'] 25]) (((wr.alloc (.cells #[.int .i64 e.1, .int .i64 e.2] 65)).setCell ⟨bd, k * 6, none⟩ (.int .i64 e.1)).setCell ⟨bd, k * 6 + 1, none⟩ (.int .i64 e.2)).drew) := HN
        have HA := hide (HR.out.alloc (.cells #[.int .i64 e.1, .int .i64 e.2] 65))
        obtain ⟨x0, x1, x2⟩ := Y.out _ _ HR.out
        obtain ⟨z0, z1, z2⟩ := Y.out _ _ HA.out
        have o1 : dvE.Own (wr.alloc (.cells #[.int .i64 e.1, .int .i64 e.2] 65)) w.heap.size (.slice (some ⟨bd, 0, none⟩) m m) (nwD es k) := HA.out.one
        have hll : (nwD es k).length = m := o1.rd.form.choose_spec.choose_spec |> fun q => by simp only [Value.slice.injEq] at q; exact q.2.1.symm
        obtain ⟨p0, p1, _⟩ := dv_at o1.rd k _ hat
        have f0 := (o1.cell (k * 6 + 0) (by show k * 6 + 0 < (nwD es k).length * 6; omega)).2.1
        have f1 := (o1.cell (k * 6 + 1) (by show k * 6 + 1 < (nwD es k).length * 6; omega)).2.1
        rw [Nat.add_zero] at f0
        have c0 := (cells_at (heap_new wr (.cells #[.int .i64 e.1, .int .i64 e.2] 65)) 0).1
        have c1 := (cells_at (heap_new wr (.cells #[.int .i64 e.1, .int .i64 e.2] 65)) 1).1
        obtain ⟨ea, eb⟩ := e
        dsimp only at *
        clear hat he o1 hll
        go_upto_region 8 with fail
        generalize wr.alloc (.cells #[.int .i64 ea, .int .i64 eb] 65) = wz at *
        go_region
        generalize ((wz.setCell ⟨bd, k * 6, none⟩ (.int .i64 ea)).setCell ⟨bd, k * 6 + 1, none⟩ (.int .i64 eb)).drew = wy at *
        go_wp2_with fail
        go_roundw
        case rel => exact ⟨k + 1, by go_num, by omega, HN⟩
        case measure => simp [intOf]; omega
      · obtain rfl : k = m := by omega
        have j1 : ¬ (k : Int) < (k : Int) := by omega
        go_wp2_with fail
        go_ret2
        exact ⟨g, (bt, bd), rfl, HE.out _ HR.out⟩
end
open Go.ChangeShapes Go.WideShapes Go.ChangeAt Go.RowKit
theorem list_of {β : Type} (R : Nat → β → Prop) (len : Nat) (h : ∀ i, i < len → ∃ y, R i y) : ∃ ys : List β, ys.length = len ∧ ∀ (i : Nat) (y : β), ys[i]? = some y → R i y := by
  induction len with
  | zero => exact ⟨[], rfl, by simp⟩
  | succ m ih =>
    obtain ⟨ys, h1, h2⟩ := ih (fun i hi => h i (by omega))
    obtain ⟨y, hy⟩ := h m (by omega)
    refine ⟨ys ++ [y], by simp [h1], fun i u hu => ?_⟩
    rcases Nat.lt_or_ge i m with h' | h'
    · rw [List.getElem?_append_left (by omega)] at hu; exact h2 i u hu
    · rw [List.getElem?_append_right (by omega)] at hu
      have : i = m := by
        rcases Nat.lt_or_ge i (m + 1) with h'' | h''
        · omega
        · rw [List.getElem?_eq_none (by simp; omega)] at hu; cases hu
      subst this
      rw [h1] at hu
      simp at hu
      subst hu
      exact hy
section
variable {H : Type} {enc : TypeId × Value → H} {w : World} {base : Nat} {spare : Nat → Bool} {held : Bool} {fuel : Nat} {cs : List Value} {x : DataW H × List MemPlace}
theorem rd_of_trod {α : Type} (E : El Tryz.prog α) (Q : α → Prop) (hc : Tryz.prog.cellsOf E.e = E.k)
    (elem : ∀ (n : Nat) (cs : List Value) (y : DataW H × List MemPlace), DataW.trod enc Tryz.prog w base spare held n E.e cs = some y → ∃ x : α, cs = E.enc x ∧ Q x)
    {a : Option Addr} {len cap : Nat} (h : DataW.trod enc Tryz.prog w base spare held fuel E.t cs = some x) (hcs : cs = [.slice a len cap]) :
    ∃ xs : List α, xs.length = len ∧ E.Rd w (.slice a len cap) xs ∧ ∀ y ∈ xs, Q y := by
  rcases DataW.trod_slice E.ht h with ⟨h1, _⟩ | ⟨x0, len', cap', elems, rest, n, _, h1, _, _, hl, hcm, he, hr, _⟩
  · rw [hcs] at h1
    simp at h1
    obtain ⟨rfl, rfl, rfl⟩ := h1
    exact ⟨[], rfl, .inl ⟨rfl, rfl⟩, by simp⟩
  · rw [hcs] at h1
    simp at h1
    obtain ⟨rfl, rfl, rfl⟩ := h1
    rw [hc] at hr
    have one : ∀ i, i < len → ∃ y : α, Q y ∧ ∀ j, j < E.k → w.cell? ((x0.add (i * E.k)).add j) = (E.enc y)[j]? := by
      intro i hi
      have hi' : i < elems.length := by omega
      have h2 := hr i hi
      rw [List.getElem?_eq_getElem hi'] at h2
      obtain ⟨cs', h3, h4⟩ := Option.bind_eq_some_iff.1 h2
      obtain ⟨y, hy, hq⟩ := elem _ _ _ h4
      obtain ⟨_, _, h5⟩ := World.cells?_some h3
      subst hy
      exact ⟨y, hq, fun j hj => by rw [h5 j (by omega)]⟩
    obtain ⟨ys, hy1, hy2⟩ := list_of _ len one
    refine ⟨ys, hy1, .inr ⟨x0, cap, by rw [hy1], fun q hq => ?_⟩, fun y hy => ?_⟩
    · have hk := E.kpos
      have hpos : 0 < len := by
        rcases Nat.eq_zero_or_pos len with h0 | h0
        · rw [hy1, h0, Nat.zero_mul] at hq; omega
        · exact h0
      have hspot : x0.spot = none := by
        obtain ⟨y, _, z⟩ := one 0 hpos
        have z0 := z 0 hk
        have : (E.enc y)[0]? = some ((E.enc y)[0]'(by rw [E.len]; exact hk)) := List.getElem?_eq_getElem _
        rw [this] at z0
        simpa [Addr.add] using World.cell?_spot z0
      obtain ⟨b, off, spot⟩ := x0
      simp only at hspot
      subst hspot
      have hi : q / E.k < ys.length := (Nat.div_lt_iff_lt_mul hk).2 hq
      have hj : q % E.k < E.k := Nat.mod_lt _ hk
      have e : q / E.k * E.k + q % E.k = q := by rw [Nat.mul_comm]; exact Nat.div_add_mod q E.k
      have hx := hy2 (q / E.k) ys[q / E.k] (List.getElem?_eq_getElem hi)
      have := hx.2 (q % E.k) hj
      rw [addr_plain, addr_plain, Nat.add_assoc, e] at this
      have e5 := E.fl_at ys (q / E.k) (q % E.k) ys[q / E.k] (List.getElem?_eq_getElem hi) hj
      rw [e] at e5
      rw [addr_plain, this, e5]
    · obtain ⟨i, hi⟩ := List.mem_iff_getElem?.1 hy
      exact (hy2 i y hi).1
def I64 (x : Int) : Prop := -9223372036854775808 ≤ x ∧ x ≤ 9223372036854775807
theorem I64.wf {x : Int} (h : I64 x) : (Lit.int .i64 x).wf = true := by
 unfold I64 at h
 simp [Lit.wf, IntKind.min, IntKind.max, IntKind.bits, IntKind.signed]; omega
theorem I64.of {x : Int} (h : (Lit.int .i64 x).wf = true) : I64 x := by
 unfold I64
 simp [Lit.wf, IntKind.min, IntKind.max, IntKind.bits, IntKind.signed] at h; omega
end
theorem few (x : Int) (m : Int) (hm : 1 ≤ m ∧ m ≤ 100) : ∃ k : Nat, wrap64 ((IntKind.u64.wrap x).tmod m) = (k : Int) ∧ (k : Int) < m := by
 have h0 : 0 ≤ IntKind.u64.wrap x := by simp [IntKind.wrap, IntKind.bits, IntKind.signed]; omega
 have e : (IntKind.u64.wrap x).tmod m = IntKind.u64.wrap x % m := Int.tmod_eq_emod_of_nonneg h0
 rw [e]
 generalize IntKind.u64.wrap x = b at h0
 have h1 := Int.emod_nonneg b (show m ≠ 0 by omega)
 have h2 := Int.emod_lt_of_pos b (show 0 < m by omega)
 obtain ⟨k, hk⟩ := Int.eq_ofNat_of_zero_le h1
 refine ⟨k, ?_, by omega⟩
 rw [hk]
 unfold wrap64
 omega
open Go.ChangeShapes Go.WideShapes Go.ChangeAt Go.RowKit
section
variable {H : Type} {enc : TypeId × Value → H} {w : World} {base : Nat} {spare : Nat → Bool} {held : Bool} {fuel : Nat} {cs : List Value} {x : DataW H × List MemPlace}
set_option maxRecDepth 100000 in
theorem nd_of_trod (h : DataW.trod enc Tryz.prog w base spare held fuel 133 cs = some x) : ∃ y : Nd, cs = ndE.enc y ∧ y.name.size ≤ maxLen := by
 obtain ⟨xs, n, _, _, hl, hn, hf⟩ := DataW.trod_struct Tryz.underlying133 h
 rw [show Tryz.prog.cellsOf 133 = 3 by kernel_rfl] at hl
 have e9 : Tryz.prog.cellsOf 9 = 1 := by kernel_rfl
 have e3 : Tryz.prog.cellsOf 3 = 1 := by kernel_rfl
 have f0 : DataW.trod enc Tryz.prog w base spare held n 9 ((cs.drop 0).take (Tryz.prog.cellsOf 9)) = xs[0]? := hf 0 _ rfl
 have f1 : DataW.trod enc Tryz.prog w base spare held n 3 ((cs.drop 1).take (Tryz.prog.cellsOf 3)) = xs[1]? := hf 1 _ rfl
 have f2 : DataW.trod enc Tryz.prog w base spare held n 3 ((cs.drop 2).take (Tryz.prog.cellsOf 3)) = xs[2]? := hf 2 _ rfl
 rw [e9] at f0
 rw [e3] at f1 f2
 match xs, hn, cs, hl with
 | [y0, y1, y2], _, [c0, c1, c2], _ =>
  obtain ⟨s, e0, _, hs⟩ := DataW.trod_string Tryz.underlying9 f0
  obtain ⟨i1, e1, _, _⟩ := DataW.trod_int Tryz.underlying3 f1
  obtain ⟨i2, e2, _, _⟩ := DataW.trod_int Tryz.underlying3 f2
  simp at e0 e1 e2
  exact ⟨⟨s, i1, i2⟩, by simp [e0, e1, e2, ndE], hs⟩
set_option maxRecDepth 100000 in
theorem ed_of_trod (h : DataW.trod enc Tryz.prog w base spare held fuel 65 cs = some x) : ∃ y : Ed, cs = edE.enc y ∧ True := by
 obtain ⟨xs, n, _, _, hl, hn, hf⟩ := DataW.trod_array Tryz.underlying65 h
 have e3 : Tryz.prog.cellsOf 3 = 1 := by kernel_rfl
 rw [show Tryz.prog.cellsOf 65 = 2 by kernel_rfl] at hl
 have f0 := hf 0 (by omega)
 have f1 := hf 1 (by omega)
 rw [e3] at f0 f1
 match xs, hn, cs, hl with
 | [y0, y1], _, [c0, c1], _ =>
  obtain ⟨i1, e1, _, _⟩ := DataW.trod_int Tryz.underlying3 (show DataW.trod enc Tryz.prog w base spare held n 3 _ = some y0 from f0)
  obtain ⟨i2, e2, _, _⟩ := DataW.trod_int Tryz.underlying3 (show DataW.trod enc Tryz.prog w base spare held n 3 _ = some y1 from f1)
  simp at e1 e2
  exact ⟨(i1, i2), by simp [e1, e2, edE], trivial⟩
set_option maxRecDepth 100000 in
theorem layout_of_trod (h : DataW.trod enc Tryz.prog w base spare held fuel 25 cs = some x) : ∃ a c a' c' ns es, cs = [.slice a (ns : List Nd).length c, .slice a' (es : List Ed).length c'] ∧ ndE.Rd w (.slice a ns.length c) ns ∧ edE.Rd w (.slice a' es.length c') es ∧ ∀ n ∈ ns, n.name.size ≤ maxLen := by
  obtain ⟨xs, n, _, _, hl, hn, hf⟩ := DataW.trod_struct Tryz.underlying25 h
  rw [show Tryz.prog.cellsOf 25 = 2 by kernel_rfl] at hl
  have e22 : Tryz.prog.cellsOf 22 = 1 := by kernel_rfl
  have e23 : Tryz.prog.cellsOf 23 = 1 := by kernel_rfl
  have f0 : DataW.trod enc Tryz.prog w base spare held n 22 ((cs.drop 0).take (Tryz.prog.cellsOf 22)) = xs[0]? := hf 0 _ rfl
  have f1 : DataW.trod enc Tryz.prog w base spare held n 23 ((cs.drop 1).take (Tryz.prog.cellsOf 23)) = xs[1]? := hf 1 _ rfl
  rw [e22] at f0
  rw [e23] at f1
  match xs, hn, cs, hl with
  | [y0, y1], _, [c0, c1], _ =>
    have g0 : ∃ a len cap, c0 = .slice a len cap := by
      rcases DataW.trod_slice Tryz.underlying22 f0 with ⟨h1, _⟩ | ⟨x0, len', cap', _, _, _, _, h1, _⟩
      · simp at h1; exact ⟨_, _, _, h1⟩
      · simp at h1; exact ⟨_, _, _, h1⟩
    have g1 : ∃ a len cap, c1 = .slice a len cap := by
      rcases DataW.trod_slice Tryz.underlying23 f1 with ⟨h1, _⟩ | ⟨x0, len', cap', _, _, _, _, h1, _⟩
      · simp at h1; exact ⟨_, _, _, h1⟩
      · simp at h1; exact ⟨_, _, _, h1⟩
    obtain ⟨a, len, c, rfl⟩ := g0
    obtain ⟨a', len', c', rfl⟩ := g1
    obtain ⟨ns, hn1, hn2, hn3⟩ := rd_of_trod ndE (fun y => y.name.size ≤ maxLen) (by kernel_rfl) (fun n cs y hy => nd_of_trod hy) f0 rfl
    obtain ⟨es, he1, he2, _⟩ := rd_of_trod edE (fun _ => True) (by kernel_rfl) (fun n cs y hy => ed_of_trod hy) f1 rfl
    subst hn1
    subst he1
    exact ⟨a, c, a', c', ns, es, rfl, hn2, he2, hn3⟩
end
open Go.ChangeShapes Go.WideShapes Go.ChangeAt Go.RowKit
def ntE : El Tryz.prog Nt where
 t := 96
 e := 101
 k := 4
 by' := 32
 z := .agg #[.int .i64 0, .int .i64 0, .int .i64 0, .int .i64 0]
 enc x := [.int .i64 x.kind, .int .i64 x.a, .int .i64 x.b, .int .i64 x.c]
 ht := Tryz.underlying96
 info := by kernel_rfl
 zc := rfl
 kpos := by omega
 bsm := by omega
 len _ := rfl
 one x v hv := by simp at hv; rcases hv with rfl | rfl | rfl | rfl <;> rfl
theorem nt_at {w : World} {a : Option Addr} {n c : Nat} {xs : List Nt} (h : ntE.Rd w (.slice a n c) xs) (i : Nat) (p : Nt) (hp : xs[i]? = some p) : ∃ b off, a = some ⟨b, off, none⟩ ∧ w.cell? ⟨b, off + i * 4, none⟩ = some (.int .i64 p.kind) ∧ w.cell? ⟨b, off + i * 4 + 1, none⟩ = some (.int .i64 p.a) ∧ w.cell? ⟨b, off + i * 4 + 2, none⟩ = some (.int .i64 p.b) ∧ w.cell? ⟨b, off + i * 4 + 3, none⟩ = some (.int .i64 p.c) := by
 obtain ⟨b, off, e, hc⟩ := El.Rd.at h i p hp
 exact ⟨b, off, e, hc 0 (by decide), hc 1 (by decide), hc 2 (by decide), hc 3 (by decide)⟩
section
variable {H : Type} {enc : TypeId × Value → H} {w : World} {base : Nat} {spare : Nat → Bool} {held : Bool} {fuel : Nat} {cs : List Value} {x : DataW H × List MemPlace}
theorem lyt_of_trod (h : DataW.trod enc Tryz.prog w base spare held fuel 25 cs = some x) : ∃ a c a' c' ns es, cs = [.slice a (ns : List Nd).length c, .slice a' (es : List Ed).length c'] ∧ Lyt w a a' c c' ns.length es.length ns es := by
  obtain ⟨a, c, a', c', ns, es, hcs, h1, h2, h3⟩ := layout_of_trod h
  refine ⟨a, c, a', c', ns, es, hcs, rfl, rfl, h1, h2, ?_, h3⟩
  subst hcs
  obtain ⟨xs, n, _, _, hl, hn, hf⟩ := DataW.trod_struct Tryz.underlying25 h
  have e23 : Tryz.prog.cellsOf 23 = 1 := by kernel_rfl
  have f1 : DataW.trod enc Tryz.prog w base spare held n 23 (([Value.slice a ns.length c, Value.slice a' es.length c'].drop 1).take (Tryz.prog.cellsOf 23)) = xs[1]? := hf 1 _ rfl
  rw [e23] at f1
  match xs, hn with
  | [y0, y1], _ =>
    rcases DataW.trod_slice Tryz.underlying23 f1 with ⟨h1, _⟩ | ⟨x0, len', cap', _, _, _, _, h1, _, _, hl, _⟩
    · simp at h1
      rw [h1.2.1, h1.2.2]; exact Nat.le_refl _
    · simp at h1
      rw [h1.2.1, h1.2.2]; exact hl
end
theorem Its.box1 {w0 w : World} {l : List It} (h : Its w0 l w) (C : Array Value) (t : TypeId) : Its w0 (.box w.heap.size C t :: l) (w.alloc (.cells C t)) := h.new (x := .box w.heap.size C t) (heap_new _ _) (fun k hk => Nat.le_of_eq hk.symm) (below_new _ _)
open Go.ChangeShapes Go.WideShapes Go.ChangeAt Go.RowKit
def byE : El Tryz.prog Int where
 t := 54
 e := 5
 k := 1
 by' := 1
 z := .int .u8 0
 enc x := [.int .u8 x]
 ht := Tryz.underlying54
 info := by kernel_rfl
 zc := rfl
 kpos := by omega
 bsm := by omega
 len _ := rfl
 one x v hv := by simp at hv; subst hv; rfl
theorem by_at {w : World} {a : Option Addr} {n c : Nat} {xs : List Int} (h : byE.Rd w (.slice a n c) xs) (i : Nat) (p : Int) (hp : xs[i]? = some p) : ∃ b off, a = some ⟨b, off, none⟩ ∧ w.cell? ⟨b, off + i, none⟩ = some (.int .u8 p) := by
 obtain ⟨b, off, h1, h2⟩ := h.at i p hp
 refine ⟨b, off, h1, ?_⟩
 have := h2 0 (by show 0 < 1; omega)
 simpa [byE] using this
theorem by_some {w : World} {a : Option Addr} {n c : Nat} {xs : List Int} (h : byE.Rd w (.slice a n c) xs) (hne : xs ≠ []) : ∃ b off, a = some ⟨b, off, none⟩ ∧ ∀ i p, xs[i]? = some p → w.cell? ⟨b, off + i, none⟩ = some (.int .u8 p) := by
 cases xs with
 | nil => exact absurd rfl hne
 | cons z t =>
  obtain ⟨b, off, h1, _⟩ := by_at h 0 z rfl
  refine ⟨b, off, h1, fun i p hp => ?_⟩
  obtain ⟨b', off', h3, h4⟩ := by_at h i p hp
  rw [h1] at h3
  simp only [Option.some.injEq, Addr.mk.injEq] at h3
  obtain ⟨rfl, rfl, _⟩ := h3
  exact h4
theorem nt_new (w : World) (p : Nt) (g : Nat) (hg : g = w.heap.size) : ntE.Rd (w.alloc (.cells #[.int .i64 p.kind, .int .i64 p.a, .int .i64 p.b, .int .i64 p.c] 101)) (.slice (some ⟨g, 0, none⟩) 1 1) [p] :=
 (El.Own.new ntE w w.heap.size (Nat.le_refl _) _ [p] rfl (by simp) _ _ _ hg rfl rfl).rd
theorem by_new1 (w : World) (x : Int) (g : Nat) (hg : g = w.heap.size) : byE.Rd (w.alloc (.cells #[.int .u8 x] 5)) (.slice (some ⟨g, 0, none⟩) 1 1) [x] :=
 (El.Own.new byE w w.heap.size (Nat.le_refl _) _ [x] rfl (by simp) _ _ _ hg rfl rfl).rd
theorem by_new2 (w : World) (x y : Int) (g : Nat) (hg : g = w.heap.size) : byE.Rd (w.alloc (.cells #[.int .u8 x, .int .u8 y] 5)) (.slice (some ⟨g, 0, none⟩) 2 2) [x, y] :=
 (El.Own.new byE w w.heap.size (Nat.le_refl _) _ [x, y] rfl (by simp) _ _ _ hg rfl rfl).rd
theorem by_fl (xs : List Int) : byE.fl xs = xs.map (Value.int .u8) := fl_map byE _ (fun _ => rfl) xs
theorem sum_rd {w : World} {v : Value} {l : List Int} (h : byE.Rd w v l) (hr : InB l) (hm : l.length ≤ 140737488355328) :
  Calls Tryz.prog 161 #[v] w fun e w' => e = .returned (.int .u16 (uv (sm 0xFFFF#16 l))) ∧ w' = w := by
 obtain ⟨a, cap, rfl⟩ := h.form
 cases l with
 | nil => exact sum_nil _ _ _
 | cons z t =>
  obtain ⟨b, off, rfl, hc⟩ := by_some h (by simp)
  exact sum_at b off cap _ (z :: t) w rfl (fun i hi => by rw [hc i _ (List.getElem?_eq_getElem hi), List.getElem?_eq_getElem hi]; rfl) hr hm
def str (l : List Int) : ByteArray := l.foldl (fun r n => r.push (UInt8.ofNat n.toNat)) ByteArray.empty
theorem conv_str {w : World} {v : Value} {l : List Int} (h : byE.Rd w v l) : (convert 54 9 v).run Tryz.prog w = .ok (.string (str l)) w := by
  rcases h with ⟨rfl, rfl⟩ | ⟨x, cap, rfl, hc⟩
  · exact run_convert_bytes_nil (P := Tryz.prog) w 54 5 Tryz.underlying54 Tryz.underlying5 0 0 9 Tryz.underlying9
  · have hl : (loadCells x l.length).run Tryz.prog w = .ok (l.map (Value.int .u8)).toArray w := by
      have := run_loadCells_list (P := Tryz.prog) w x (l.map (Value.int .u8)) (fun j y hy => by
        have hj : j < l.length := by
          rcases Nat.lt_or_ge j l.length with h | h
          · exact h
          · simp [List.getElem?_eq_none h] at hy
        have := hc j (by show j < l.length * 1; omega)
        rw [this, by_fl]; simpa [hj] using hy)
      simpa using this
    rw [run_convert_bytes_string (P := Tryz.prog) w 54 9 5 _ _ _ Tryz.underlying54 Tryz.underlying5 Tryz.underlying9, run_bytesToString w x _ cap l hl]
    rfl
theorem box_at {w w' : World} {C : Array Value} {t : TypeId} (hb : Below (w.alloc (.cells C t)).heap.size (w.alloc (.cells C t)) w') (i : Nat) : w'.cell? ⟨w.heap.size, i, none⟩ = C[i]? := by
 rw [hb.cell (by simp)]; exact (cells_at (heap_new _ _) i).1
end Go.Proofs.YtocmngpoemfpkabGreatDoor
