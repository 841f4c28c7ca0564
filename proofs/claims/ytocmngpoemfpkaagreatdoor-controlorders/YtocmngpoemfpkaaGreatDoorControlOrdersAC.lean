/- ControlOrders: texts Mre Mrf Lay Nam Lyb Fit. -/
import Derived.BigQuiet
import Derived.ChangeKeysEq
import Derived.Deep.CutRange
import Derived.Deep.DeepCutAuto
import Derived.Deep.QuietTactic
import Derived.Laws.RangeAny
import Derived.LoopTactic
import Derived.Maps.Own
import Derived.Maps.OwnOps
import Derived.Maps.OwnSet
import Derived.Maps.Views
import Derived.OpenShut
import Derived.Test.YtocmngpoemfpkaaGreatDoorControlOrdersAA
import Derived.Test.YtocmngpoemfpkaaGreatDoorControlOrdersAB
import Derived.WideShapes4
namespace Go.Proofs.YtocmngpoemfpkaaGreatDoor
open Go.RowKit
set_option linter.unusedVariables false
section
variable {w0 w : World} {l : List It} {B g n m : Nat} {H : Nat × Nat} {es : List (Int × Int)} {S : Mr}
set_option maxRecDepth 100000 in
set_option maxHeartbeats 2000000 in
theorem movedS (h : Its w0 (.mir B g H n m es S :: l) w) (d t : Int) : Calls Tryz.prog 214 #[.pointer (some ⟨g, 0, none⟩), .int .i64 d, .int .i64 t] w fun e w' => e = .returned (.int .i64 (S.mov d t).1) ∧ Its w0 (.mir B g H n m es (S.mov d t).2 :: l) w' := by
  have h1 := h.one
  have hok := (mr_ok h1).mov d t
  have K1 := hide (isDev_m h1 d)
  have K2 := hide (isTote_any t w)
  have HI := hide h
  have e0 : S.mov d t = if (S.isD d && isT t) = false then (1, S) else if (S.dev d).tt = 0 then (4, S) else if (S.dev d).tt ≠ t then (160, S) else (0, ⟨(S.ts.set (S.dev d).fr.toNat 0).set (S.dev d).en.toNat t, S.ds.set (d - 1).toNat { S.dev d with tt := 0 }⟩) := rfl
  rw [e0] at hok ⊢
  cases hD : S.isD d with
  | false =>
    rw [hD] at K1
    rw [if_pos (show (false && isT t) = false from rfl)]
    clear hD e0 h h1 hok
    go_enter Tryz.func214, Tryz.ntmps214
    go_wp2_with (go_at_call 139; refine K1.out.mono ?_; rintro e w1 ⟨rfl, rfl⟩)
    go_ret
    exact ⟨rfl, HI.out⟩
  | true =>
  rw [hD] at K1 hok
  cases hT : isT t with
  | false =>
    rw [hT] at K2
    rw [if_pos (show (true && false) = false from rfl)]
    clear hD hT e0 h h1 hok
    go_enter Tryz.func214, Tryz.ntmps214
    go_wp2_with (first
      | (go_at_call 139; refine K1.out.mono ?_; rintro e w1 ⟨rfl, rfl⟩)
      | (go_at_call 137; refine K2.out.mono ?_; rintro e w1 ⟨rfl, rfl⟩))
    go_ret
    exact ⟨rfl, HI.out⟩
  | true =>
  rw [hT] at K2 hok
  rw [if_neg (show ¬ (true && true) = false by simp)] at hok ⊢
  obtain ⟨k, kf, ke, hd, hk, hk', hp, ef, hkf, ee, hke, hne, X0⟩ := rds_of h1 hD
  have X := hide (X0 w0 l)
  clear X0
  have K4 := hide (device_m h1 k hk)
  obtain ⟨c0, c1, c2, c3, c4, c5, c6, cq, cv, c7, c8, c9⟩ := X.out _ HI.out
  have f2 := c7 2 (by omega)
  have j0 : (0 : Int) ≤ (kf : Int) := by omega
  have j1 : (kf : Int) < (n : Int) := by omega
  have j2 : (0 : Int) ≤ (ke : Int) := by omega
  have j3 : (ke : Int) < (n : Int) := by omega
  have fi : Hid (MFact n m es S) := hide (mr_fact h1)
  have hbd : H.1 ≠ H.2 := fun q => by
    have q1 := own_cells (mr_ts h1) H.1 rfl
    have q2 := own_cells (mr_ds h1) H.2 rfl
    obtain ⟨a, q1, _⟩ := q1
    obtain ⟨b, q2, _⟩ := q2
    rw [q, q2] at q1
    simp only [Option.some.injEq, Obj.cells.injEq] at q1
    exact absurd q1.2.1 (show (219 : Nat) ≠ 3 by omega)
  by_cases z : (S.dev d).tt = 0
  case pos =>
    rw [if_pos z]
    rw [z] at c5
    subst hd
    clear hD hT e0 h h1 hp hk' ef ee hok hne z hbd
    generalize S.att (S.dev ((k : Int) + 1)).fr = xa at *
    generalize S.att (S.dev ((k : Int) + 1)).en = ya at *
    generalize S.dev ((k : Int) + 1) = D at *
    go_enter Tryz.func214, Tryz.ntmps214
    go_wp2_with (first
      | (go_at_call 139; refine K1.out.mono ?_; rintro e w1 ⟨rfl, rfl⟩)
      | (go_at_call 137; refine K2.out.mono ?_; rintro e w1 ⟨rfl, rfl⟩)
      | (go_at_call 140; refine K4.out.mono ?_; rintro e w1 ⟨rfl, rfl⟩))
    go_ret
    exact ⟨rfl, HI.out⟩
  case neg =>
  rw [if_neg z] at hok ⊢
  have ZT : (S.dev d).tt = t → (t == 0) = false := fun q => by rw [← q]; exact beq_eq_false_iff_ne.2 z
  have z' : ((S.dev d).tt == 0) = false := beq_eq_false_iff_ne.2 z
  by_cases y : (S.dev d).tt = t
  case neg =>
    rw [if_pos y]
    have y' : ((S.dev d).tt == t) = false := beq_eq_false_iff_ne.2 y
    subst hd
    clear hD hT e0 h h1 hp hk' ef ee hok hne hbd
    generalize S.att (S.dev ((k : Int) + 1)).fr = xa at *
    generalize S.att (S.dev ((k : Int) + 1)).en = ya at *
    generalize S.dev ((k : Int) + 1) = D at *
    go_enter Tryz.func214, Tryz.ntmps214
    go_wp2_with (first
      | (go_at_call 139; refine K1.out.mono ?_; rintro e w1 ⟨rfl, rfl⟩)
      | (go_at_call 137; refine K2.out.mono ?_; rintro e w1 ⟨rfl, rfl⟩)
      | (go_at_call 140; refine K4.out.mono ?_; rintro e w1 ⟨rfl, rfl⟩))
    go_ret
    exact ⟨rfl, HI.out⟩
  case pos =>
  rw [if_neg (by simpa using y)] at hok ⊢
  rw [ef, ee, hk', show ((kf : Int)).toNat = kf by omega, show ((ke : Int)).toNat = ke by omega] at hok ⊢
  have Y : Hid (∀ W, Its w0 (mparts B g H n m S ++ l) W → Its w0 (mparts B g H n m ⟨(S.ts.set kf 0).set ke t, S.ds⟩ ++ l) ((W.setCell ⟨H.1, kf, none⟩ (.int .i64 0)).setCell ⟨H.1, ke, none⟩ (.int .i64 t))) := hide (fun W hW => ((hW.swap.tset kf 0).tset ke t).swap)
  have Z : Hid (∀ W, Its w0 (mparts B g H n m ⟨(S.ts.set kf 0).set ke t, S.ds⟩ ++ l) W → W.cell? ⟨H.2, k * 6 + 2, none⟩ = some (.int .i64 t) ∧ W.frozen? ⟨H.2, k * 6 + 2, none⟩ = false ∧
      Its w0 (.mir B g H n m es ⟨(S.ts.set kf 0).set ke t, S.ds.set k { S.dev d with tt := 0 }⟩ :: l) (W.setCell ⟨H.2, k * 6 + 2, none⟩ (.int .i64 0))) := hide (fun W hW => by
    have o1 : dvE.Own W B (.slice (some ⟨H.2, 0, none⟩) m m) S.ds := hW.one
    have a1 := (dv_at o1.rd k _ hp).2.2.1
    rw [y] at a1
    have a2 := (o1.cell (k * 6 + 2) (by show k * 6 + 2 < S.ds.length * 6; have := idx_lt hp; omega)).2.1
    exact ⟨a1, a2, Its.mshut (S := ⟨(S.ts.set kf 0).set ke t, S.ds.set k { S.dev d with tt := 0 }⟩) (Its.dset hW hp { S.dev d with tt := 0 } 2 (.int .i64 0) (by omega) rfl) ⟨hok, fi.out.2⟩⟩)
  replace ZT := ZT y
  have HO := hide HI.out.mopen.1
  rw [y] at c5
  have hek : ke ≠ kf := fun q => hne q.symm
  subst hd
  generalize S.att (S.dev ((k : Int) + 1)).fr = xa at *
  generalize S.att (S.dev ((k : Int) + 1)).en = ya at *
  generalize S.dev ((k : Int) + 1) = D at *
  clear hD hT e0 h h1 hp hk' ef ee hok z y z' c7
  go_enter Tryz.func214, Tryz.ntmps214
  go_wp2_with (first
      | (go_at_call 139; refine K1.out.mono ?_; rintro e w1 ⟨rfl, rfl⟩)
      | (go_at_call 137; refine K2.out.mono ?_; rintro e w1 ⟨rfl, rfl⟩)
      | (go_at_call 140; refine K4.out.mono ?_; rintro e w1 ⟨rfl, rfl⟩))
  go_region
  have q1 : Its w0 (mparts B g H n m ⟨(S.ts.set kf 0).set ke t, S.ds⟩ ++ l) ((w1.setCell ⟨H.1, kf, none⟩ (.int .i64 0)).setCell ⟨H.1, ke, none⟩ (.int .i64 t)).drew := (Y.out _ HO.out).drew 1
  obtain ⟨y1, y2, y3⟩ := Z.out _ q1
  have HY := hide y3
  clear q1 y3 Y Z X HO HI K1 K2 K4 c0 c1 c2 c3 c4 c5 c6 c8 c9 cq cv f2
  generalize ((w1.setCell ⟨H.1, kf, none⟩ (.int .i64 0)).setCell ⟨H.1, ke, none⟩ (.int .i64 t)).drew = wz at *
  go_wp2_with fail
  go_ret
  exact ⟨rfl, HY.out⟩
set_option maxRecDepth 100000 in
set_option maxHeartbeats 2000000 in
theorem applyS (h : Its w0 (.mir B g H n m es S :: l) w) (x : Nt) : Calls Tryz.prog 172 #[.pointer (some ⟨g, 0, none⟩), .agg #[.int .i64 x.kind, .int .i64 x.a, .int .i64 x.b, .int .i64 x.c]] w fun e w' => e = .returned (.int .i64 (S.app x).1) ∧ Its w0 (.mir B g H n m es (S.app x).2 :: l) w' := by
  obtain ⟨w1, hw1⟩ : ∃ w1, w.alloc (.cells #[.int .i64 x.kind, .int .i64 x.a, .int .i64 x.b, .int .i64 x.c] 69) = w1 := ⟨_, rfl⟩
  have h1 : Its w0 (.mir B g H n m es S :: l) w1 := by rw [← hw1]; exact h.alloc _
  have b1 : w1.heap[w.heap.size]? = some (.cells #[.int .i64 x.kind, .int .i64 x.a, .int .i64 x.b, .int .i64 x.c] 69) := by rw [← hw1]; exact heap_new _ _
  have y0 : w1.cell? ⟨w.heap.size, 0, none⟩ = some (.int .i64 x.kind) := (cells_at b1 0).1
  have y1 : w1.cell? ⟨w.heap.size, 1, none⟩ = some (.int .i64 x.a) := (cells_at b1 1).1
  have y2 : w1.cell? ⟨w.heap.size, 2, none⟩ = some (.int .i64 x.b) := (cells_at b1 2).1
  have y3 : w1.cell? ⟨w.heap.size, 3, none⟩ = some (.int .i64 x.c) := (cells_at b1 3).1
  have HI := hide h1
  have K1 := hide (putS h1 x.a x.b)
  have K4 := hide (sendS h1 x.a x.b x.c)
  have K5 := hide (movedS h1 x.a x.b)
  have K7 := hide (dropS h1 x.a)
  have K8 := hide (maskS h1 x.a (decide (x.b = 1)))
  have e0 : S.app x = if x.kind = 1 then S.put x.a x.b else if x.kind = 4 then S.snd x.a x.b x.c else if x.kind = 5 then S.mov x.a x.b else if x.kind = 7 then S.drp x.a else if x.kind = 8 then S.msk x.a (decide (x.b = 1)) else (23, S) := rfl
  rw [e0]
  obtain ⟨kd, xa, xb, xc⟩ := x
  dsimp only at *
  subst hw1
  clear e0 h h1 b1
  by_cases k1 : kd = 1
  · subst k1
    rw [if_pos rfl]
    go_enter Tryz.func172, Tryz.ntmps172
    go_wp2_with (go_at_call 212; refine K1.out.mono ?_; rintro e w2 ⟨rfl, q⟩; have HQ := hide q; clear q)
    go_ret
    exact ⟨rfl, HQ.out⟩
  rw [if_neg k1]
  have k1' : (kd == 1) = false := beq_eq_false_iff_ne.2 k1
  by_cases k4 : kd = 4
  · subst k4
    rw [if_pos rfl]
    clear k1 k1'
    go_enter Tryz.func172, Tryz.ntmps172
    go_wp2_with (go_at_call 213; refine K4.out.mono ?_; rintro e w2 ⟨rfl, q⟩; have HQ := hide q; clear q)
    go_ret
    exact ⟨rfl, HQ.out⟩
  rw [if_neg k4]
  have k4' : (kd == 4) = false := beq_eq_false_iff_ne.2 k4
  by_cases k5 : kd = 5
  · subst k5
    rw [if_pos rfl]
    clear k1 k1' k4 k4'
    go_enter Tryz.func172, Tryz.ntmps172
    go_wp2_with (go_at_call 214; refine K5.out.mono ?_; rintro e w2 ⟨rfl, q⟩; have HQ := hide q; clear q)
    go_ret
    exact ⟨rfl, HQ.out⟩
  rw [if_neg k5]
  have k5' : (kd == 5) = false := beq_eq_false_iff_ne.2 k5
  by_cases k7 : kd = 7
  · subst k7
    rw [if_pos rfl]
    clear k1 k1' k4 k4' k5 k5'
    go_enter Tryz.func172, Tryz.ntmps172
    go_wp2_with (go_at_call 215; refine K7.out.mono ?_; rintro e w2 ⟨rfl, q⟩; have HQ := hide q; clear q)
    go_ret
    exact ⟨rfl, HQ.out⟩
  rw [if_neg k7]
  have k7' : (kd == 7) = false := beq_eq_false_iff_ne.2 k7
  by_cases k8 : kd = 8
  · subst k8
    rw [if_pos rfl]
    clear k1 k1' k4 k4' k5 k5' k7 k7'
    have eb : (xb == 1) = decide (xb = 1) := by by_cases q : xb = 1 <;> simp [q]
    generalize decide (xb = 1) = bb at *
    go_enter Tryz.func172, Tryz.ntmps172
    go_wp2_with (go_at_call 216; refine K8.out.mono ?_; rintro e w2 ⟨rfl, q⟩; have HQ := hide q; clear q)
    go_ret
    exact ⟨rfl, HQ.out⟩
  rw [if_neg k8]
  have k8' : (kd == 8) = false := beq_eq_false_iff_ne.2 k8
  go_enter Tryz.func172, Tryz.ntmps172
  go_wp2_with fail
  go_ret
  exact ⟨rfl, HI.out⟩
end
end Go.Proofs.YtocmngpoemfpkaaGreatDoor

namespace Go.Proofs.YtocmngpoemfpkaaGreatDoor
open Go.RowKit
set_option linter.unusedVariables false
theorem downF_app (i : Nat) (l : List Dv) (D : Dv) : downF i (l ++ [D]) = downF i l ++ (if D.dn then [((i + l.length : Nat) : Int) + 1] else []) := by
  induction l generalizing i with
  | nil => simp [downF]
  | cons E t ih =>
    rw [List.cons_append]
    unfold downF
    rw [ih]
    have : i + 1 + t.length = i + (E :: t).length := by simp; omega
    rw [this]
    by_cases h : E.dn <;> simp [h]
theorem take_one {α : Type} {l : List α} {k : Nat} {x : α} (h : l[k]? = some x) : l.take (k + 1) = l.take k ++ [x] := by
  rw [List.take_add_one, h]; rfl
theorem downF_len (i : Nat) (l : List Dv) : (downF i l).length ≤ l.length := by
  induction l generalizing i with
  | nil => simp [downF]
  | cons E t ih =>
    have := ih (i + 1)
    unfold downF
    by_cases h : E.dn <;> simp [h] <;> omega
end Go.Proofs.YtocmngpoemfpkaaGreatDoor

namespace Go.Proofs.YtocmngpoemfpkaaGreatDoor
open Go.RowKit
structure Nd where
  name : ByteArray
  kind : Int
  zone : Int
deriving DecidableEq
abbrev Ed := Int × Int
def ndE : El Tryz.prog Nd where
  t := 22
  e := 53
  k := 3
  by' := 32
  z := .agg #[.string ByteArray.empty, .int .i64 0, .int .i64 0]
  enc n := [.string n.name, .int .i64 n.kind, .int .i64 n.zone]
  ht := Tryz.underlying22
  info := by kernel_rfl
  zc := rfl
  kpos := by omega
  bsm := by omega
  len _ := rfl
  one x v hv := by simp at hv; rcases hv with rfl | rfl | rfl <;> rfl
def edE : El Tryz.prog Ed where
  t := 23
  e := 78
  k := 2
  by' := 16
  z := .agg #[.int .i64 0, .int .i64 0]
  enc e := [.int .i64 e.1, .int .i64 e.2]
  ht := Tryz.underlying23
  info := by kernel_rfl
  zc := rfl
  kpos := by omega
  bsm := by omega
  len _ := rfl
  one x v hv := by simp at hv; rcases hv with rfl | rfl <;> rfl
def chOk (i x : Nat) : Bool := decide (97 ≤ x ∧ x ≤ 122) || (decide (48 ≤ x ∧ x ≤ 57) && decide (i ≠ 0))
def byteAt (s : ByteArray) (i : Nat) : Nat := (s.data.toList[i]?.getD 0).toNat
def nameB (s : ByteArray) : Bool := decide (1 ≤ s.size ∧ s.size ≤ 8 ∧ ∀ i, i < s.size → chOk i (byteAt s i) = true)
def zoneB (z : Int) : Bool := decide (0 ≤ z ∧ z < 8)
def ndB (n : Nd) : Bool := nameB n.name && decide (1 ≤ n.kind ∧ n.kind ≤ 4) && zoneB n.zone
def goodN (ns : List Nd) : Bool := decide (1 ≤ ns.length ∧ ns.length ≤ 40 ∧ (∀ n ∈ ns, ndB n = true) ∧ (ns.map (·.name)).Nodup)
def placeB (ns : List Nd) (i : Int) : Bool := decide (0 ≤ i ∧ i < ns.length)
def kindAt (ns : List Nd) (i : Int) : Int := (ns[i.toNat]?.map (·.kind)).getD 0
def edB (ns : List Nd) (e : Ed) : Bool := placeB ns e.1 && placeB ns e.2 && decide (e.1 ≠ e.2) && (decide (kindAt ns e.1 = 1) || decide (kindAt ns e.2 = 1))
def goodE (ns : List Nd) (es : List Ed) : Bool := decide (es.length ≤ 120 ∧ (∀ e ∈ es, edB ns e = true) ∧ es.Nodup)
def good (ns : List Nd) (es : List Ed) : Bool := goodN ns && goodE ns es
theorem byteAt_eq (s : ByteArray) (i : Nat) (h : i < s.size) : byteAt s i = (s[i]'h).toNat := by
  unfold byteAt
  have hl : i < s.data.toList.length := by simpa using h
  rw [List.getElem?_eq_getElem hl]
  rfl
end Go.Proofs.YtocmngpoemfpkaaGreatDoor

namespace Go.Proofs.YtocmngpoemfpkaaGreatDoor
open Go.RowKit
set_option linter.unusedVariables false
set_option maxHeartbeats 1000000 in
theorem isZone_any (z : Int) (w : World) : Calls Tryz.prog 209 #[.int .i64 z] w fun e w' => e = .returned (.bool (zoneB z)) ∧ w' = w := by
  unfold zoneB
  by_cases h1 : 0 ≤ z
  · by_cases h2 : z < 8
    · go_enter Tryz.func209, Tryz.ntmps209
      go_wp2_with fail
      go_ret
      exact ⟨by simp [h1, h2], rfl⟩
    · go_enter Tryz.func209, Tryz.ntmps209
      go_wp2_with fail
      go_ret
      exact ⟨by simp [h2], rfl⟩
  · go_enter Tryz.func209, Tryz.ntmps209
    go_wp2_with fail
    go_ret
    exact ⟨by rw [decide_eq_false (by omega)]; rfl, rfl⟩
set_option maxHeartbeats 1000000 in
theorem isPlace_any (a : Option Addr) (n c : Nat) (i : Int) (w : World) : Calls Tryz.prog 210 #[.slice a n c, .int .i64 i] w fun e w' => e = .returned (.bool (decide (0 ≤ i ∧ i < n))) ∧ w' = w := by
  by_cases h1 : 0 ≤ i
  · by_cases h2 : i < n
    · go_enter Tryz.func210, Tryz.ntmps210
      go_wp2_with fail
      go_ret
      exact ⟨by simp [h1, h2], rfl⟩
    · go_enter Tryz.func210, Tryz.ntmps210
      go_wp2_with fail
      go_ret
      exact ⟨by simp [h2], rfl⟩
  · go_enter Tryz.func210, Tryz.ntmps210
    go_wp2_with fail
    go_ret
    exact ⟨by rw [decide_eq_false (by omega)]; rfl, rfl⟩
set_option maxRecDepth 100000 in
set_option maxHeartbeats 4000000 in
theorem isName_any (s : ByteArray) (w : World) : Calls Tryz.prog 201 #[.string s] w fun e w' => e = .returned (.bool (nameB s)) ∧ Below w.heap.size w w' := by
  have b0 : Below w.heap.size w w := Below.refl _ _
  by_cases h1 : s.size < 1
  · have e1 : nameB s = false := by unfold nameB; exact decide_eq_false (by omega)
    rw [e1]
    have h1' : (s.size : Int) < 1 := by omega
    go_enter Tryz.func201, Tryz.ntmps201
    go_wp2_with fail
    go_ret
    exact ⟨rfl, b0⟩
  by_cases h2 : 8 < s.size
  · have e1 : nameB s = false := by unfold nameB; exact decide_eq_false (by omega)
    rw [e1]
    have h1' : ¬ (s.size : Int) < 1 := by omega
    have h2' : (8 : Int) < s.size := by omega
    go_enter Tryz.func201, Tryz.ntmps201
    go_wp2_with fail
    go_ret
    exact ⟨rfl, b0⟩
  have h1' : ¬ (s.size : Int) < 1 := by omega
  have h2' : ¬ (8 : Int) < s.size := by omega
  have fin : Hid (∀ p, Below w.heap.size w (w.iter s p)) := hide (fun p => (Below.refl _ _).alloc (Nat.le_refl _) _)
  have no : Hid (∀ i, i < s.size → chOk i (byteAt s i) = false → nameB s = false) := hide (fun i hi hc => by
    unfold nameB
    refine decide_eq_false (fun h => ?_)
    rw [h.2.2 i hi] at hc; cases hc)
  have yes : Hid ((∀ i, i < s.size → chOk i (byteAt s i) = true) → nameB s = true) := hide (fun h => by
    unfold nameB
    exact decide_eq_true ⟨by omega, by omega, h⟩)
  generalize nameB s = res at *
  have Hn := hide (And.intro h1 h2)
  clear h1 h2 b0
  go_enter Tryz.func201, Tryz.ntmps201
  go_wp2_with fail
  go_loopw [] (fun wr => ∃ pos : Nat, wr = w.iter s pos ∧ pos ≤ s.size ∧ Hid (∀ i, i < pos → chOk i (byteAt s i) = true)) (fun wr => s.size - wr.iterPos w.heap.size)
  case atStart => exact ⟨0, rfl, Nat.zero_le _, hide (fun i hi => by omega)⟩
  case round =>
    obtain ⟨pos, rfl, hp, hall⟩ := hrel
    by_cases hlt : pos < s.size
    · have hnx : ∀ ty, (Instr.next (.pointer (some ⟨w.heap.size, 0, none⟩)) true ty).run Tryz.prog (w.iter s pos) = _ := fun ty => run_next_any w s pos ty hlt
      have hk : Hid (chOk pos (byteAt s pos) = (decide (97 ≤ (Utf8.decode s pos).1 ∧ (Utf8.decode s pos).1 ≤ 122) || (decide (48 ≤ (Utf8.decode s pos).1 ∧ (Utf8.decode s pos).1 ≤ 57) && decide (pos ≠ 0))) ∧ (chOk pos (byteAt s pos) = true → (Utf8.decode s pos).2 = 1)) := hide (by
        by_cases ha : (s[pos]'hlt).toNat < 128
        · rw [decode_ascii s pos hlt ha, byteAt_eq s pos hlt]
          exact ⟨rfl, fun _ => rfl⟩
        · have hh := (decode_high s pos hlt (by omega)).1
          rw [byteAt_eq s pos hlt]
          generalize (s[pos]'hlt).toNat = x at *
          generalize (Utf8.decode s pos).1 = y at *
          have z : chOk pos x = false := by
            unfold chOk
            rw [decide_eq_false (by omega), decide_eq_false (by omega)]; rfl
          refine ⟨?_, fun h => by rw [z] at h; cases h⟩
          rw [z, decide_eq_false (show ¬ (97 ≤ y ∧ y ≤ 122) by omega), decide_eq_false (show ¬ (48 ≤ y ∧ y ≤ 57) by omega)]; rfl)
      have hrl := decode_le s pos
      generalize (Utf8.decode s pos).1 = r at *
      generalize (Utf8.decode s pos).2 = d at *
      have step : Hid (chOk pos (byteAt s pos) = true → d = 1 ∧ ∀ i, i < pos + 1 → chOk i (byteAt s i) = true) := hide (fun h => ⟨hk.out.2 h, fun i hi => by
        rcases Nat.lt_or_ge i pos with h' | h'
        · exact hall.out i h'
        · obtain rfl : i = pos := by omega
          exact h⟩)
      have kk := hk.out.1
      have Hkk := hide kk
      clear kk hk
      by_cases l1 : 97 ≤ r ∧ r ≤ 122
      · have c1 : chOk pos (byteAt s pos) = true := by rw [Hkk.out, decide_eq_true l1]; rfl
        obtain ⟨rfl, st⟩ := step.out c1
        have Hst := hide st
        obtain ⟨l2, l3⟩ := l1
        have l2' : (97 : Int) ≤ (r : Int) := by omega
        have l3' : (r : Int) ≤ 122 := by omega
        clear st step Hkk c1
        by_cases d1 : 48 ≤ r ∧ r ≤ 57
        · omega
        · by_cases d2 : 48 ≤ r
          · have d2' : (48 : Int) ≤ (r : Int) := by omega
            have d3' : ¬ (r : Int) ≤ 57 := by omega
            clear d1
            go_wp2_with fail
            go_roundw
            case rel => exact ⟨pos + 1, rfl, by omega, Hst⟩
            case measure => simp; omega
          · have d2' : ¬ (48 : Int) ≤ (r : Int) := by omega
            clear d1
            go_wp2_with fail
            go_roundw
            case rel => exact ⟨pos + 1, rfl, by omega, Hst⟩
            case measure => simp; omega
      · have lf : ¬ ((97 : Int) ≤ (r : Int) ∧ (r : Int) ≤ 122) := by omega
        by_cases d1 : 48 ≤ r ∧ r ≤ 57
        · have l2' : ¬ (97 : Int) ≤ (r : Int) := by omega
          have d2' : (48 : Int) ≤ (r : Int) := by omega
          have d3' : (r : Int) ≤ 57 := by omega
          by_cases p0 : pos = 0
          · have c1 : chOk pos (byteAt s pos) = false := by rw [Hkk.out, decide_eq_false l1, decide_eq_true d1, decide_eq_false (by simpa using p0)]; rfl
            have c2 := no.out pos hlt c1
            subst c2
            subst p0
            clear l1 lf d1 step Hkk c1
            go_wp2_with fail
            go_ret
            exact ⟨rfl, fin.out _⟩
          · have c1 : chOk pos (byteAt s pos) = true := by rw [Hkk.out, decide_eq_false l1, decide_eq_true d1, decide_eq_true (by simpa using p0)]; rfl
            obtain ⟨rfl, st⟩ := step.out c1
            have Hst := hide st
            have p0' : ¬ (pos : Int) = 0 := by omega
            clear st step Hkk c1 l1 lf d1
            go_wp2_with fail
            go_roundw
            case rel => exact ⟨pos + 1, rfl, by omega, Hst⟩
            case measure => simp; omega
        · have c1 : chOk pos (byteAt s pos) = false := by rw [Hkk.out, decide_eq_false l1, decide_eq_false d1]; rfl
          have c2 := no.out pos hlt c1
          subst c2
          have df : ¬ ((48 : Int) ≤ (r : Int) ∧ (r : Int) ≤ 57) := by omega
          clear step Hkk c1 l1 d1
          by_cases l2 : (97 : Int) ≤ (r : Int)
          · have l3 : ¬ (r : Int) ≤ 122 := fun h => lf ⟨l2, h⟩
            have d2 : (48 : Int) ≤ (r : Int) := by omega
            have d3 : ¬ (r : Int) ≤ 57 := by omega
            clear lf df
            go_wp2_with fail
            go_ret
            exact ⟨rfl, fin.out _⟩
          · by_cases d2 : (48 : Int) ≤ (r : Int)
            · have d3 : ¬ (r : Int) ≤ 57 := fun h => df ⟨d2, h⟩
              clear lf df
              go_wp2_with fail
              go_ret
              exact ⟨rfl, fin.out _⟩
            · clear lf df
              go_wp2_with fail
              go_ret
              exact ⟨rfl, fin.out _⟩
    · obtain rfl : pos = s.size := by omega
      have hnx : ∀ ty, (Instr.next (.pointer (some ⟨w.heap.size, 0, none⟩)) true ty).run Tryz.prog (w.iter s s.size) = _ := fun ty => run_next_end w s s.size ty hlt
      have c2 := yes.out hall.out
      subst c2
      go_wp2_with fail
      go_ret
      exact ⟨rfl, fin.out _⟩
set_option maxRecDepth 100000 in
set_option maxHeartbeats 2000000 in
theorem isNode_any (n : Nd) (w : World) : Calls Tryz.prog 166 #[.agg #[.string n.name, .int .i64 n.kind, .int .i64 n.zone]] w fun e w' => e = .returned (.bool (ndB n)) ∧ Below w.heap.size w w' := by
  obtain ⟨s, k, z⟩ := n
  have K50 := hide (fun W => isName_any s W)
  have K51 := hide (fun W => isZone_any z W)
  have e1 : Hid (ndB ⟨s, k, z⟩ = (nameB s && (decide (1 ≤ k) && (decide (k ≤ 4) && zoneB z)))) := hide (by
    unfold ndB
    show (nameB s && decide (1 ≤ k ∧ k ≤ 4) && zoneB z) = _
    rw [Bool.decide_and]; cases nameB s <;> cases decide (1 ≤ k) <;> cases decide (k ≤ 4) <;> rfl)
  have bA : Below w.heap.size w (w.alloc (.cells #[.string s, .int .i64 k, .int .i64 z] 53)) := (Below.refl _ _).alloc (Nat.le_refl _) _
  have fin : Hid (∀ W', Below (w.alloc (.cells #[.string s, .int .i64 k, .int .i64 z] 53)).heap.size (w.alloc (.cells #[.string s, .int .i64 k, .int .i64 z] 53)) W' → Below w.heap.size w W' ∧ ∀ i, W'.cell? ⟨w.heap.size, i, none⟩ = #[Value.string s, .int .i64 k, .int .i64 z][i]?) := hide (fun W' h => ⟨bA.trans (h.mono (by simp)), fun i => by
    have hx : W'.heap[w.heap.size]? = some (.cells #[.string s, .int .i64 k, .int .i64 z] 53) := by rw [h.block _ (by simp)]; exact heap_new _ _
    exact (cells_at hx i).1⟩)
  show Calls Tryz.prog 166 #[.agg #[.string s, .int .i64 k, .int .i64 z]] w _
  rw [e1.out]
  clear bA
  cases hn : nameB s with
  | false =>
    go_enter Tryz.func166, Tryz.ntmps166
    go_wp2_with ((go_at_call 201; refine (K50.out _).mono ?_; rintro e W1 ⟨rfl, h1⟩; rw [hn]; obtain ⟨f1, f2⟩ := fin.out _ h1; have Hf := hide f1; clear f1 h1))
    go_ret
    exact ⟨rfl, Hf.out⟩
  | true =>
    by_cases k1 : 1 ≤ k
    · by_cases k2 : k ≤ 4
      · rw [decide_eq_true k1, decide_eq_true k2]
        go_enter Tryz.func166, Tryz.ntmps166
        go_wp2_with (first
          | (go_at_call 201; refine (K50.out _).mono ?_; rintro e W1 ⟨rfl, h1⟩; rw [hn]; obtain ⟨f1, f2⟩ := fin.out _ h1; have Hf := hide f1; have g1 := f2 1; have g2 := f2 2; simp at g1 g2; clear f1 f2 h1)
          | (go_at_call 209; refine (K51.out _).mono ?_; rintro e W2 ⟨rfl, rfl⟩))
        go_ret
        exact ⟨rfl, Hf.out⟩
      · rw [decide_eq_true k1, decide_eq_false k2]
        go_enter Tryz.func166, Tryz.ntmps166
        go_wp2_with ((go_at_call 201; refine (K50.out _).mono ?_; rintro e W1 ⟨rfl, h1⟩; rw [hn]; obtain ⟨f1, f2⟩ := fin.out _ h1; have Hf := hide f1; have g1 := f2 1; simp at g1; clear f1 f2 h1))
        go_ret
        exact ⟨rfl, Hf.out⟩
    · rw [decide_eq_false k1]
      go_enter Tryz.func166, Tryz.ntmps166
      go_wp2_with ((go_at_call 201; refine (K50.out _).mono ?_; rintro e W1 ⟨rfl, h1⟩; rw [hn]; obtain ⟨f1, f2⟩ := fin.out _ h1; have Hf := hide f1; have g1 := f2 1; simp at g1; clear f1 f2 h1))
      go_ret
      exact ⟨rfl, Hf.out⟩
end Go.Proofs.YtocmngpoemfpkaaGreatDoor

namespace Go.Proofs.YtocmngpoemfpkaaGreatDoor
open Go.RowKit
set_option linter.unusedVariables false
theorem nd_at {w : World} {a : Option Addr} {n c : Nat} {ns : List Nd} (h : ndE.Rd w (.slice a n c) ns) (i : Nat) (p : Nd) (hp : ns[i]? = some p) : ∃ b off, a = some ⟨b, off, none⟩ ∧ w.cell? ⟨b, off + i * 3, none⟩ = some (.string p.name) ∧ w.cell? ⟨b, off + i * 3 + 1, none⟩ = some (.int .i64 p.kind) ∧ w.cell? ⟨b, off + i * 3 + 2, none⟩ = some (.int .i64 p.zone) := by
  obtain ⟨b, off, h1, h2⟩ := h.at i p hp
  exact ⟨b, off, h1, h2 0 (by decide), h2 1 (by decide), h2 2 (by decide)⟩
theorem ed_at {w : World} {a : Option Addr} {n c : Nat} {es : List Ed} (h : edE.Rd w (.slice a n c) es) (i : Nat) (p : Ed) (hp : es[i]? = some p) : ∃ b off, a = some ⟨b, off, none⟩ ∧ w.cell? ⟨b, off + i * 2, none⟩ = some (.int .i64 p.1) ∧ w.cell? ⟨b, off + i * 2 + 1, none⟩ = some (.int .i64 p.2) := by
  obtain ⟨b, off, h1, h2⟩ := h.at i p hp
  exact ⟨b, off, h1, h2 0 (by decide), h2 1 (by decide)⟩
theorem take_mem {ns : List Nd} {k : Nat} {p : Nd} (hp : ns[k]? = some p) (s : ByteArray) : s ∈ (ns.take (k + 1)).map (·.name) ↔ s ∈ (ns.take k).map (·.name) ∨ s = p.name := by
  rw [List.take_add_one, hp, List.map_append]; simp
theorem dup_no {ns : List Nd} {k : Nat} {p : Nd} (hp : ns[k]? = some p) (h : p.name ∈ (ns.take k).map (·.name)) : goodN ns = false := by
  unfold goodN
  refine decide_eq_false fun hg => ?_
  have hn := hg.2.2.2
  have hk : k < ns.length := by
    rcases Nat.lt_or_ge k ns.length with h' | h'
    · exact h'
    · rw [List.getElem?_eq_none h'] at hp; cases hp
  have e : ns = ns.take k ++ p :: ns.drop (k + 1) := by
    rw [List.getElem?_eq_getElem hk] at hp
    cases hp
    rw [List.getElem_cons_drop, List.take_append_drop]
  rw [e, List.map_append, List.map_cons, List.nodup_append] at hn
  exact hn.2.2 _ h _ (List.mem_cons_self ..) rfl
theorem bad_no {ns : List Nd} {k : Nat} {p : Nd} (hp : ns[k]? = some p) (h : ndB p = false) : goodN ns = false := by
  unfold goodN
  refine decide_eq_false fun hg => ?_
  rw [hg.2.2.1 p (List.mem_of_getElem? hp)] at h; cases h
theorem take_nodup {ns : List Nd} {k : Nat} {p : Nd} (hp : ns[k]? = some p) (h : ((ns.take k).map (·.name)).Nodup) (h2 : p.name ∉ (ns.take k).map (·.name)) : ((ns.take (k + 1)).map (·.name)).Nodup := by
  rw [List.take_add_one, hp, List.map_append]
  simp only [Option.toList_some, List.map_cons, List.map_nil]
  rw [List.nodup_append]
  exact ⟨h, by simp, fun a ha b hb => by simp at hb; subst hb; rintro rfl; exact h2 ha⟩
theorem info3 : (Tryz.prog.info? 3).map (fun i => i.size) = some 1 := by kernel_rfl
theorem ed_equal' (w : World) (a b c e : Int) (d : Nat) : (Op.equalIn (d + 1 + 1) 78 (.agg #[.int .i64 a, .int .i64 b]) (.agg #[.int .i64 c, .int .i64 e])).run Tryz.prog w = .ok (decide ((a, b) = (c, e))) w := by
  obtain ⟨i, hi, he⟩ := Option.map_eq_some_iff.1 info3
  have c3 : Tryz.prog.cellsOf 3 = 1 := by kernel_rfl
  have p1 : ∀ (xs : Array Value) (j : Nat) (v : Value), xs[j]? = some v → (part 3 xs j).run Tryz.prog w = .ok v w := fun xs j v h => by
    have ag : (isAgg 3).run Tryz.prog w = .ok false w := by kernel_rfl
    simp [part, ag, h]
  rw [run_equalIn_array w (d + 1) #[.int .i64 a, .int .i64 b] #[.int .i64 c, .int .i64 e] Tryz.underlying78 hi, c3]
  simp only [show List.range 2 = [0, 1] from rfl, Op.eqItems, Sem.run_bind, Nat.zero_mul, Nat.one_mul]
  rw [p1 _ 0 (.int .i64 a) rfl]
  simp only [Result.andThen_ok]
  rw [p1 _ 0 (.int .i64 c) rfl]
  simp only [Result.andThen_ok, run_equalIn_int w d 3 .i64 .i64 a c Tryz.underlying3]
  by_cases h1 : a = c
  · subst h1
    simp only [beq_self_eq_true, Bool.not_true, Bool.false_eq_true, if_false, Sem.run_bind]
    rw [p1 _ 1 (.int .i64 b) rfl]
    simp only [Result.andThen_ok]
    rw [p1 _ 1 (.int .i64 e) rfl]
    simp only [Result.andThen_ok, run_equalIn_int w d 3 .i64 .i64 b e Tryz.underlying3]
    by_cases h2 : b = e
    · subst h2; simp
    · simp [h2]
  · simp [h1]
theorem ed_equal (w : World) (a b c e : Int) : (Op.equalIn 10000 78 (.agg #[.int .i64 a, .int .i64 b]) (.agg #[.int .i64 c, .int .i64 e])).run Tryz.prog w = .ok (decide ((a, b) = (c, e))) w := ed_equal' w a b c e 9998
theorem edge_dup {ns : List Nd} {es : List Ed} {k : Nat} {p : Ed} (hp : es[k]? = some p) (h : p ∈ es.take k) : goodE ns es = false := by
  unfold goodE
  refine decide_eq_false fun hg => ?_
  have hn := hg.2.2
  have hk : k < es.length := by
    rcases Nat.lt_or_ge k es.length with h' | h'
    · exact h'
    · rw [List.getElem?_eq_none h'] at hp; cases hp
  have e : es = es.take k ++ p :: es.drop (k + 1) := by
    rw [List.getElem?_eq_getElem hk] at hp
    cases hp
    rw [List.getElem_cons_drop, List.take_append_drop]
  rw [e, List.nodup_append] at hn
  exact hn.2.2 _ h _ (List.mem_cons_self ..) rfl
theorem edge_bad {ns : List Nd} {es : List Ed} {k : Nat} {p : Ed} (hp : es[k]? = some p) (h : edB ns p = false) : goodE ns es = false := by
  unfold goodE
  refine decide_eq_false fun hg => ?_
  rw [hg.2.1 p (List.mem_of_getElem? hp)] at h; cases h
theorem take_nodupE {es : List Ed} {k : Nat} {p : Ed} (hp : es[k]? = some p) (h : (es.take k).Nodup) (h2 : p ∉ es.take k) : (es.take (k + 1)).Nodup := by
  rw [List.take_add_one, hp]
  simp only [Option.toList_some]
  rw [List.nodup_append]
  exact ⟨h, by simp, fun a ha b hb => by simp at hb; subst hb; rintro rfl; exact h2 ha⟩
theorem eq_bytes (a b : ByteArray) : (a.toList == b.toList) = decide (a = b) := by
  rw [ByteArray.toList_eq, ByteArray.toList_eq]
  by_cases h : a = b
  · subst h; simp
  · rw [decide_eq_false h]
    refine beq_eq_false_iff_ne.2 fun e => h ?_
    cases a; cases b
    simp only [ByteArray.mk.injEq] at e ⊢
    exact Array.toList_inj.1 e
end Go.Proofs.YtocmngpoemfpkaaGreatDoor

namespace Go.Proofs.YtocmngpoemfpkaaGreatDoor
open Go.RowKit Go.Maps Go.ChangeMaps
set_option linter.unusedVariables false
def raw (v : Value) : Option (DataW Value × List MemPlace) := some (.held v, [])
theorem law : Keyed Tryz.prog 9 := string_keyed Tryz.underlying9
theorem zero3 (w : World) : (zeroValue 3).run Tryz.prog w = .ok (.int .i64 0) w := by kernel_rfl
def key (s : ByteArray) : Lit := .string s.data.toList
def Mp (w : World) (b n : Nat) (f : ByteArray → Option Int) : Prop := ∃ D, w.ownsMap Tryz.prog 9 raw b n D ∧ ∀ s : ByteArray, s.size ≤ maxLen → match f s with
  | none => has D (key s) = false
  | some x => has D (key s) = true ∧ ∀ z, D.atKey (key s) z = .held (.int .i64 x)
theorem key_ne {x y : ByteArray} (h : x ≠ y) : key x ≠ key y := fun e => h (by
  simp only [key, Lit.string.injEq] at e
  cases x; cases y
  simp only [ByteArray.mk.injEq] at e ⊢
  exact Array.toList_inj.1 e)
theorem key_lit (x : ByteArray) : WideAt.IsKeyLit (key x) := by unfold key; trivial
theorem Mp.look {w : World} {b n : Nat} {f : ByteArray → Option Int} (H : Mp w b n f) (s : ByteArray) (hs : s.size ≤ maxLen) :
    (Instr.lookup 173 (.map (some b)) (.string s) true).run Tryz.prog w = .ok (.tuple #[.int .i64 ((f s).getD 0), .bool (f s).isSome]) w := by
  obtain ⟨D, hm, hM⟩ := H
  have hx := hM s hs
  obtain ⟨v, ps, hrun, hv⟩ := hm.look_ok law Tryz.underlying173 (zero3 _) (zd := .held (.int .i64 0)) (zp := []) rfl (WideMaps.keyOf_string_mk (s := s) Tryz.underlying9 hs)
  rw [hrun]
  simp only [raw, Option.some.injEq, Prod.mk.injEq] at hv
  have ev := hv.1.symm
  cases hf : f s with
  | none =>
    rw [hf] at hx
    have e2 : D.atKey (key s) (.held (.int .i64 0)) = .held (.int .i64 0) := atKey_of_not_has hx _
    rw [show D.atKey (.string s.data.toList) (.held (.int .i64 0)) = .held (.int .i64 0) from e2] at ev
    cases ev
    rw [show has D (.string s.data.toList) = false from hx]; rfl
  | some x =>
    rw [hf] at hx
    rw [show D.atKey (.string s.data.toList) (.held (.int .i64 0)) = .held (.int .i64 x) from hx.2 _] at ev
    cases ev
    rw [show has D (.string s.data.toList) = true from hx.1]; rfl
theorem Mp.put {w : World} {b n : Nat} {f : ByteArray → Option Int} (H : Mp w b n f) (s : ByteArray) (hs : s.size ≤ maxLen) (x : Int) (hn : n ≤ 1000000) :
    ∃ w', (Instr.mapUpdate 173 (.map (some b)) (.string s) (.int .i64 x)).run Tryz.prog w = .ok () w' ∧ Mp w' b (n + 1) (fun y => if y = s then some x else f y) ∧ (∀ k, k ≠ b → w'.heap[k]? = w.heap[k]?) ∧ w'.heap.size = w.heap.size ∧ w'.os = w.os ∧ w'.tape = w.tape ∧ w'.output = w.output := by
  obtain ⟨D, hm, hM⟩ := H
  obtain ⟨w', hr, hm', ht⟩ := hm.store law Tryz.underlying173 (by unfold maxLen; omega) (WideMaps.keyOf_string_mk (s := s) Tryz.underlying9 hs) (val := .int .i64 x) (d := .held (.int .i64 x)) (ps := []) rfl
  refine ⟨w', hr, ⟨_, hm', fun y hy => ?_⟩, ?_⟩
  · have := hM y hy
    by_cases e : y = s
    · subst e
      simp only [if_true]
      exact ⟨has_put_same hm.isMap (key_lit y) _, fun z => atKey_put_same hm.isMap (key_lit y) _ z⟩
    · simp only [if_neg e]
      cases hw : f y with
      | none => rw [hw] at this; exact (has_put_other (key_ne e) _).trans this
      | some p =>
        rw [hw] at this
        exact ⟨(has_put_other (key_ne e) _).trans this.1, fun z => (atKey_put_other (key_ne e) _ z).trans (this.2 z)⟩
  · have hg := ht.grown
    obtain ⟨es, clock, es', clock', hb, rfl⟩ := ht
    exact ⟨fun k hk => by simp [setBlock, hk.symm], by simp [setBlock], hg.os, hg.tape, hg.output⟩
theorem Mp.made (w : World) : Mp (w.alloc (.map #[] 0)) w.heap.size 0 (fun _ => none) := ⟨.map [], World.ownsMap_made w Tryz.prog 9 raw, fun _ _ => rfl⟩
theorem Mp.keep {w w' : World} {b n : Nat} {f : ByteArray → Option Int} (H : Mp w b n f) (hb : w'.heap[b]? = w.heap[b]?) : Mp w' b n f := by
  obtain ⟨D, ⟨es, clock, hx, hr⟩, hM⟩ := H
  exact ⟨D, ⟨es, clock, by rw [hb]; exact hx, hr⟩, hM⟩
theorem Mp.lt {w : World} {b n : Nat} {f : ByteArray → Option Int} (H : Mp w b n f) : b < w.heap.size := by
  obtain ⟨D, hm, _⟩ := H
  exact hm.lt
set_option maxRecDepth 100000 in
set_option maxHeartbeats 4000000 in
theorem nodesFit_any (a : Option Addr) (c : Nat) (ns : List Nd) (w : World) (hv : ndE.Rd w (.slice a ns.length c) ns) (hs : ∀ n ∈ ns, n.name.size ≤ maxLen) :
    Calls Tryz.prog 108 #[.slice a ns.length c] w fun e w' => e = .returned (.bool (goodN ns)) ∧ Below w.heap.size w w' := by
  obtain ⟨n, hn⟩ : ∃ n, ns.length = n := ⟨_, rfl⟩
  rw [hn] at hv ⊢
  have b0 : Below w.heap.size w w := Below.refl _ _
  by_cases h1 : n < 1
  · have e1 : goodN ns = false := by unfold goodN; exact decide_eq_false (by omega)
    rw [e1]
    have h1' : (n : Int) < 1 := by omega
    clear hn hv hs
    go_enter Tryz.func108, Tryz.ntmps108
    go_wp2_with fail
    go_ret
    exact ⟨rfl, b0⟩
  by_cases h2 : 40 < n
  · have e1 : goodN ns = false := by unfold goodN; exact decide_eq_false (by omega)
    rw [e1]
    have h1' : ¬ (n : Int) < 1 := by omega
    have h2' : (40 : Int) < n := by omega
    clear hn hv hs
    go_enter Tryz.func108, Tryz.ntmps108
    go_wp2_with fail
    go_ret
    exact ⟨rfl, b0⟩
  have h1' : ¬ (n : Int) < 1 := by omega
  have h2' : ¬ (40 : Int) < n := by omega
  have i0 : (0 : Int) ≤ (n : Int) := by omega
  have yes : Hid ((∀ m ∈ ns, ndB m = true) → (ns.map (·.name)).Nodup → goodN ns = true) := hide (fun u v => by
    unfold goodN; exact decide_eq_true ⟨by omega, by omega, u, v⟩)
  have no1 : Hid (∀ k p, ns[k]? = some p → p.name ∈ (ns.take k).map (·.name) → goodN ns = false) := hide (fun k p => dup_no)
  have no2 : Hid (∀ k p, ns[k]? = some p → ndB p = false → goodN ns = false) := hide (fun k p => bad_no)
  generalize goodN ns = res at *
  have Hn := hide hn
  have Hv := hide hv
  have Hs := hide hs
  have Hc := hide (And.intro h1 h2)
  have K38 := hide (fun (p : Nd) W => isNode_any p W)
  have hk : ∀ t W, (Instr.makeMap t none).run Tryz.prog W = .ok (.map (some W.heap.size)) (W.alloc (.map #[] 0)) := fun t W => run_makeMap t W
  have M0 := hide (Mp.made w)
  have B0 : Hid (Below w.heap.size w (w.alloc (.map #[] 0))) := hide ((Below.refl _ _).alloc (Nat.le_refl _) _)
  clear hn hv hs h1 h2 b0
  go_enter Tryz.func108, Tryz.ntmps108
  go_wp2_with fail
  obtain ⟨g, hg⟩ : ∃ g, w.heap.size = g := ⟨_, rfl⟩
  rw [hg] at M0 ⊢
  have Hg := hide hg
  clear hg
  go_loopw [19] (fun v19 wr => ∃ k : Nat, k ≤ n ∧ v19 = .int .i64 k ∧ Hid (∃ f, Mp wr g k f ∧ ∀ s, (f s).isSome = true ↔ s ∈ (ns.take k).map (·.name)) ∧ Hid (Below w.heap.size w wr) ∧ Hid (∀ m ∈ ns.take k, ndB m = true) ∧ Hid (((ns.take k).map (·.name)).Nodup)) (fun v19 _ => n - (intOf v19).toNat)
  case atStart => exact ⟨0, by omega, rfl, hide ⟨_, M0.out, fun s => by simp⟩, B0, hide (by simp), hide (by simp)⟩
  case round =>
    clear M0 B0 hk
    obtain ⟨k, hk, rfl, HM, HB, HG, HD⟩ := hrel
    by_cases hlt : k < n
    · obtain ⟨p, hp⟩ : ∃ p, ns[k]? = some p := ⟨_, List.getElem?_eq_getElem (by rw [Hn.out]; exact hlt)⟩
      obtain ⟨b, off, rfl, c0, c1, c2⟩ := nd_at (Hv.out.keep HB.out) k p hp
      obtain ⟨f, hM, hf⟩ := HM.out
      have j0 : (0 : Int) ≤ (k : Int) := by omega
      have j1 : (k : Int) < (n : Int) := by omega
      have hps : p.name.size ≤ maxLen := Hs.out p (List.mem_of_getElem? hp)
      have glt : g < wr.heap.size := hM.lt
      have bA : Below wr.heap.size wr (wr.alloc (.cells #[.string p.name, .int .i64 p.kind, .int .i64 p.zone] 53)) := (Below.refl _ _).alloc (Nat.le_refl _) _
      have M1 : Mp (wr.alloc (.cells #[.string p.name, .int .i64 p.kind, .int .i64 p.zone] 53)) g k f := hM.keep (bA.block _ glt)
      have hlook := M1.look p.name hps
      have Hx : Hid ((wr.alloc (.cells #[.string p.name, .int .i64 p.kind, .int .i64 p.zone] 53)).heap[wr.heap.size]? = some (.cells #[.string p.name, .int .i64 p.kind, .int .i64 p.zone] 53)) := hide (heap_new _ _)
      have BA : Hid (Below w.heap.size w (wr.alloc (.cells #[.string p.name, .int .i64 p.kind, .int .i64 p.zone] 53))) := hide (HB.out.alloc HB.out.size _)
      have HM1 := hide M1
      have Hf := hide hf
      have Hp := hide hp
      have Hglt := hide glt
      have Hps := hide hps
      clear M1 hf hp hM bA glt hps HM
      cases hsm : (f p.name).isSome with
      | true =>
        have c2' := no1.out k p Hp.out ((Hf.out _).1 hsm)
        subst c2'
        rw [hsm] at hlook
        clear hsm
        go_wp2_with fail
        go_ret
        exact ⟨rfl, BA.out⟩
      | false =>
        rw [hsm] at hlook
        have Hsm := hide hsm
        clear hsm
        have K := hide (fun W => K38.out p W)
        have hnot : Hid (p.name ∉ (ns.take k).map (·.name)) := hide (fun h => by have := (Hf.out _).2 h; rw [Hsm.out] at this; cases this)
        have HG1 : Hid (ndB p = true → ∀ m ∈ ns.take (k + 1), ndB m = true) := hide (fun hb m hm => by
          rw [List.take_add_one, Hp.out] at hm
          simp at hm
          rcases hm with hm | rfl
          · exact HG.out m hm
          · exact hb)
        have HD1 := hide (take_nodup Hp.out HD.out hnot.out)
        have no2' : Hid (ndB p = false → res = false) := hide (no2.out k p Hp.out)
        obtain ⟨s, kd, z⟩ := p
        generalize ndB ⟨s, kd, z⟩ = ok at *
        cases ok with
        | false =>
          have c2' := no2'.out rfl
          subst c2'
          go_wp2_with (go_at_call 166; refine (K.out _).mono ?_; rintro e W1 ⟨rfl, hb1⟩; have Hb1 := hide hb1; clear hb1)
          go_ret
          exact ⟨rfl, BA.out.trans (Hb1.out.mono BA.out.size)⟩
        | true =>
          go_upto_region 10 with (go_at_call 166; refine (K.out _).mono ?_; rintro e W1 ⟨rfl, hb1⟩; have Hb1 := hide hb1; clear hb1)
          have hx1 : W1.heap[wr.heap.size]? = some (.cells #[.string s, .int .i64 kd, .int .i64 z] 53) := by rw [Hb1.out.block _ (by simp)]; exact Hx.out
          have d0 := (cells_at hx1 0).1
          simp at d0
          have M2 : Mp W1 g k f := HM1.out.keep (Hb1.out.block _ (by have := Hglt.out; simp; omega))
          obtain ⟨W2, hup, M3, hst, hsz, ho1, ho2, ho3⟩ := M2.put s Hps.out (k : Int) (by omega)
          have HM3 : Hid (∃ f', Mp W2 g (k + 1) f' ∧ ∀ t, (f' t).isSome = true ↔ t ∈ (ns.take (k + 1)).map (·.name)) := hide ⟨_, M3, fun t => by
            rw [take_mem Hp.out]
            show _ ↔ _ ∨ t = s
            by_cases e : t = s
            · simp [e]
            · rw [if_neg e, Hf.out]; simp [e]⟩
          have HB3 : Hid (Below w.heap.size w W2) := hide (by
            have hbb := BA.out.trans (Hb1.out.mono BA.out.size)
            exact ⟨ho1.trans hbb.os, ho2.trans hbb.tape, ho3.trans hbb.output, by rw [hsz]; exact hbb.size, fun q hq => (hst q (by rw [← Hg.out]; omega)).trans (hbb.block q hq)⟩)
          clear M2 M3 hst hsz ho1 ho2 ho3 hx1
          go_wp2_with fail
          go_roundw
          case rel => exact ⟨k + 1, by omega, by go_num, HM3, HB3, hide (HG1.out trivial), HD1⟩
          case measure => simp [intOf]; omega
    · have j1 : ¬ (k : Int) < (n : Int) := by omega
      have et : ns.take k = ns := List.take_of_length_le (by rw [Hn.out]; omega)
      have c2 := yes.out (by rw [← et]; exact HG.out) (by rw [← et]; exact HD.out)
      subst c2
      go_wp2_with fail
      go_ret
      exact ⟨rfl, HB.out⟩
end Go.Proofs.YtocmngpoemfpkaaGreatDoor
