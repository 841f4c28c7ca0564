/- What the object's map, struct and channel do; takeOver. -/
import Derived.Test.YteihajppgooadaaGet
namespace Go.Proofs.Yteihajppgooadaa
open Go.Conc Go.RowKit Go.Maps Go.ChangeMaps
set_option linter.unusedVariables false

theorem wf16 {x : Int} (h0 : 0 ≤ x) (h1 : x ≤ 65535) : (Lit.int .u16 x).wf = true := by
  simp [Lit.wf, IntKind.min, IntKind.max, IntKind.bits, IntKind.signed]; omega
theorem key_ne {x y : Int} (h : x ≠ y) : key x ≠ key y := fun e => h (by simpa [key] using e)
theorem key_lit (x : Int) : WideAt.IsKeyLit (key x) := by unfold key; trivial

theorem heap_set {w : World} {g i : Nat} {C : Array Value} {t : TypeId} (h : w.heap[g]? = some (.cells C t)) (u : Value) : (w.setCell ⟨g, i, none⟩ u).heap[g]? = some (.cells (C.setIfInBounds i u) t) := by
  simp [World.setCell, Array.getElem?_modify, h]

/-- a look-up -/
theorem Has.look {w : World} {h : Hd} {S : Ik} (H : Has w h S) {x : Int} (h0 : 0 ≤ x) (h1 : x ≤ 65535) :
    ∃ v, (∀ q, (Instr.lookup 96 (.map (some h.mb)) (.int .u16 x) true).run Try.prog (w.drewN q) = .ok (.tuple #[v, .bool (S.wait x).isSome]) (w.drewN q)) ∧ ∀ p, S.wait x = some p → Dat w v p := by
  obtain ⟨D, hm, hM⟩ := H.map
  have hx := hM x h0 h1
  have key' : ∀ q, ∃ v, (Instr.lookup 96 (.map (some h.mb)) (.int .u16 x) true).run Try.prog (w.drewN q) = .ok (.tuple #[v, .bool (has D (key x))]) (w.drewN q) ∧ D.atKey (key x) (.held (.slice none 0 0)) = .held v := by
    intro q
    obtain ⟨v, ps, hrun, hv⟩ := (show (w.drewN q).ownsMap Try.prog 22 raw h.mb S.n D from hm).look_ok law Try.underlying96 (zero33 _) (zd := .held (.slice none 0 0)) (zp := []) rfl (keyOf_int_mk Try.underlying22 (wf16 h0 h1))
    refine ⟨v, hrun, ?_⟩
    simp only [raw, Option.some.injEq, Prod.mk.injEq] at hv
    exact hv.1.symm
  obtain ⟨v, _, ev⟩ := key' 0
  refine ⟨v, fun q => ?_, fun p hp => ?_⟩
  · obtain ⟨v', hr', ev'⟩ := key' q
    rw [ev] at ev'
    cases ev'
    rw [hr']
    cases hw : S.wait x with
    | none => rw [hw] at hx; rw [show has D (key x) = false from hx]; rfl
    | some p => rw [hw] at hx; obtain ⟨_, k1, _⟩ := hx; rw [k1]; rfl
  · rw [hp] at hx
    obtain ⟨v', _, k2, k3⟩ := hx
    have := k2 (.held (.slice none 0 0))
    rw [ev] at this
    cases this
    exact k3

/-- the map's block written: what else stays -/
theorem map_has {w w' : World} {h : Hd} {S : Ik} (H : Has w h S) (ht : w.mapTurned w' h.mb) {D : DataW Value} {n : Nat} {wait : Int → Option Dt} (hm : w'.ownsMap Try.prog 22 raw h.mb n D) (hM : Mp w D wait) : Has w' h { S with wait := wait, n := n } := by
  obtain ⟨a1, a2, a3⟩ := H.apart
  obtain ⟨es, clock, es', clock', hb, rfl⟩ := ht
  obtain ⟨buf, s, r, hc, hq⟩ := H.chan
  have st : ∀ k, k ≠ h.mb → (setBlock w h.mb (.map es' clock')).heap[k]? = w.heap[k]? := fun k hk => by simp [setBlock, hk.symm]
  have st' : ∀ k (cur : Array Value), w.heap[k]? = some (Obj.cells cur 5) → (setBlock w h.mb (.map es' clock')).heap[k]? = w.heap[k]? := fun k cur hk => st k fun e => by rw [e, hb] at hk; cases hk
  exact { win := H.win, nx := H.nx, box := by rw [st _ a1]; exact H.box, map := ⟨D, hm, hM.stay fun g cur hg _ => st' g cur hg⟩, chan := ⟨buf, s, r, by rw [st _ a3.symm]; exact hc, hq.stay fun g cur hg _ => st' g cur hg⟩ }
theorem only_map {w w' : World} {h : Hd} (ht : w.mapTurned w' h.mb) : Only h w w' := by
  have := ht.grown
  exact ⟨this.os, this.tape, this.output, this.size, fun k hk _ h2 _ => this.block k hk (fun e => h2 (by simpa using e))⟩

theorem turn_else {w w' : World} {b : Nat} (ht : w.mapTurned w' b) : (∀ k, k ≠ b → w'.heap[k]? = w.heap[k]?) ∧ w'.heap.size = w.heap.size := by
  obtain ⟨es, clock, es', clock', hb, rfl⟩ := ht
  exact ⟨fun k hk => by simp [setBlock, hk.symm], by simp [setBlock]⟩

/-- a piece is struck -/
theorem Has.del {w : World} {h : Hd} {S : Ik} (H : Has w h S) {x : Int} (h0 : 0 ≤ x) (h1 : x ≤ 65535) (ty : TypeId) :
    ∃ w', (Builtin.delete_ #[96, 22] ty #[.map (some h.mb), .int .u16 x]).run Try.prog w = .ok (.tuple #[]) w' ∧ Has w' h { S with wait := fun y => if y = x then none else S.wait y } ∧ Only h w w' ∧ (∀ k, k ≠ h.mb → w'.heap[k]? = w.heap[k]?) ∧ w'.heap.size = w.heap.size := by
  obtain ⟨D, hm, hM⟩ := H.map
  obtain ⟨w', hr, hm', ht⟩ := hm.drop law Try.underlying96 (keyOf_int_mk Try.underlying22 (wf16 h0 h1)) ty
  refine ⟨w', hr, map_has H ht hm' ?_, only_map ht, turn_else ht⟩
  intro y y0 y1
  have := hM y y0 y1
  by_cases e : y = x
  · subst e
    simp only [if_true]
    exact has_del_same
  · simp only [if_neg e]
    cases hw : S.wait y with
    | none => rw [hw] at this; exact (has_del_other (key_ne e)).trans this
    | some p =>
      rw [hw] at this
      obtain ⟨v, k1, k2, k3⟩ := this
      exact ⟨v, (has_del_other (key_ne e)).trans k1, fun z => (atKey_del_other (key_ne e) z).trans (k2 z), k3⟩
/-- a piece is kept -/
theorem Has.put {w : World} {h : Hd} {S : Ik} (H : Has w h S) {x : Int} (h0 : 0 ≤ x) (h1 : x ≤ 65535) {v : Value} {p : Dt} (hd : Dat w v p) (hn : S.n ≤ 1000000) :
    ∃ w', (Instr.mapUpdate 96 (.map (some h.mb)) (.int .u16 x) v).run Try.prog w = .ok () w' ∧ Has w' h { S with wait := fun y => if y = x then some p else S.wait y, n := S.n + 1 } ∧ Only h w w' ∧ w'.heap.size = w.heap.size := by
  obtain ⟨D, hm, hM⟩ := H.map
  obtain ⟨w', hr, hm', ht⟩ := hm.store law Try.underlying96 (by unfold maxLen; omega) (keyOf_int_mk Try.underlying22 (wf16 h0 h1)) (val := v) (d := .held v) (ps := []) rfl
  refine ⟨w', hr, map_has H ht hm' ?_, only_map ht, (turn_else ht).2⟩
  intro y y0 y1
  have := hM y y0 y1
  by_cases e : y = x
  · subst e
    simp only [if_true]
    exact ⟨v, has_put_same hm.isMap (key_lit y) _, fun z => atKey_put_same hm.isMap (key_lit y) _ z, hd⟩
  · simp only [if_neg e]
    cases hw : S.wait y with
    | none => rw [hw] at this; exact (has_put_other (key_ne e) _).trans this
    | some p =>
      rw [hw] at this
      obtain ⟨v, k1, k2, k3⟩ := this
      exact ⟨v, (has_put_other (key_ne e) _).trans k1, fun z => (atKey_put_other (key_ne e) _ z).trans (k2 z), k3⟩
/-- next is written -/
theorem Has.setNx {w : World} {h : Hd} {S : Ik} (H : Has w h S) {x : Int} (h0 : 0 ≤ x) (h1 : x ≤ 65535) : Has (w.setCell ⟨h.g, 1, none⟩ (.int .u16 x)) h { S with nx := x } ∧ Only h w (w.setCell ⟨h.g, 1, none⟩ (.int .u16 x)) := by
  obtain ⟨a1, a2, a3⟩ := H.apart
  obtain ⟨D, ⟨es, clock, hb, hr⟩, hM⟩ := H.map
  obtain ⟨buf, s, r, hc, hq⟩ := H.chan
  have st : ∀ k, k ≠ h.g → (w.setCell ⟨h.g, 1, none⟩ (.int .u16 x)).heap[k]? = w.heap[k]? := fun k hk => Below.heap_setCell _ _ _ _ hk
  have st' : ∀ k (cur : Array Value), w.heap[k]? = some (Obj.cells cur 5) → (w.setCell ⟨h.g, 1, none⟩ (.int .u16 x)).heap[k]? = w.heap[k]? := fun k cur hk => st k fun e => by rw [e, H.box] at hk; cases hk
  refine ⟨{ win := H.win, nx := ⟨h0, h1⟩, box := ?_, map := ⟨D, ⟨es, clock, by rw [st _ a1.symm]; exact hb, hr⟩, hM.stay fun g cur hg _ => st' g cur hg⟩, chan := ⟨buf, s, r, by rw [st _ a2.symm]; exact hc, hq.stay fun g cur hg _ => st' g cur hg⟩ }, ?_⟩
  · rw [heap_set H.box]; rfl
  · exact ⟨rfl, rfl, rfl, by simp [World.setCell], fun k _ h1 _ _ => st k h1⟩

/-- what waits told alike is the same object -/
theorem Has.congr {w : World} {h : Hd} {S S' : Ik} (H : Has w h S) (e1 : S'.win = S.win) (e2 : S'.nx = S.nx) (e3 : S'.q = S.q) (e4 : S'.n = S.n) (e5 : ∀ x, 0 ≤ x → x ≤ 65535 → S'.wait x = S.wait x) : Has w h S' := by
  obtain ⟨wn, nx, wt, q, n⟩ := S
  obtain ⟨wn', nx', wt', q', n'⟩ := S'
  simp only at e1 e2 e3 e4 e5
  subst e1 e2 e3 e4
  refine { win := H.win, nx := H.nx, box := H.box, map := ?_, chan := H.chan }
  obtain ⟨D, hm, hM⟩ := H.map
  refine ⟨D, hm, fun x h0 h1 => ?_⟩
  have := hM x h0 h1
  simp only at this ⊢
  rw [e5 x h0 h1]
  exact this

/-- so many are taken over -/
def Ik.go (S : Ik) (j : Nat) : Ik :=
  { S with nx := (S.nx + j) % 65536, wait := fun x => if up S.nx x < j then none else S.wait x, q := S.q ++ (List.range j).map (fun i : Nat => (S.wait ((S.nx + (i : Int)) % 65536)).getD (0, [])) }
/-- the queue has room for all that can come -/
def Ik.Room (S : Ik) : Prop := ∀ x, 0 ≤ x → x ≤ 65535 → S.wait x ≠ none → up S.nx x + S.q.length < 2 * S.win - 1
/-- so many are there from next on -/
def Ik.There (S : Ik) (j : Nat) : Prop := ∀ i, i < j → S.wait ((S.nx + i) % 65536) ≠ none

theorem up_at (nx : Int) (j : Nat) (hj : j < 65536) : up nx ((nx + j) % 65536) = j := by unfold up; omega
theorem Ik.There.le {S : Ik} {j : Nat} (h : S.There j) (hr : S.Room) (hw : S.win ≤ 64) : j ≤ 200 := by
  rcases Nat.lt_or_ge 200 j with h' | h'
  · have := hr ((S.nx + (200 : Nat)) % 65536) (by omega) (by omega) (h 200 h')
    rw [up_at _ _ (by omega)] at this
    omega
  · exact h'

theorem Has.go0 {w : World} {h : Hd} {S : Ik} (H : Has w h S) : Has w h (S.go 0) := by
  have := H.nx
  exact H.congr rfl (by show (S.nx + (0 : Nat)) % 65536 = S.nx; omega) (by simp [Ik.go]) rfl (fun x _ _ => by
    have := up_in S.nx x
    show (if up S.nx x < (0 : Nat) then none else S.wait x) = S.wait x
    rw [if_neg (by omega)])

set_option maxRecDepth 100000 in
set_option maxHeartbeats 1000000 in
theorem over_any {w0 : World} {h : Hd} {S : Ik} (H0 : Has w0 h S) (hroom : S.Room) :
    Calls Try.prog 42 #[.pointer (some ⟨h.g, 0, none⟩)] w0 fun e w' => e = .returned (.tuple #[]) ∧ ∃ j, S.There j ∧ S.wait ((S.nx + j) % 65536) = none ∧ Has w' h (S.go j) ∧ Only h w0 w' ∧ w'.heap.size = w0.heap.size := by
  refine calls_lone Try.func42 rfl (fun cs => ?_) (fun w' h => by cases h.1)
  simp only [Try.ntmps42, List.size_toArray, List.length_cons, List.length_nil, Nat.reduceAdd, Nat.reduceSub, Array.replicate_succ, Array.replicate_zero, List.push_toArray, List.append_toArray, List.nil_append, List.cons_append]
  refine LoneTo.step step_block ?_
  refine loneTo_loop (fun a w' => ∃ u2 u3 u4 u5 u6 u7 u8 u9 u10 u11 u12 u13 u14 u15 u16 u17 u18 u19 u20 u21 u22 u23 u24 u25 u26 u27 u28 u29 u30 u31 u32 u33 u34 u35 u36 u37 u38 u39 u40, a = { tmps := #[.pointer (some ⟨h.g, 0, none⟩), undef, u2, u3, u4, u5, u6, u7, u8, u9, u10, u11, u12, u13, u14, u15, u16, u17, u18, u19, u20, u21, u22, u23, u24, u25, u26, u27, u28, u29, u30, u31, u32, u33, u34, u35, u36, u37, u38, u39, u40], defers := [] } ∧ ∃ j, S.There j ∧ Has w' h (S.go j) ∧ Only h w0 w' ∧ w'.heap.size = w0.heap.size) (fun _ w' => match w'.heap[h.c]? with | some (.chan cap buf _ _ _ _) => cap - buf.size | _ => 0) ?_ ?_
  · exact ⟨_, _, _, _, _, _, _, _, _, _, _, _, _, _, _, _, _, _, _, _, _, _, _, _, _, _, _, _, _, _, _, _, _, _, _, _, _, _, _, rfl, 0, fun i hi => by omega, H0.go0, Only.refl _ _, rfl⟩
  rintro a w ⟨u2, u3, u4, u5, u6, u7, u8, u9, u10, u11, u12, u13, u14, u15, u16, u17, u18, u19, u20, u21, u22, u23, u24, u25, u26, u27, u28, u29, u30, u31, u32, u33, u34, u35, u36, u37, u38, u39, u40, rfl, j, hj, H, hO, hz⟩ next
  have hj2 := hj.le hroom H0.win.2
  obtain ⟨nx, hnx⟩ : ∃ nx, (S.nx + j) % 65536 = nx := ⟨_, rfl⟩
  have n0 : 0 ≤ nx := by omega
  have n1 : nx ≤ 65535 := by omega
  have hup : up S.nx nx = j := by rw [← hnx]; exact up_at _ _ (by omega)
  have ew : (S.go j).wait nx = S.wait nx := by
    show (if up S.nx nx < (j : Nat) then none else S.wait nx) = S.wait nx
    rw [if_neg (by omega)]
  have hnx' : (S.go j).nx = nx := hnx
  obtain ⟨v, hrun, hv⟩ := H.look n0 n1
  rw [ew] at hrun hv
  obtain ⟨h0, h1, h2, h3⟩ := H.cells
  have h1f := H.cold 1
  rw [hnx'] at h1
  obtain ⟨there, hth⟩ : ∃ t, (S.wait nx).isSome = t := ⟨_, rfl⟩
  rw [hth] at hrun
  have HN := next
  clear next H0
  refine LoneTo.step step_block ?_
  refine LoneTo.step step_seq ?_
  refine loneTo_wp ?_
  go_quiet (fail)
  simp only [After]
  have p1 : (w.drewN nq).cell? ⟨h.g, 1, none⟩ = some (.int .u16 nx) := h1
  have p2 : (w.drewN nq).cell? ⟨h.g, 2, none⟩ = some (.map (some h.mb)) := h2
  have p3 : (w.drewN nq).cell? ⟨h.g, 3, none⟩ = some (.chan (some h.c)) := h3
  have HH := hide (H.drewN nq)
  have HO : Hid (Only h w0 (w.drewN nq)) := hide ⟨hO.os, hO.tape, hO.output, hO.size, hO.block⟩
  have HZ : Hid ((w.drewN nq).heap.size = w0.heap.size) := hide hz
  have HV : Hid (∀ p, S.wait nx = some p → Dat (w.drewN nq) v p) := hide (fun p hp => (hv p hp).stay fun _ _ _ _ => rfl)
  have HM : Hid ((match (w.drewN nq).heap[h.c]? with | some (.chan cap buf _ _ _ _) => cap - buf.size | _ => 0) = match w.heap[h.c]? with | some (.chan cap buf _ _ _ _) => cap - buf.size | _ => 0) := hide rfl
  generalize (match w.heap[h.c]? with | some (.chan cap buf _ _ _ _) => cap - buf.size | _ => 0) = μ0 at *
  generalize w.drewN nq = W at *
  clear h0 h1 h2 h3 h1f hv hrun hO hz H
  refine LoneTo.step step_seq ?_
  refine loneTo_wp ?_
  cases there with
  | false =>
    go_wp2_with fail
    simp only [After]
    refine ret_lone Try.func42 rfl rfl ?_
    refine bodyPost_ret (results_none rfl _ _ _) rfl ?_
    refine ⟨rfl, j, hj, ?_, HH.out, HO.out, HZ.out⟩
    rw [hnx]
    cases hw : S.wait nx with
    | none => rfl
    | some p => rw [hw] at hth; cases hth
  | true =>
    obtain ⟨p, hp⟩ := Option.isSome_iff_exists.1 hth
    have hd := HV.out p hp
    obtain ⟨buf, s, r, pc, hqs⟩ := HH.out.chan
    have hlen := hqs.len
    have hcap : (buf.toArray).size < (2 * (S.go j).win - 1).toNat := by
      have h1 := hroom nx n0 n1 (by rw [hp]; simp)
      have h2 : (S.go j).q.length = S.q.length + j := by simp [Ik.go]
      have h3 : (S.go j).win = S.win := rfl
      rw [List.size_toArray, hlen, h2, h3]
      omega
    have K1 := chan_has HH.out (buf ++ [v]) ((S.go j).q ++ [p]) (s + 1) r (hqs.push hd)
    have O1 := only_chan (h := h) (w := W) (2 * (S.go j).win - 1).toNat (buf ++ [v]).toArray (s + 1) r
    have M1 := heap_setChan W h.c (2 * (S.go j).win - 1).toNat (buf ++ [v]).toArray false (s + 1) r false (heap_lt pc)
    have Z1 : (W.setChan h.c (2 * (S.go j).win - 1).toNat (buf ++ [v]).toArray false (s + 1) r false).heap.size = W.heap.size := by simp [World.setChan]
    have HM' := HM.out
    rw [pc] at HM'
    have HP : Hid ((2 * (S.go j).win - 1).toNat - (buf ++ [v]).toArray.size < μ0) := hide (by rw [← HM']; simp only [List.size_toArray, List.length_append, List.length_cons, List.length_nil] at hcap ⊢; omega)
    obtain ⟨W2, hdel, K2, O2, E2, Z2⟩ := (K1.drewN 1).del n0 n1 0
    obtain ⟨a1, a2, a3⟩ := K1.apart
    have O2' : Only h (W.setChan h.c (2 * (S.go j).win - 1).toNat (buf ++ [v]).toArray false (s + 1) r false) W2 := ⟨O2.os, O2.tape, O2.output, O2.size, O2.block⟩
    obtain ⟨q0, q1, q2, q3⟩ := K1.cells
    simp only [hnx'] at q1
    obtain ⟨r0, r1, r2, r3⟩ := K2.cells
    simp only [hnx'] at r1
    have r1f := K2.cold 1
    have hdel' : (Builtin.delete_ #[96, 22] 0 #[.map (some h.mb), .int .u16 nx]).run Try.prog (W.setChan h.c (2 * (S.go j).win - 1).toNat (buf ++ [v]).toArray false (s + 1) r false).drew = .ok (.tuple #[]) W2 := hdel
    generalize (2 * (S.go j).win - 1).toNat = cap at *
    have eb : buf.toArray.push v = (buf ++ [v]).toArray := by simp
    have KK2 := hide K2
    have OO := hide ((HO.out.trans O1).trans O2')
    have MM : Hid (∀ u, ((W2.setCell ⟨h.g, 1, none⟩ u).heap[h.c]? = some (.chan cap (buf ++ [v]).toArray false (s + 1) r false))) := hide (fun u => by
      rw [Below.heap_setCell _ _ _ _ (show h.c ≠ h.g from a2.symm), E2 _ a3.symm]; exact M1)
    have ZZ : Hid (W2.heap.size = w0.heap.size) := hide (by
      rw [Z2]; exact Z1.trans HZ.out)
    clear K1 O1 M1 Z1 HM' O2 O2' K2 r0 q0 hdel HM HH HV hd hqs hlen E2 Z2 a1 a2 a3 HZ HO
    go_wp2_with fail
    simp only [After]
    refine LoneTo.step step_seq ?_
    refine loneTo_wp ?_
    go_wp2_with fail
    simp only [After]
    refine LoneTo.step step_seq ?_
    refine loneTo_comm (by rfl) (by simp) (by simp [go_sem, execOp, Act.eval]; rfl) (fun fr es h => step_lone_select_send_room h pc hcap) ?_
    rw [eb]
    generalize W.setChan h.c cap (buf ++ [v]).toArray false (s + 1) r false = W1 at *
    simp only [goInt]
    go_wp2_with fail
    simp only [After]
    refine loneTo_wp ?_
    go_wp2_with fail
    go_region
    go_wp2_with fail
    simp only [After]
    refine LoneTo.step step_inBlock ?_
    refine HN _ _ ⟨_, _, _, _, _, _, _, _, _, _, _, _, _, _, _, _, _, _, _, _, _, _, _, _, _, _, _, _, _, _, _, _, _, _, _, _, _, _, _, rfl, j + 1, ?_, ?_, ?_, ?_⟩ ?_
    · intro i hi
      rcases Nat.lt_or_ge i j with h' | h'
      · exact hj i h'
      · have : i = j := by omega
        subst this
        rw [hnx, hp]; simp
    · have ex : IntKind.u16.wrap (nx + 1) = (nx + 1) % 65536 := by unfold IntKind.wrap; simp [IntKind.bits, IntKind.signed]
      rw [ex]
      refine (KK2.out.setNx (x := (nx + 1) % 65536) (by omega) (by omega)).1.congr rfl ?_ ?_ rfl ?_
      · show (S.nx + ((j + 1 : Nat) : Int)) % 65536 = (nx + 1) % 65536
        omega
      · show S.q ++ (List.range (j + 1)).map _ = (S.q ++ (List.range j).map _) ++ [p]
        rw [List.range_succ, List.map_append, List.append_assoc]
        simp only [List.map_cons, List.map_nil, hnx, hp, Option.getD_some]
      · intro x x0 x1
        show (if up S.nx x < ((j + 1 : Nat) : Int) then none else S.wait x) = if x = nx then none else (if up S.nx x < (j : Int) then none else S.wait x)
        by_cases e : x = nx
        · rw [if_pos e, e, if_pos (by omega)]
        · rw [if_neg e]
          have : up S.nx x ≠ j := fun e' => e (by unfold up at e' hup; omega)
          by_cases h' : up S.nx x < j
          · rw [if_pos h', if_pos (by omega)]
          · rw [if_neg h', if_neg (by omega)]
    · have ex : IntKind.u16.wrap (nx + 1) = (nx + 1) % 65536 := by unfold IntKind.wrap; simp [IntKind.bits, IntKind.signed]
      rw [ex]
      exact OO.out.trans (KK2.out.setNx (x := (nx + 1) % 65536) (by omega) (by omega)).2
    · have : (W2.setCell ⟨h.g, 1, none⟩ (.int .u16 (IntKind.u16.wrap (nx + 1)))).heap.size = W2.heap.size := by simp [World.setCell]
      exact this.trans ZZ.out
    · rw [MM.out]
      exact HP.out
end Go.Proofs.Yteihajppgooadaa
