/- ControlOrders: texts Rme Kja Bytes Tele Enc Kla TMath Btm Brc. -/
import Derived.BigQuiet
import Derived.BigRegion
import Derived.ChangeOld
import Derived.Deep.AppendLies
import Derived.Deep.AppendSrc
import Derived.Deep.CutRange
import Derived.Deep.DeepCutAuto
import Derived.Deep.QuietTactic
import Derived.Deep.RegionHeld3
import Derived.Deep.RegionWith
import Derived.Laws.BytesArg
import Derived.Laws.OwnMore
import Derived.OwnWalk
import Derived.ShutString
import Derived.SizedLaws
import Derived.Test.YtocmngpoemfpkaaGreatDoorControlOrdersAE
import Derived.Test.YtocmngpoemfpkaaGreatDoorControlOrdersAF
import Derived.Test.YtocmngpoemfpkaaGreatDoorControlOrdersAG
import Derived.Test.YtocmngpoemfpkaaGreatDoorControlOrdersAK
import Derived.Test.YtocmngpoemfpkaaGreatDoorControlOrdersAM
import Derived.Test.YtocmngpoemfpkaaGreatDoorControlOrdersAN
import Derived.Test.YtocmngpoemfpkaaGreatDoorControlOrdersAO
namespace Go.Proofs.YtocmngpoemfpkaaGreatDoor
open Go.RowKit
set_option linter.unusedVariables false
def V0 : Vm := ⟨none, 0, 0, none, 0, 0, none, 0, 0, none, 0, 0⟩
end Go.Proofs.YtocmngpoemfpkaaGreatDoor

namespace Go.Proofs.YtocmngpoemfpkaaGreatDoor
open Go.RowKit
set_option linter.unusedVariables false
def updJ (vJ : Nat → Value) (t : Nat) (v : Value) : Nat → Value := fun i => if i = t then v else vJ i
theorem ccells_set (P : Kp) (n m : Nat) (pause : Int) (dead : Bool) (t : Nat) (v : Value) (ht : t < 31) : (ccells P n m pause dead).setIfInBounds (6 + t) v = ccells { P with vJ := updJ P.vJ t v } n m pause dead := by
  rcases t with _ | t
  · rfl
  rcases t with _ | t
  · rfl
  rcases t with _ | t
  · rfl
  rcases t with _ | t
  · rfl
  rcases t with _ | t
  · rfl
  rcases t with _ | t
  · rfl
  rcases t with _ | t
  · rfl
  rcases t with _ | t
  · rfl
  rcases t with _ | t
  · rfl
  rcases t with _ | t
  · rfl
  rcases t with _ | t
  · rfl
  rcases t with _ | t
  · rfl
  rcases t with _ | t
  · rfl
  rcases t with _ | t
  · rfl
  rcases t with _ | t
  · rfl
  rcases t with _ | t
  · rfl
  rcases t with _ | t
  · rfl
  rcases t with _ | t
  · rfl
  rcases t with _ | t
  · rfl
  rcases t with _ | t
  · rfl
  rcases t with _ | t
  · rfl
  rcases t with _ | t
  · rfl
  rcases t with _ | t
  · rfl
  rcases t with _ | t
  · rfl
  rcases t with _ | t
  · rfl
  rcases t with _ | t
  · rfl
  rcases t with _ | t
  · rfl
  rcases t with _ | t
  · rfl
  rcases t with _ | t
  · rfl
  rcases t with _ | t
  · rfl
  rcases t with _ | t
  · rfl
  · omega
section
set_option maxRecDepth 100000
set_option maxHeartbeats 4000000
variable {w0 w : World} {l : List It} {B g n m : Nat} {E : Ev} {P : Kp} {c : Ct}
theorem Its.kjobX {x : It} (h : Its w0 (x :: .ctl w0.heap.size g E n m P c :: l) w) (t : Nat) (ht : 1 ≤ t ∧ t ≤ 30) {v : Value} {xs : List Int} (hj : JRd w v xs) (hb : ∀ k, v.ownBlock = some k → x.f k ∨ (P.vJ t).ownBlock = some k) (hd : ∀ d ∈ xs, 1 ≤ d ∧ d ≤ (m : Int)) :
    Its w0 (.ctl w0.heap.size g E n m { P with vJ := updJ P.vJ t v } (c.setJ t xs) :: l) (w.setCell ⟨g, 6 + t, none⟩ v) := by
  have hf := kt_f h.two
  have h1 := h.swap.kopen.1
  have h2 := (h1.pick 8 (x := x) (by simp [kparts]))
  have h3 : Its w0 (.jobs P.vJ c.J :: x :: .box g (ccells P n m E.pause c.dead) 121 :: .row ndE w0.heap.size (.slice P.la n P.lc) E.ns :: .row edE w0.heap.size (.slice P.lb m P.le) E.es :: .ints w0.heap.size (.slice (some ⟨P.kg, 0, none⟩) (m + 1) (m + 1)) c.tk :: .tape w0.heap.size P.gt P.Ht c.T :: .mir w0.heap.size P.gm P.Hm n m E.es P.S :: .book w0.heap.size P.gb P.Hk P.K :: l) w := h2.pick 5 rfl
  have h4 := Its.shut (a := [.jobs P.vJ c.J, x]) h3
  have h5 := h4.as (x' := .jobs (updJ P.vJ t v) (c.setJ t xs).J) (by
    intro i hi
    show JRd w (updJ P.vJ t v i) (if (i : Int) = (t : Int) then xs else c.J i)
    unfold updJ
    by_cases e : i = t
    · rw [if_pos e, if_pos (by omega)]; exact hj
    · rw [if_neg e, if_neg (by omega)]; exact h3.one i hi) (by
    rintro k ⟨i, hi, hk⟩
    unfold updJ at hk
    by_cases e : i = t
    · rw [if_pos e] at hk
      rcases hb k hk with q | q
      · exact ⟨x, by simp, q⟩
      · exact ⟨.jobs P.vJ c.J, by simp, t, by omega, q⟩
    · rw [if_neg e] at hk
      exact ⟨.jobs P.vJ c.J, by simp, i, hi, hk⟩)
  have h6 := (h5.pick 1 rfl).put1 (6 + t) v
  rw [ccells_set P n m _ _ t v (by omega)] at h6
  have h7 := h6.pick 5 rfl
  have h8 := h7.pick 5 rfl
  refine Its.kshut (P := { P with vJ := updJ P.vJ t v }) (c := c.setJ t xs) (h6.perm ?_) ⟨hf.gd, hf.hn, hf.hm, hf.hs, hf.gq, hf.pa, hf.tk, fun i hi => ?_, fun i d hd' => ?_⟩
  · show List.Perm (_ :: _ :: _ :: _ :: _ :: _ :: _ :: _ :: l) (_ :: _ :: _ :: _ :: _ :: _ :: _ :: _ :: l)
    exact List.Perm.cons _ (List.perm_middle (l₁ := [_, _, _]) (a := It.jobs (updJ P.vJ t v) (c.setJ t xs).J)).symm
  · show (if i = (t : Int) then xs else c.J i) = []
    rw [if_neg (by omega)]; exact hf.jo i hi
  · have hd2 : d ∈ (if i = (t : Int) then xs else c.J i) := hd'
    split at hd2
    · exact hd d hd2
    · exact hf.jd i d hd2
def It.no : It where
  P _ := True
  f _ := False
  lt _ _ h := h.elim
  st _ _ := trivial
theorem Its.kjob (h : Its w0 (.ctl w0.heap.size g E n m P c :: l) w) (t : Nat) (ht : 1 ≤ t ∧ t ≤ 30) {v : Value} {xs : List Int} (hj : JRd w v xs) (hb : ∀ k, v.ownBlock = some k → (P.vJ t).ownBlock = some k) (hd : ∀ d ∈ xs, 1 ≤ d ∧ d ≤ (m : Int)) :
    Its w0 (.ctl w0.heap.size g E n m { P with vJ := updJ P.vJ t v } (c.setJ t xs) :: l) (w.setCell ⟨g, 6 + t, none⟩ v) :=
  (h.new (x := .no) trivial (fun _ q => q.elim) (Below.refl _ _)).kjobX t ht hj (fun k hk => .inr (hb k hk)) hd
theorem Its.kjobN {v : Value} {xs : List Int} (h : Its w0 (.ints w0.heap.size v xs :: .ctl w0.heap.size g E n m P c :: l) w) (t : Nat) (ht : 1 ≤ t ∧ t ≤ 30) (hd : ∀ d ∈ xs, 1 ≤ d ∧ d ≤ (m : Int)) :
    Its w0 (.ctl w0.heap.size g E n m { P with vJ := updJ P.vJ t v } (c.setJ t xs) :: l) (w.setCell ⟨g, 6 + t, none⟩ v) :=
  h.kjobX t ht (JRd.of_own h.one) (fun k hk => .inl hk) hd
theorem Gd.setJ {k : Nat} (h : Gd c k) (t : Int) {xs : List Int} (hx : xs.length ≤ 1000) : Gd (c.setJ t xs) k := ⟨fun i => by
  show (if i = t then xs else c.J i).length ≤ 1000
  split
  · exact hx
  · exact h.jl i, h.nt⟩
theorem contains_k (a : Option Addr) (cc N : Nat) (ms : List Int) (d : Int) (w : World) (hn : ms.length = N) (hv : intE.Rd w (.slice a N cc) ms) (hl : N ≤ 100000) :
    Calls Tryz.prog 165 #[.slice a N cc, .int .i64 d] w fun e w' => e = .returned (.bool (decide (d ∈ ms))) ∧ w' = w := by
  have K := hide (idx_any a cc N ms d w hn hv hl)
  have hd : decide (0 ≤ loc ms d) = decide (d ∈ ms) := by
    by_cases q : d ∈ ms
    · rw [(loc_in q).1, decide_eq_true q, decide_eq_true (by omega)]
    · rw [loc_no q, decide_eq_false q, decide_eq_false (by omega)]
  generalize loc ms d = res at *
  generalize decide (d ∈ ms) = yes at *
  clear hv hn
  go_enter Tryz.func165, Tryz.ntmps165
  go_wp2_with (go_at_call 138; refine K.out.mono ?_; rintro e w2 ⟨rfl, rfl⟩)
  go_ret
  exact ⟨rfl, rfl⟩
theorem isDown_any (h : (It.ctl B g E n m P c).P w) (d : Int) : Calls Tryz.prog 149 #[.pointer (some ⟨g, 0, none⟩), .int .i64 d] w fun e w' => e = .returned (.bool (decide (d ∈ P.S.down))) ∧ Below w.heap.size w w' := by
  obtain ⟨c0, c1, c2, c3, c4, c5, c37, c38⟩ := kt_c h
  have hl := mr_len (kt_m h)
  have hdl := down_len P.S
  have K1 := hide (downP (kt_m h))
  have K2 : Hid (∀ W a N cc, P.S.down.length = N → intE.Own W w.heap.size (.slice a N cc) P.S.down → Calls Tryz.prog 165 #[.slice a N cc, .int .i64 d] W fun e w' => e = .returned (.bool (decide (d ∈ P.S.down))) ∧ w' = W) := hide (fun W a N cc hN ho => contains_k a cc N _ d W hN ho.rd (by omega))
  clear h hl hdl
  generalize decide (d ∈ P.S.down) = yes at *
  go_enter Tryz.func149, Tryz.ntmps149
  go_wp2_with (first
    | (go_at_call 136; refine K1.out.mono ?_; rintro e w1 ⟨a1, N1, p1, rfl, q1, q2, q3⟩; have Q1 := hide q1; have Q2 := hide q2; have Q3 := hide q3; clear q1 q2 q3)
    | (go_at_call 165; refine (K2.out _ _ _ _ Q1.out Q2.out).mono ?_; rintro e w2 ⟨rfl, rfl⟩))
  go_ret
  exact ⟨rfl, Q3.out⟩
end
end Go.Proofs.YtocmngpoemfpkaaGreatDoor

namespace Go.Proofs.YtocmngpoemfpkaaGreatDoor
open Go.ChangeShapes Go.WideShapes Go.ChangeAt Go.RowKit
def Bs (w : World) (v : Value) (l : List Int) : Prop :=
  (v = .slice none 0 0 ∧ l = []) ∨ ∃ x cap, v = .slice (some x) l.length cap ∧ ∀ i, i < l.length → w.cell? (x.add i) = some (.int .u8 (l[i]?.getD 0))
def Ow (w : World) (B : Nat) (v : Value) (l : List Int) : Prop := w.ownsRow B 5 1 v l.length (l.map (Value.int .u8))
theorem add_plain (b off j : Nat) : (⟨b, off, none⟩ : Addr).add j = ⟨b, off + j, none⟩ := by unfold Addr.add; split <;> simp_all
theorem Bs.own {w : World} {B : Nat} {v : Value} {l : List Int} (h : Ow w B v l) : Bs w v l := by
  obtain ⟨_, h⟩ := h
  rcases h with ⟨hv, h0⟩ | ⟨g, cap, cur, hv, hb, hg, hn, hm, hs, ht⟩
  · left
    exact ⟨hv, List.eq_nil_of_length_eq_zero h0⟩
  · right
    refine ⟨⟨g, 0, none⟩, cap, hv, fun i hi => ?_⟩
    have e : cur[i]? = some (.int .u8 (l[i]?.getD 0)) := by
      have := congrArg (fun (m : List Value) => m[i]?) ht
      simp only [Nat.mul_one] at this
      rw [List.getElem?_take_of_lt hi] at this
      rw [← Array.getElem?_toList, this]
      simp [hi]
    rw [add_plain, Nat.zero_add]
    unfold World.cell?
    simp only [hg]
    exact e
theorem sum_bs {w : World} {v : Value} {l : List Int} (h : Bs w v l) (hr : InB l) (hm : l.length ≤ 140737488355328) :
    Calls Tryz.prog 146 #[v] w fun e w' => e = .returned (.int .u16 (uv (sm 0xFFFF#16 l))) ∧ w' = w := by
  rcases h with ⟨rfl, rfl⟩ | ⟨x, cap, rfl, hc⟩
  · exact sum_nil _ _ _
  · cases l with
    | nil => exact sum_nil _ _ _
    | cons z t =>
      obtain ⟨b, off, spot⟩ := x
      have hspot : spot = none := by simpa [Addr.add] using World.cell?_spot (hc 0 (by simp))
      subst hspot
      exact sum_at b off cap _ (z :: t) w rfl (fun i hi => by rw [← add_plain]; exact hc i hi) hr hm
theorem rsum_bs {w : World} {v : Value} {l : List Int} (h : Bs w v l) (hr : InB l) (hm : l.length ≤ 140737488355328) :
    Calls Tryz.prog 92 #[v] w fun e w' => e = .returned (.int .u16 (uv (sm 0xFFFF#16 l))) ∧ w' = w := by
  rcases h with ⟨rfl, rfl⟩ | ⟨x, cap, rfl, hc⟩
  · exact rsum_nil _ _ _
  · cases l with
    | nil => exact rsum_nil _ _ _
    | cons z t =>
      obtain ⟨b, off, spot⟩ := x
      have hspot : spot = none := by simpa [Addr.add] using World.cell?_spot (hc 0 (by simp))
      subst hspot
      exact rsum_at b off cap _ (z :: t) w rfl (fun i hi => by rw [← add_plain]; exact hc i hi) hr hm
theorem info5 : (Tryz.prog.info? 5).map (fun i => (i.zero, i.size, i.bytes)) = some (some (.int .u8 0), 1, 1) := by kernel_rfl
theorem run_app {w : World} {B : Nat} {v : Value} {xs : List Int} (hown : Ow w B v xs) (hB : B ≤ w.heap.size) {u : Value} {l : List Int} (hu : Bs w u l) (hn : xs.length + l.length ≤ 1000000) (ty : TypeId) :
    ∃ v' w', (Builtin.append_ #[58, 58] ty #[v, u]).run Tryz.prog w = .ok v' w' ∧ Ow w' B v' (xs ++ l) ∧ w.grownBy w' v.ownBlock := by
  obtain ⟨i, hi, he⟩ := Option.map_eq_some_iff.1 info5
  have e1 : i.zero = some (.int .u8 0) := congrArg Prod.fst he
  have e2 : i.size = 1 := congrArg (fun p => p.2.1) he
  have e3 : i.bytes = 1 := congrArg (fun p => p.2.2) he
  rcases hu with ⟨rfl, rfl⟩ | ⟨x, cap, rfl, hc⟩
  · refine ⟨v, w, run_append_owned_none (P := Tryz.prog) (w := w) B 58 ty 5 i 1 Tryz.underlying58 hi v _ _ hown, ?_, ⟨rfl, rfl, rfl, Nat.le_refl _, fun _ _ _ => rfl⟩⟩
    rw [List.append_nil]; exact hown
  · obtain ⟨v', w', hr, h2, h3, _, _⟩ := run_append_own_at (P := Tryz.prog) w B 58 ty 5 i (.int .u8 0) 1 1 Tryz.underlying58 hi e1 e2 e3 rfl (by omega) v xs.length (xs.map (Value.int .u8)) hown
      x l.length cap (l.map (Value.int .u8)) (by simp) (fun j y hy => by
        have hj : j < l.length := by
          rcases Nat.lt_or_ge j l.length with h | h
          · exact h
          · simp [List.getElem?_eq_none h] at hy
        rw [hc j hj]; simpa [hj] using hy)
      (fun y hy => by obtain ⟨z, _, rfl⟩ := List.mem_map.1 hy; rfl) (by unfold maxLen; omega) (by omega) hB
    refine ⟨v', w', hr, ?_, h3⟩
    unfold Ow
    rw [List.length_append, List.map_append]
    exact h2
theorem own_row {w : World} {B : Nat} {v : Value} {l : List Int} (h : Ow w B v l) : ∀ k, v.ownBlock = some k → B ≤ k := by
  intro k hk
  rcases h.2 with ⟨rfl, _⟩ | ⟨g, cap, cur, rfl, hb, _⟩
  · cases hk
  · simp [Value.ownBlock] at hk; omega
theorem wpList_app {w0 w : World} (hb : Below w0.heap.size w0 w) {ops : Array Oper} {rest : List Oper} {o : Oper} {a : Act} {Q : Exit → Act → World → Prop} (hwant : Region.wanted o (yielded ops a.tmps) = true) (s x : Operand)
    (ho : o.op = .call { callee := .builtin .append, args := #[s, x], argTypes := #[58, 58] }) (v u : Value) (hs : a.eval s = v) (hx : a.eval x = u)
    (xs l : List Int) (hown : Ow w w0.heap.size v xs) (hu : Bs w u l) (hn : xs.length + l.length ≤ 1000000)
    (h : ∀ v' w', Ow w' w0.heap.size v' (xs ++ l) → Below w0.heap.size w0 w' → wpList Tryz.prog ops Q rest (a.put o.dst v') w') : wpList Tryz.prog ops Q (o :: rest) a w := by
  obtain ⟨v', w', hr, h2, h3⟩ := run_app hown hb.size hu hn o.type
  refine wpList_step fun K hK => ?_
  rw [if_pos hwant]
  unfold Oper.wp execOp
  simp only [ho, resolve, invoke, builtin, Sem.run_bind, Sem.run_pure, Result.andThen_ok, List.map_toArray, List.map_cons, List.map_nil, hs, hx, hr]
  exact hK _ _ (h v' w' h2 (hb.grown h3 hb.size (own_row hown)))
end Go.Proofs.YtocmngpoemfpkaaGreatDoor

namespace Go.Proofs.YtocmngpoemfpkaaGreatDoor
open Go.ChangeShapes Go.WideShapes Go.ChangeAt Go.RowKit
structure Tl where
  k : Int
  d : Int
  s : Int
  a : Int
  b : Int
deriving DecidableEq
def Tl.In (t : Tl) : Prop := (0 ≤ t.k ∧ t.k ≤ 255) ∧ (0 ≤ t.d ∧ t.d ≤ 65535) ∧ (0 ≤ t.s ∧ t.s ≤ 65535) ∧ (0 ≤ t.a ∧ t.a ≤ 65535) ∧ (0 ≤ t.b ∧ t.b ≤ 65535)
def tc (t : Tl) : Array Value := #[.int .u8 t.k, .int .u16 t.d, .int .u16 t.s, .int .u16 t.a, .int .u16 t.b]
def tv (t : Tl) : Value := .agg #[.int .u8 t.k, .int .u16 t.d, .int .u16 t.s, .int .u16 t.a, .int .u16 t.b]
def wi (v lo hi : Int) : Bool := decide (lo ≤ v ∧ v ≤ hi)
def fit (k s a b : Int) : Bool :=
  if k = 1 ∨ k = 2 then wi a 1 30 && decide (b = 0)
  else if k = 3 then wi a 1 30 && wi b 1 3
  else if k = 4 ∨ k = 5 then decide (s = 0) && decide (a = 0) && decide (b = 0)
  else if k = 6 then decide (a = 0) && decide (b = 0)
  else wi b 0 30
def chk (t : Tl) : Int := if wi t.k 1 7 then (if wi t.d 1 200 && fit t.k t.s t.a t.b then 0 else 24) else 23
theorem ret_int {k : IntKind} {a b : Int} (h : a = b) : Ending.returned (.int k a) = .returned (.int k b) := by rw [h]
theorem beq_dec (x y : Int) : (x == y) = decide (x = y) := by
  by_cases h : x = y <;> simp [h]
theorem within_any (v lo hi : Int) (w : World) :
    Calls Tryz.prog 194 #[.int .u16 v, .int .u16 lo, .int .u16 hi] w fun e w' => e = .returned (.bool (wi v lo hi)) ∧ w' = w := by
  by_cases h1 : lo ≤ v
  · by_cases h2 : v ≤ hi
    · have : wi v lo hi = true := by simp [wi, h1, h2]
      rw [this]
      clear this
      go_enter Tryz.func194, Tryz.ntmps194
      go_wp2
      go_ret
      exact ⟨rfl, rfl⟩
    · have : wi v lo hi = false := by simp [wi, h1, h2]
      rw [this]
      clear this
      go_enter Tryz.func194, Tryz.ntmps194
      go_wp2
      go_ret
      exact ⟨rfl, rfl⟩
  · have : wi v lo hi = false := by simp [wi, h1]
    rw [this]
    clear this
    go_enter Tryz.func194, Tryz.ntmps194
    go_wp2
    go_ret
    exact ⟨rfl, rfl⟩
theorem fit_any (k d s a b : Int) (w : World) (h : 1 ≤ k ∧ k ≤ 7) :
    Calls Tryz.prog 195 #[.agg #[.int .u8 k, .int .u16 d, .int .u16 s, .int .u16 a, .int .u16 b]] w fun e w' => e = .returned (.bool (fit k s a b)) ∧ w' = w.alloc (.cells #[.int .u8 k, .int .u16 d, .int .u16 s, .int .u16 a, .int .u16 b] 92) := by
  have hk : k = 1 ∨ k = 2 ∨ k = 3 ∨ k = 4 ∨ k = 5 ∨ k = 6 ∨ k = 7 := by omega
  clear h
  rcases hk with rfl | rfl | rfl | rfl | rfl | rfl | rfl
  all_goals
    go_enter Tryz.func195, Tryz.ntmps195
    go_wp2_with (go_at_call 194; refine (within_any _ _ _ _).mono ?_; rintro e w' ⟨rfl, rfl⟩)
    all_goals go_ret
    all_goals refine ⟨?_, ?_⟩
    all_goals first | rfl | (simp [fit, beq_dec, *])
theorem tl_check_any (k d s a b : Int) (w : World) :
    Calls Tryz.prog 148 #[.agg #[.int .u8 k, .int .u16 d, .int .u16 s, .int .u16 a, .int .u16 b]] w fun e w' => e = .returned (.int .i64 (chk ⟨k, d, s, a, b⟩)) ∧ Below w.heap.size w w' := by
  by_cases h1 : 1 ≤ k
  · by_cases h7 : k ≤ 7
    · have hw : wi k 1 7 = true := by simp [wi, h1, h7]
      cases hd : wi d 1 200
      · have hc : Hid (chk ⟨k, d, s, a, b⟩ = 24) := by simp [Hid, chk, hw, hd]
        clear hw
        go_enter Tryz.func148, Tryz.ntmps148
        go_wp2_with (go_at_call 194; refine (within_any _ _ _ _).mono ?_; rw [hd]; rintro e w' ⟨rfl, rfl⟩)
        go_ret
        exact ⟨ret_int hc.out.symm, (Below.refl _ _).alloc (Nat.le_refl _) _⟩
      · cases hf : fit k s a b
        · have hc : Hid (chk ⟨k, d, s, a, b⟩ = 24) := by simp [Hid, chk, hw, hd, hf]
          clear hw
          go_enter Tryz.func148, Tryz.ntmps148
          go_wp2_with (first | (go_at_call 194; refine (within_any _ _ _ _).mono ?_; rw [hd]; rintro e w' ⟨rfl, rfl⟩) | (go_at_call 195; refine (fit_any _ _ _ _ _ _ ⟨h1, h7⟩).mono ?_; rw [hf]; rintro e w' ⟨rfl, rfl⟩))
          go_ret
          exact ⟨ret_int hc.out.symm, ((Below.refl _ _).alloc (Nat.le_refl _) _).alloc (by simp) _⟩
        · have hc : Hid (chk ⟨k, d, s, a, b⟩ = 0) := by simp [Hid, chk, hw, hd, hf]
          clear hw
          go_enter Tryz.func148, Tryz.ntmps148
          go_wp2_with (first | (go_at_call 194; refine (within_any _ _ _ _).mono ?_; rw [hd]; rintro e w' ⟨rfl, rfl⟩) | (go_at_call 195; refine (fit_any _ _ _ _ _ _ ⟨h1, h7⟩).mono ?_; rw [hf]; rintro e w' ⟨rfl, rfl⟩))
          go_ret
          exact ⟨ret_int hc.out.symm, ((Below.refl _ _).alloc (Nat.le_refl _) _).alloc (by simp) _⟩
    · have hc : Hid (chk ⟨k, d, s, a, b⟩ = 23) := by simp [Hid, chk, wi, h7]
      go_enter Tryz.func148, Tryz.ntmps148
      go_wp2_with fail
      go_ret
      exact ⟨ret_int hc.out.symm, (Below.refl _ _).alloc (Nat.le_refl _) _⟩
  · have hc : Hid (chk ⟨k, d, s, a, b⟩ = 23) := by simp [Hid, chk, wi, h1]
    go_enter Tryz.func148, Tryz.ntmps148
    go_wp2_with fail
    go_ret
    exact ⟨ret_int hc.out.symm, (Below.refl _ _).alloc (Nat.le_refl _) _⟩
end Go.Proofs.YtocmngpoemfpkaaGreatDoor

namespace Go.Proofs.YtocmngpoemfpkaaGreatDoor
open Go.ChangeShapes Go.WideShapes Go.ChangeAt Go.RowKit
def pre (t : Tl) (n : Nat) : List Int := 165 :: t.k :: ([t.d, t.s, t.a, t.b].take n).flatMap w2
def body (t : Tl) : List Int := pre t 4
def enc (t : Tl) : List Int := body t ++ w2 (uv (sm 0xFFFF#16 (body t)))
theorem pre_in (t : Tl) (h : t.In) (n : Nat) : InB (pre t n) := by
  obtain ⟨h0, h1, h2, h3, h4⟩ := h
  intro z hz
  unfold pre at hz
  rcases List.mem_cons.1 hz with rfl | hz
  · omega
  rcases List.mem_cons.1 hz with rfl | hz
  · omega
  obtain ⟨x, hx, hz⟩ := List.mem_flatMap.1 hz
  have hx' := List.mem_of_mem_take hx
  have : 0 ≤ x ∧ x ≤ 65535 := by
    simp at hx'
    rcases hx' with rfl | rfl | rfl | rfl <;> assumption
  unfold w2 at hz
  simp at hz
  rcases hz with rfl | rfl <;> omega
theorem tl_pre_len (t : Tl) (n : Nat) : (pre t n).length ≤ 10 := by
  unfold pre
  match n with
  | 0 => simp
  | 1 => simp [w2]
  | 2 => simp [w2]
  | 3 => simp [w2]
  | n + 4 => simp [w2]
theorem tl_body_len (t : Tl) : (body t).length = 10 := rfl
theorem cell_new (w : World) (C : Array Value) (t : TypeId) (fr : Nat × Nat) (o : Nat) : (w.alloc (.cells C t fr)).cell? ⟨w.heap.size, o, none⟩ = C[o]? := by
  have e : (w.alloc (.cells C t fr)).heap[w.heap.size]? = some (.cells C t fr) := by
    show (w.heap.push (.cells C t fr))[w.heap.size]? = _
    simp
  unfold World.cell?
  simp only [e]
  rfl
theorem Ow.mono {w : World} {B B' : Nat} {v : Value} {l : List Int} (h : Ow w B v l) (hB : B' ≤ B) : Ow w B' v l := by
  obtain ⟨h0, h⟩ := h
  refine ⟨h0, ?_⟩
  rcases h with h | ⟨g, cap, cur, h1, h2, h3⟩
  · exact .inl h
  · exact .inr ⟨g, cap, cur, h1, Nat.le_trans hB h2, h3⟩
theorem bs_two (w : World) (z y : Int) (n : Nat) (hn : n = w.heap.size) : Bs (w.alloc (.cells #[.int .u8 z, .int .u8 y] 5)) (.slice (some ⟨n, 0, none⟩) 2 2) [z, y] := by
  subst hn
  refine .inr ⟨⟨w.heap.size, 0, none⟩, 2, rfl, fun i hi => ?_⟩
  rw [add_plain, cell_new, Nat.zero_add]
  have : i = 0 ∨ i = 1 := by simp at hi; omega
  rcases this with rfl | rfl <;> rfl
set_option maxHeartbeats 1000000 in
theorem appw_any (v : Value) (l : List Int) (x : Int) (hx : 0 ≤ x ∧ x ≤ 65535) (w w0 : World) (hb : Below w0.heap.size w0 w) (hown : Ow w w0.heap.size v l) (hm : l.length ≤ 1000) :
    Calls Tryz.prog 208 #[v, .int .u16 x] w fun e w' => ∃ v', e = .returned v' ∧ Ow w' w0.heap.size v' (l ++ w2 x) ∧ Below w0.heap.size w0 w' := by
  have hm' := hide hm
  clear hm
  have hb0 : ∀ o, Below w0.heap.size w0 (w.alloc o) := fun o => hb.alloc hb.size o
  have hd : x / 256 ≤ 255 := by omega
  have hd0 : 0 ≤ x / 256 := by omega
  go_enter Tryz.func208, Tryz.ntmps208
  go_wp2_with (at_builtin; refine wpList_app (hb0 _) (by rfl) _ _ rfl _ _ rfl rfl l (w2 x) (World.ownsRow.alloc hown _) (bs_two _ _ _ _ rfl) (by simp [w2]; have := unhide hm'; omega) ?_; intro v1 w1 hown1 hb1; refine Hid.out ?_)
  refine hide ?_
  go_wp2_with fail
  go_ret
  exact ⟨_, rfl, hown1, hb1⟩
theorem tl_box_at {w w' : World} {C : Array Value} {t : TypeId} (hb : Below (w.alloc (.cells C t)).heap.size (w.alloc (.cells C t)) w') (i : Nat) : w'.cell? ⟨w.heap.size, i, none⟩ = C[i]? := by
  rw [hb.cell (by simp)]; exact cell_new _ _ _ _ _
theorem tl_pre_succ (t : Tl) (n : Nat) (x : Int) (hx : [t.d, t.s, t.a, t.b][n]? = some x) : pre t (n + 1) = pre t n ++ w2 x := by
  unfold pre
  rw [List.take_add_one, hx]
  simp
set_option maxHeartbeats 2000000 in
theorem tl_encode_yes (k d s a b : Int) (w : World) (hc : chk ⟨k, d, s, a, b⟩ = 0) (hin : Tl.In ⟨k, d, s, a, b⟩) :
    Calls Tryz.prog 164 #[.agg #[.int .u8 k, .int .u16 d, .int .u16 s, .int .u16 a, .int .u16 b]] w fun e w' => ∃ v, e = .returned (.tuple #[v, .int .i64 0]) ∧ Ow w' w.heap.size v (enc ⟨k, d, s, a, b⟩) ∧ Below w.heap.size w w' := by
  have Hz := hide hc
  clear hc
  have Hin := hide hin
  clear hin
  go_enter Tryz.func164, Tryz.ntmps164
  obtain ⟨i, hi, he⟩ := Option.map_eq_some_iff.1 info5
  have e1 : i.zero = some (.int .u8 0) := congrArg Prod.fst he
  have e2 : i.size = 1 := congrArg (fun p => p.2.1) he
  have e3 : i.bytes = 1 := congrArg (fun p => p.2.2) he
  have he1 := hide e1
  have he2 := hide e2
  have he3 := hide e3
  clear e1 e2 e3 he
  go_wp2_with (first | (go_at_call 148; refine (tl_check_any _ _ _ _ _ _).mono ?_; rintro e w1 ⟨rfl, hb1⟩; rw [Hz.out]) | (at_make; refine wpList_make_own _ rfl _ _ 58 rfl (w.alloc (.cells #[.int .u8 k, .int .u16 d, .int .u16 s, .int .u16 a, .int .u16 b] 92)).heap.size 5 i (.int .u8 0) 1 Tryz.underlying58 hi he1.out he2.out .i64 .i64 12 12 rfl rfl rfl (by rw [he3.out]; omega) (by unfold maxLen; omega) hb1.size ?_; intro w2 hown2 hg2; refine Hid.out ?_))
  refine hide ?_
  clear he1 he2 he3 hi
  have hb2 := hb1.grown hg2 hb1.size (fun k hk => by cases hk)
  have c0 : w2.cell? ⟨w.heap.size, 0, none⟩ = some (.int .u8 k) := tl_box_at hb2 0
  clear hg2
  go_wp2_with (at_builtin; refine wpList_app (hb2.alloc hb2.size _) (by rfl) _ _ rfl _ _ rfl rfl [] [165, k] (World.ownsRow.alloc hown2 _) (bs_two _ _ _ _ rfl) (by simp) ?_; intro v3 w3 hown3 hb3; refine Hid.out ?_)
  refine hide ?_
  have c1 : w3.cell? ⟨w.heap.size, 1, none⟩ = some (.int .u16 d) := tl_box_at hb3 1
  have c2 : w3.cell? ⟨w.heap.size, 2, none⟩ = some (.int .u16 s) := tl_box_at hb3 2
  have c3 : w3.cell? ⟨w.heap.size, 3, none⟩ = some (.int .u16 a) := tl_box_at hb3 3
  have c4 : w3.cell? ⟨w.heap.size, 4, none⟩ = some (.int .u16 b) := tl_box_at hb3 4
  clear c0 hown2 hb2 hb1
  go_wp2_with fail
  clear c1 c2 c3 c4
  have Hb0 := hide ((Below.refl w.heap.size w).alloc (Nat.le_refl _) (.cells #[.int .u8 k, .int .u16 d, .int .u16 s, .int .u16 a, .int .u16 b] 92))
  have Hs0 : Hid (w.heap.size ≤ (w.alloc (.cells #[.int .u8 k, .int .u16 d, .int .u16 s, .int .u16 a, .int .u16 b] 92)).heap.size) := hide (by simp)
  generalize w.alloc (.cells #[.int .u8 k, .int .u16 d, .int .u16 s, .int .u16 a, .int .u16 b] 92) = W0 at *
  go_loopw [5, 28] (fun v i wr => ∃ n : Nat, n ≤ 4 ∧ i = .int .i64 n ∧ Ow wr W0.heap.size v (pre ⟨k, d, s, a, b⟩ n) ∧ Below W0.heap.size W0 wr) (fun _ i _ => 4 - (intOf i).toNat)
  case atStart => exact ⟨0, by omega, rfl, hown3, hb3⟩
  case round =>
    obtain ⟨n, hn, rfl, hown, hb⟩ := hrel
    clear hown3 hb3
    by_cases hlt : n < 4
    · have h4 : n = 0 ∨ n = 1 ∨ n = 2 ∨ n = 3 := by omega
      rcases h4 with rfl | rfl | rfl | rfl
      · have q : ∀ w : World, (Instr.index 275 (.agg #[.int .u16 d, .int .u16 s, .int .u16 a, .int .u16 b]) (.int .i64 0)).run Tryz.prog w = .ok (.int .u16 d) w := fun _ => by kernel_rfl
        go_wp2_with (go_at_call 208; refine (appw_any _ _ _ Hin.out.2.1 _ _ hb hown (Nat.le_trans (tl_pre_len _ _) (by omega))).mono ?_; rintro e w' ⟨v', rfl, hown', hb'⟩)
        go_roundw
        case rel => exact ⟨1, by omega, by go_num, by rw [tl_pre_succ _ 0 d rfl]; exact hown', hb'⟩
        case measure => simp [intOf]
      · have q : ∀ w : World, (Instr.index 275 (.agg #[.int .u16 d, .int .u16 s, .int .u16 a, .int .u16 b]) (.int .i64 1)).run Tryz.prog w = .ok (.int .u16 s) w := fun _ => by kernel_rfl
        go_wp2_with (go_at_call 208; refine (appw_any _ _ _ Hin.out.2.2.1 _ _ hb hown (Nat.le_trans (tl_pre_len _ _) (by omega))).mono ?_; rintro e w' ⟨v', rfl, hown', hb'⟩)
        go_roundw
        case rel => exact ⟨2, by omega, by go_num, by rw [tl_pre_succ _ 1 s rfl]; exact hown', hb'⟩
        case measure => simp [intOf]
      · have q : ∀ w : World, (Instr.index 275 (.agg #[.int .u16 d, .int .u16 s, .int .u16 a, .int .u16 b]) (.int .i64 2)).run Tryz.prog w = .ok (.int .u16 a) w := fun _ => by kernel_rfl
        go_wp2_with (go_at_call 208; refine (appw_any _ _ _ Hin.out.2.2.2.1 _ _ hb hown (Nat.le_trans (tl_pre_len _ _) (by omega))).mono ?_; rintro e w' ⟨v', rfl, hown', hb'⟩)
        go_roundw
        case rel => exact ⟨3, by omega, by go_num, by rw [tl_pre_succ _ 2 a rfl]; exact hown', hb'⟩
        case measure => simp [intOf]
      · have q : ∀ w : World, (Instr.index 275 (.agg #[.int .u16 d, .int .u16 s, .int .u16 a, .int .u16 b]) (.int .i64 3)).run Tryz.prog w = .ok (.int .u16 b) w := fun _ => by kernel_rfl
        go_wp2_with (go_at_call 208; refine (appw_any _ _ _ Hin.out.2.2.2.2 _ _ hb hown (Nat.le_trans (tl_pre_len _ _) (by omega))).mono ?_; rintro e w' ⟨v', rfl, hown', hb'⟩)
        go_roundw
        case rel => exact ⟨4, by omega, by go_num, by rw [tl_pre_succ _ 3 b rfl]; exact hown', hb'⟩
        case measure => simp [intOf]
    · have : n = 4 := by omega
      subst this
      go_wp2_with (first | (go_at_call 146; refine (sum_bs (Bs.own hown) (pre_in _ Hin.out _) (Nat.le_trans (tl_pre_len _ _) (by omega))).mono ?_; rintro e w' ⟨rfl, rfl⟩) | (go_at_call 208; refine (appw_any _ _ _ ⟨uv_lo _, uv_hi _⟩ _ _ hb hown (Nat.le_trans (tl_pre_len _ _) (by omega))).mono ?_; rintro e w' ⟨v', rfl, hown', hb'⟩))
      go_ret2
      exact ⟨_, rfl, Ow.mono hown' Hs0.out, Hb0.out.trans (hb'.mono Hs0.out)⟩
end Go.Proofs.YtocmngpoemfpkaaGreatDoor

namespace Go.Proofs.YtocmngpoemfpkaaGreatDoor
open Go.RowKit
set_option linter.unusedVariables false
section
set_option maxRecDepth 100000
set_option maxHeartbeats 4000000
variable {w0 w : World} {l : List It} {B g n m : Nat} {E : Ev} {P : Kp} {c : Ct}
theorem note_J (x : Nt) : (c.note x).2.J = c.J := by
  unfold Ct.note
  split
  · rfl
  · split <;> rfl
end
end Go.Proofs.YtocmngpoemfpkaaGreatDoor

namespace Go.Proofs.YtocmngpoemfpkaaGreatDoor
open Go.ChangeShapes Go.WideShapes Go.ChangeAt Go.RowKit
theorem box5 {w w' : World} {k d s a b : Int} (hb : Below (w.alloc (.cells #[.int .u8 k, .int .u16 d, .int .u16 s, .int .u16 a, .int .u16 b] 92)).heap.size (w.alloc (.cells #[.int .u8 k, .int .u16 d, .int .u16 s, .int .u16 a, .int .u16 b] 92)) w') :
    w'.cell? ⟨w.heap.size, 0, none⟩ = some (.int .u8 k) ∧ w'.cell? ⟨w.heap.size, 1, none⟩ = some (.int .u16 d) ∧ w'.cell? ⟨w.heap.size, 2, none⟩ = some (.int .u16 s) ∧ w'.cell? ⟨w.heap.size, 3, none⟩ = some (.int .u16 a) ∧ w'.cell? ⟨w.heap.size, 4, none⟩ = some (.int .u16 b) :=
  ⟨tl_box_at hb 0, tl_box_at hb 1, tl_box_at hb 2, tl_box_at hb 3, tl_box_at hb 4⟩
end Go.Proofs.YtocmngpoemfpkaaGreatDoor

namespace Go.Proofs.YtocmngpoemfpkaaGreatDoor
set_option linter.unusedVariables false
def lo (st : Int) (t n : Nat) : List Rq := (List.range (n - t)).map (fun j : Nat => ⟨(t : Int) + 1 + (j : Int), st, (t : Int) + 1 + (j : Int)⟩)
def hiB (st : Int) (t : Nat) : List Rq := (List.range t).map (fun j : Nat => ⟨101 + (j : Int), st, 1 + (j : Int)⟩)
structure J1 (st : Int) (S : Bk) (t : Nat) : Prop where
  op : ops S.all = lo st 0 t
  dn : S.done = []
  ids : ∀ e ∈ S.all, 1 ≤ e.r.id ∧ e.r.id ≤ t
  sts : ∀ e ∈ S.all, e.r.st = st
  fn : ∀ i : Int, 1 ≤ i → i ≤ t → fnd S.all i = some ⟨⟨i, st, i⟩, 1⟩
  len : S.all.length = t
structure J2 (st : Int) (n : Nat) (S : Bk) (t : Nat) : Prop where
  op : ops S.all = lo st t n ++ hiB st t
  dn : S.done.length = (t + 1) / 2
  ids : ∀ e ∈ S.all, (1 ≤ e.r.id ∧ e.r.id ≤ n) ∨ (101 ≤ e.r.id ∧ e.r.id ≤ 100 + t)
  sts : ∀ e ∈ S.all, e.r.st = st
  fn : ∀ i : Int, t < i → i ≤ n → fnd S.all i = some ⟨⟨i, st, i⟩, 1⟩
  len : S.all.length = n + t
structure J3 (st : Int) (n : Nat) (S : Bk) (t : Nat) : Prop where
  op : ops S.all = lo st (t + 1) n ++ hiB st t
  dn : S.done.length = (t + 1 + 1) / 2
  ids : ∀ e ∈ S.all, (1 ≤ e.r.id ∧ e.r.id ≤ n) ∨ (101 ≤ e.r.id ∧ e.r.id ≤ 100 + t)
  sts : ∀ e ∈ S.all, e.r.st = st
  fn : ∀ i : Int, t + 1 < i → i ≤ n → fnd S.all i = some ⟨⟨i, st, i⟩, 1⟩
  len : S.all.length = n + t
end Go.Proofs.YtocmngpoemfpkaaGreatDoor

namespace Go.Proofs.YtocmngpoemfpkaaGreatDoor
open Go.RowKit
set_option linter.unusedVariables false
theorem Its.cells3 {w0 w : World} {b : Nat} {p q r : Value} {t : TypeId} {l : List It} (h : Its w0 (.box b #[p, q, r] t :: l) w) : w.cell? ⟨b, 0, none⟩ = some p ∧ w.cell? ⟨b, 1, none⟩ = some q ∧ w.cell? ⟨b, 2, none⟩ = some r := ⟨(cells_at h.one 0).1, (cells_at h.one 1).1, (cells_at h.one 2).1⟩
end Go.Proofs.YtocmngpoemfpkaaGreatDoor
