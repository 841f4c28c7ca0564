/- A shuttle as plain data, and what each call makes of it; this text knows no program. -/
import Derived.Test.YtjmmkkjabpcihaaCba
namespace Go.Proofs.Ytjmmkkjabpcihaa
set_option linter.unusedVariables false

structure Sh where
  n : Int
  pt : Int
  pl : Int
  st : Int
  was : Int
  tk : Int
  jt : Int
  jf : Int
  jo : Int
  dn : Int

/-- it gets on to a state -/
def Sh.on (S : Sh) (k : Int) : Sh := ⟨S.n, S.pt, S.pl, if k = 1 ∧ S.pl = S.jf then 2 else if k = 3 ∧ S.pl = S.jo then 4 else k, S.was, 0, S.jt, S.jf, S.jo, S.dn⟩
def Sh.has (S : Sh) (p : Int) : Bool := decide (0 ≤ p ∧ p < S.n)
def Sh.asC (S : Sh) (t f o : Int) : Int := if t < 1 ∨ 30 < t ∨ S.has f = false ∨ S.has o = false then 1 else if S.st ≠ 0 then 140 else 0
def Sh.as (S : Sh) (t f o : Int) : Sh := if S.asC t f o = 0 then Sh.on ⟨S.n, S.pt, S.pl, S.st, S.was, S.tk, t, f, o, S.dn⟩ 1 else S
def Sh.tick (S : Sh) : Sh := if S.st = 0 ∨ S.st = 5 then S else if S.pt < S.tk + 1 then ⟨S.n, S.pt, S.pl, 5, S.st, S.tk + 1, S.jt, S.jf, S.jo, S.dn⟩ else ⟨S.n, S.pt, S.pl, S.st, S.was, S.tk + 1, S.jt, S.jf, S.jo, S.dn⟩
def Sh.orK (S : Sh) : Int := if S.st = 1 then 1 else if S.st = 2 then 2 else if S.st = 3 then 1 else if S.st = 4 then 3 else 0
def Sh.orW (S : Sh) : Int := if S.st = 1 then S.jf else if S.st = 2 then S.jt else if S.st = 3 then S.jo else if S.st = 4 then S.jt else 0
def Sh.tickK (S : Sh) : Int := if S.st = 0 ∨ S.st = 5 then 0 else if S.pt < S.tk + 1 then 0 else S.orK
def Sh.tickW (S : Sh) : Int := if S.st = 0 ∨ S.st = 5 then 0 else if S.pt < S.tk + 1 then 0 else S.orW
def Sh.mvC (S : Sh) (p : Int) : Int := if S.has p = false then 1 else if S.st ≠ 1 ∧ S.st ≠ 3 then 140 else 0
def Sh.mv (S : Sh) (p : Int) : Sh := if S.mvC p = 0 then Sh.on ⟨S.n, S.pt, p, S.st, S.was, S.tk, S.jt, S.jf, S.jo, S.dn⟩ S.st else S
def Sh.hdC (S : Sh) (k t : Int) : Int := if S.st ≠ k then 140 else if t ≠ S.jt then 160 else 0
def Sh.pk (S : Sh) (t : Int) : Sh := if S.hdC 2 t = 0 then S.on 3 else S
def Sh.more (S : Sh) : Sh := ⟨S.n, S.pt, S.pl, S.st, S.was, S.tk, S.jt, S.jf, S.jo, S.dn + 1⟩
def Sh.dp (S : Sh) (t : Int) : Sh := if S.hdC 4 t = 0 then (S.on 0).more else S
def Sh.rsC (S : Sh) : Int := if S.st ≠ 5 then 140 else 0
def Sh.rs (S : Sh) : Sh := if S.rsC = 0 then S.on S.was else S
def Sh.eff (S : Sh) : Int := if S.st = 5 then S.was else S.st
def Sh.load (S : Sh) : Int := if S.eff = 3 ∨ S.eff = 4 then S.jt else 0

/-- what holds of every shuttle -/
structure Sh.Ok (S : Sh) : Prop where
  n1 : 1 ≤ S.n
  n2 : S.n ≤ 40
  p1 : 1 ≤ S.pt
  p2 : S.pt ≤ 1000
  l1 : 0 ≤ S.pl
  l2 : S.pl < S.n
  s1 : 0 ≤ S.st
  s2 : S.st ≤ 5
  w1 : S.st = 5 → 1 ≤ S.was ∧ S.was ≤ 4
  t1 : 0 ≤ S.tk
  t2 : S.tk ≤ S.pt + 1
  t3 : S.st ≠ 5 → S.tk ≤ S.pt
  j1 : S.st ≠ 0 → (1 ≤ S.jt ∧ S.jt ≤ 30) ∧ (0 ≤ S.jf ∧ S.jf < S.n) ∧ (0 ≤ S.jo ∧ S.jo < S.n)
  e1 : S.eff = 1 → S.pl ≠ S.jf
  e2 : S.eff = 2 → S.pl = S.jf
  e3 : S.eff = 3 → S.pl ≠ S.jo
  e4 : S.eff = 4 → S.pl = S.jo
theorem Sh.ok_new {n a p : Int} (h1 : 1 ≤ n) (h2 : n ≤ 40) (h3 : 1 ≤ p) (h4 : p ≤ 1000) (h5 : 0 ≤ a) (h6 : a < n) : Sh.Ok ⟨n, p, a, 0, 0, 0, 0, 0, 0, 0⟩ := by
  constructor <;> simp [Sh.eff] <;> omega
theorem Sh.Ok.on' {n pt pl st was tk jt jf jo dn k : Int} (h1 : 1 ≤ n) (h2 : n ≤ 40) (h3 : 1 ≤ pt) (h4 : pt ≤ 1000) (h5 : 0 ≤ pl) (h6 : pl < n) (hk0 : 0 ≤ k) (hk : k ≤ 4)
    (hj : k ≠ 0 → (1 ≤ jt ∧ jt ≤ 30) ∧ (0 ≤ jf ∧ jf < n) ∧ (0 ≤ jo ∧ jo < n)) (g2 : k = 2 → pl = jf) (g4 : k = 4 → pl = jo) : (Sh.on ⟨n, pt, pl, st, was, tk, jt, jf, jo, dn⟩ k).Ok := by
  unfold Sh.on
  by_cases c1 : k = 1 ∧ pl = jf
  · rw [if_pos c1]
    have := hj (by omega)
    constructor <;> simp [Sh.eff] <;> omega
  rw [if_neg c1]
  by_cases c3 : k = 3 ∧ pl = jo
  · rw [if_pos c3]
    have := hj (by omega)
    constructor <;> simp [Sh.eff] <;> omega
  rw [if_neg c3]
  by_cases k0 : k = 0
  · subst k0; constructor <;> simp [Sh.eff] <;> omega
  have := hj k0
  have k5 : ¬ k = 5 := by omega
  constructor <;> simp [Sh.eff, k5] <;> omega
theorem Sh.has_iff (S : Sh) (p : Int) : S.has p = true ↔ 0 ≤ p ∧ p < S.n := by simp [Sh.has]
theorem Sh.Ok.as {S : Sh} (h : S.Ok) (t f o : Int) : (S.as t f o).Ok := by
  unfold Sh.as
  split
  case isFalse => exact h
  case isTrue hc =>
    unfold Sh.asC at hc
    split at hc
    · omega
    case isFalse hn =>
      split at hc
      · omega
      have hf : S.has f = true := by cases e : S.has f <;> simp_all
      have ho : S.has o = true := by cases e : S.has o <;> simp_all
      rw [Sh.has_iff] at hf ho
      exact Sh.Ok.on' h.n1 h.n2 h.p1 h.p2 h.l1 h.l2 (by omega) (by omega) (fun _ => ⟨by omega, hf, ho⟩) (by omega) (by omega)
theorem Sh.Ok.tick {S : Sh} (h : S.Ok) : S.tick.Ok := by
  unfold Sh.tick
  split
  · exact h
  case isFalse hr =>
    have h0 : S.st ≠ 0 := fun e => hr (.inl e)
    have h5 : S.st ≠ 5 := fun e => hr (.inr e)
    have := h.j1 h0
    have := h.t3 h5
    obtain ⟨a1, a2, a3, a4, a5, a6, a7, a8, a9, a10, a11, a12, a13, a14, a15, a16, a17⟩ := h
    simp only [Sh.eff, if_neg h5] at a14 a15 a16 a17
    split
    · constructor <;> simp [Sh.eff] <;> omega
    · constructor <;> simp [Sh.eff, h5] <;> omega
theorem Sh.Ok.mv {S : Sh} (h : S.Ok) (p : Int) : (S.mv p).Ok := by
  unfold Sh.mv
  split
  case isFalse => exact h
  case isTrue hc =>
    unfold Sh.mvC at hc
    split at hc
    · omega
    case isFalse hn =>
      split at hc
      · omega
      case isFalse hs =>
        have hp : S.has p = true := by cases e : S.has p <;> simp_all
        rw [Sh.has_iff] at hp
        have := h.s1
        exact Sh.Ok.on' h.n1 h.n2 h.p1 h.p2 hp.1 hp.2 (by omega) (by omega) (fun e => h.j1 e) (by omega) (by omega)
theorem Sh.Ok.pk {S : Sh} (h : S.Ok) (t : Int) : (S.pk t).Ok := by
  unfold Sh.pk
  split
  case isFalse => exact h
  case isTrue hc =>
    unfold Sh.hdC at hc
    split at hc
    · omega
    case isFalse hn =>
      have hs : S.st = 2 := Decidable.not_not.1 hn
      exact Sh.Ok.on' h.n1 h.n2 h.p1 h.p2 h.l1 h.l2 (by omega) (by omega) (fun e => h.j1 (by omega)) (by omega) (by omega)
theorem Sh.Ok.more {S : Sh} (h : S.Ok) : S.more.Ok := ⟨h.n1, h.n2, h.p1, h.p2, h.l1, h.l2, h.s1, h.s2, h.w1, h.t1, h.t2, h.t3, h.j1, h.e1, h.e2, h.e3, h.e4⟩
theorem Sh.Ok.dp {S : Sh} (h : S.Ok) (t : Int) : (S.dp t).Ok := by
  unfold Sh.dp
  split
  case isFalse => exact h
  case isTrue hc => exact Sh.Ok.more (Sh.Ok.on' h.n1 h.n2 h.p1 h.p2 h.l1 h.l2 (by omega) (by omega) (by omega) (by omega) (by omega))
theorem Sh.Ok.rs {S : Sh} (h : S.Ok) : S.rs.Ok := by
  unfold Sh.rs
  split
  case isFalse => exact h
  case isTrue hc =>
    unfold Sh.rsC at hc
    split at hc
    · omega
    case isFalse hn =>
      have hs : S.st = 5 := Decidable.not_not.1 hn
      have hw := h.w1 hs
      have e2 := h.e2
      have e4 := h.e4
      simp only [Sh.eff, if_pos hs] at e2 e4
      exact Sh.Ok.on' h.n1 h.n2 h.p1 h.p2 h.l1 h.l2 (by omega) (by omega) (fun e => h.j1 (by omega)) e2 e4
end Go.Proofs.Ytjmmkkjabpcihaa
