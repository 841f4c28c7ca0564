/- Take, and the document's Take, side by side. -/
import Derived.Test.YtmbgcbbpkbaajaaRelM
import Derived.Test.YtmbgcbbpkbaajaaFillM
namespace Go.Proofs.Ytmbgcbbpkbaajaa
open Go.RowKit
set_option linter.unusedVariables false

/-- blocks with a string in them are as they were -/
def StrKept (w w' : World) : Prop := ∀ b, b < w.heap.size → (∃ o s, w.cell? ⟨b, o, none⟩ = some (.string s)) → w'.heap[b]? = w.heap[b]?
theorem StrKept.below {w w' : World} (h : Below w.heap.size w w') : StrKept w w' := fun b hb _ => h.block b hb
theorem StrKept.box {w : World} {b i : Nat} {win nx : Int} {ac aq : Option Addr} {nc cc nq cq : Nat} {u : Value} (h : w.heap[b]? = some (boxOf win nx (.slice ac nc cc) (.slice aq nq cq))) : StrKept w (w.setCell ⟨b, i, none⟩ u) := by
  intro b' _ ⟨o, s, hs⟩
  refine Below.heap_setCell _ _ _ _ (fun e => ?_)
  have e' : b' = b := e
  subst e'
  rw [(cells_of h o).1] at hs
  match o, hs with
  | 0, hs => simp at hs
  | 1, hs => simp at hs
  | 2, hs => simp at hs
  | 3, hs => simp at hs
  | o + 4, hs => simp at hs
theorem Has.strKept {w w' : World} {h : Hd} {S : Ik} (H : Has w h S) (hO : Only h w w') : StrKept w w' := by
  intro b hb ⟨o, s, hs⟩
  refine hO.block b hb (fun e => ?_) (fun e => ?_) (fun e => ?_)
  · subst e
    have hx := H.box
    unfold cellsOf at hx
    rw [(cells_of hx o).1] at hs
    match o, hs with
    | 0, hs => simp at hs
    | 1, hs => simp at hs
    | 2, hs => simp at hs
    | 3, hs => simp at hs
    | o + 4, hs => simp at hs
  · subst e
    obtain ⟨D, ⟨es, clock, hb', _⟩, _⟩ := H.map
    simp [World.cell?, hb'] at hs
  · subst e
    obtain ⟨buf, s', r, hc, _⟩ := H.chan
    simp [World.cell?, hc] at hs
theorem strs_stay {w w' : World} {v : Value} {xs : List ByteArray} (h : strsE.Rd w v xs) (hk : StrKept w w') : strsE.Rd w' v xs := by
  rcases h with h | ⟨x, c, h1, h2⟩
  · exact .inl h
  · refine .inr ⟨x, c, h1, fun n hn => ?_⟩
    have h := h2 n hn
    have hl : n < xs.length := by rw [show strsE.k = 1 from rfl] at hn; omega
    have e := strsE.fl_at xs n 0 xs[n] (List.getElem?_eq_getElem hl) (by rw [show strsE.k = 1 from rfl]; omega)
    rw [show strsE.k = 1 from rfl, Nat.mul_one, Nat.add_zero] at e
    have e' : (strsE.fl xs)[n]? = some (.string xs[n]) := e
    rw [e'] at h ⊢
    have hsp := World.cell?_spot h
    have hlt := cell_lt h
    have hx : x.add n = ⟨(x.add n).block, (x.add n).off, none⟩ := by
      generalize x.add n = y at *
      obtain ⟨b, o, sp⟩ := y
      simp at hsp
      subst hsp; rfl
    rw [World.cell?_of_block (w := w) (hk _ hlt ⟨(x.add n).off, xs[n], by rw [← hx]; exact h⟩)]
    exact h
theorem pieces_stay {w w' : World} {v : Value} {xs : List Pc} (h : piecesE.Rd w v xs) (hk : StrKept w w') : piecesE.Rd w' v xs := by
  rcases h with h | ⟨x, c, h1, h2⟩
  · exact .inl h
  · cases xs with
    | nil => exact .inr ⟨x, c, h1, fun n hn => by simp at hn⟩
    | cons p ps =>
      have hpos : 0 < (p :: ps).length * piecesE.k := by rw [show piecesE.k = 2 from rfl]; simp
      have h0 := h2 0 hpos
      have h1' := h2 1 (by rw [show piecesE.k = 2 from rfl]; simp; omega)
      have e0 : (piecesE.fl (p :: ps))[0]? = some (.int .u16 p.1) := rfl
      have e1 : (piecesE.fl (p :: ps))[1]? = some (.string p.2) := rfl
      rw [e0] at h0
      rw [e1] at h1'
      obtain ⟨b, off, spot⟩ := x
      have hspot : spot = none := by simpa [Addr.add] using World.cell?_spot h0
      subst hspot
      have hblk : w'.heap[b]? = w.heap[b]? := hk b (by have := cell_lt h0; rw [addr_plain] at this; exact this) ⟨off + 1, p.2, by rw [← addr_plain]; exact h1'⟩
      refine .inr ⟨_, c, h1, fun n hn => ?_⟩
      rw [← h2 n hn]
      exact World.cell?_of_block (w := w) (by rw [addr_plain]; exact hblk)

theorem adv_len (nx : Int) (came : List Pc) (queue : List ByteArray) : (adv nx came queue).2.1.length ≤ came.length := by
  have key : ∀ n (nx : Int) (came : List Pc) (queue : List ByteArray), came.length = n → (adv nx came queue).2.1.length ≤ n := by
    intro n
    induction n using Nat.strongRecOn with
    | _ n ih =>
      intro nx came queue hn
      by_cases h : 0 ≤ idx came nx
      · obtain ⟨c, h1, _⟩ := idx_yes came nx h
        have hr := rm_len came _ (idx_lt h)
        rw [adv_go nx came queue (idx came nx).toNat c (by omega) h1]
        have := ih (rm came (idx came nx).toNat).length (by omega) ((nx + 1) % 65536) _ (queue ++ [c.2]) rfl
        omega
      · rw [adv_end nx came queue (by omega)]; exact Nat.le_of_eq hn
  exact key _ nx came queue rfl

/-- what Take makes of an intake -/
def Took (S S' : Ik) (x : Int) (l : List Int) : Prop :=
  (S.code x l.length ≠ 0 ∧ S' = S) ∨ (S.code x l.length = 0 ∧ ∃ p j, p.2 = l ∧ j ≤ 200 ∧ S' = (S.put x p).go j ∧ (S.put x p).There j ∧ (S.put x p).wait ((S.nx + j) % 65536) = none)

theorem took_q {S S' : Ik} {x : Int} {l : List Int} (h : Took S S' x l) (hI : S.Inw) (hw : S.win ≤ 64) (hq : (S.q.length : Int) ≤ 2 * S.win - 1) : (S'.q.length : Int) ≤ 2 * S'.win - 1 ∧ S'.win = S.win := by
  rcases h with ⟨_, rfl⟩ | ⟨hc, p, j, _, hj, rfl, j1, _⟩
  · exact ⟨hq, rfl⟩
  · obtain ⟨_, _, h3, _, h5⟩ := code_ok hc
    refine ⟨?_, rfl⟩
    have hr : (S.put x p).Room := (hI.put h3 p).room h5
    show ((S.q ++ (List.range j).map _).length : Int) ≤ 2 * S.win - 1
    rw [List.length_append, List.length_map, List.length_range]
    rcases Nat.eq_zero_or_pos j with e | e
    · omega
    · have := hr ((S.nx + ((j - 1 : Nat) : Int)) % 65536) (by omega) (by omega) (j1 (j - 1) (by omega))
      have e1 : up (S.put x p).nx ((S.nx + ((j - 1 : Nat) : Int)) % 65536) = ((j - 1 : Nat) : Int) := up_at S.nx (j - 1) (by omega)
      rw [e1] at this
      have e2 : (S.put x p).win = S.win := rfl
      have e3 : (S.put x p).q = S.q := rfl
      rw [e2, e3] at this
      omega

theorem ptake {w : World} {h : Hd} {S : Ik} (H : Has w h S) (hI : S.Inw) (hn : S.n ≤ 1000) {v : Value} {l : List Int} (hv : bytesE.Rd w v l) (x : Int) (x0 : 0 ≤ x) (x1 : x ≤ 65535) (hl : l.length ≤ 1000000) :
    Calls Try.prog 12 #[.pointer (some ⟨h.g, 0, none⟩), .int .u16 x, v] w fun e w' => ∃ S', e = .returned (.int .i64 (S.code x l.length)) ∧ Has w' h S' ∧ S'.Inw ∧ S'.n ≤ S.n + 1 ∧ Took S S' x l ∧ Only h w w' := by
  by_cases hc : S.code x l.length = 0
  · refine (take_ok H hI (by omega) hv x x0 x1 hc).mono ?_
    rintro e w' ⟨rfl, p, j, hp, _, j1, j2, H', I', O'⟩
    obtain ⟨_, _, h3, _, h5⟩ := code_ok hc
    have hj := j1.le ((hI.put h3 p).room h5) H.win.2
    exact ⟨_, by rw [hc], H', I', Nat.le_refl _, .inr ⟨hc, p, j, hp, hj, rfl, j1, j2⟩, O'⟩
  · refine (take_no H hv x x0 x1 hl hc).mono ?_
    rintro e w' ⟨rfl, m, rfl⟩
    exact ⟨S, rfl, H.drewN m, hI, by omega, .inl ⟨hc, rfl⟩, ⟨rfl, rfl, rfl, Nat.le_refl _, fun _ _ _ _ _ => rfl⟩⟩

theorem rplay {S S' : Ik} {came : List Pc} {queue : List ByteArray} {x : Int} {l : List Int} (hR : Rel S came queue) (hT : Took S S' x l) (hn : 0 ≤ S.nx ∧ S.nx ≤ 65535) (hw : 1 ≤ S.win ∧ S.win ≤ 64) (hI : S.Inw) (x0 : 0 ≤ x) (x1 : x ≤ 65535) (ac aq : Option Addr) (cc cq : Nat) (w : World)
    (hc : piecesE.Rd w (.slice ac came.length cc) came) (hq : strsE.Rd w (.slice aq queue.length cq) queue) (hcl : came.length ≤ 300) (hql : queue.length ≤ 1000) (hqc : queue.length ≤ cq) :
    Calls Try.prog 13 #[.agg #[.int .i64 S.win, .int .u16 S.nx, .slice ac came.length cc, .slice aq queue.length cq], .int .u16 x, .string (str l)] w fun e w' => ∃ (came' : List Pc) (queue' : List ByteArray) (ac' aq' : Option Addr) (cc' cq' : Nat),
      e = .returned (.tuple #[.agg #[.int .i64 S.win, .int .u16 S'.nx, .slice ac' came'.length cc', .slice aq' queue'.length cq'], .int .i64 (S.code x l.length)]) ∧ Rel S' came' queue' ∧ piecesE.Rd w' (.slice ac' came'.length cc') came' ∧ strsE.Rd w' (.slice aq' queue'.length cq') queue' ∧ came'.length ≤ came.length + 1 ∧ queue'.length ≤ cq' ∧ Below w.heap.size w w' := by
  have hsz := str_size l
  have hd := dst_in S.nx x
  have k21 : ∀ W, Calls Try.prog 21 #[.int .u16 S.nx, .int .u16 x] W fun e w' => e = .returned (.int .i64 (dst S.nx x)) ∧ w' = W := fun W => rdist_any S.nx x W hn ⟨x0, x1⟩
  by_cases hlong : 256 < l.length
  · have ec : S.code x l.length = 3 := by unfold Ik.code; rw [if_pos hlong]
    obtain rfl : S' = S := by
      rcases hT with ⟨_, h⟩ | ⟨h, _⟩
      · exact h
      · rw [ec] at h; cases h
    refine (rtake_long S'.win S'.nx x ac aq came.length cc queue.length cq (str l) w (by rw [hsz]; exact hlong)).mono ?_
    rintro e w' ⟨rfl, hb⟩
    exact ⟨came, queue, ac, aq, cc, cq, by rw [ec], hR, hc.keep hb, hq.keep hb, by omega, hqc, hb⟩
  · rcases rel_code hR hn hw x0 x1 l.length (by omega) with ⟨ec, d0, d1, hi, hqn⟩ | ⟨ec, hcode⟩
    · rcases hT with ⟨h, _⟩ | ⟨_, p, j, hp, hj, rfl, j1, j2⟩
      · exact absurd ec h
      · have hx : S.wait x = none := (code_ok ec).2.2.2.1
        have hR1 := rel_put hR x0 x1 hx p
        rw [hp] at hR1
        obtain ⟨a1, a2⟩ := rel_adv hR1 hn j hj j1 j2
        have a1' : (adv S.nx (came ++ [(x, str l)]) queue).1 = ((S.put x p).go j).nx := a1
        have a2' : Rel ((S.put x p).go j) (adv S.nx (came ++ [(x, str l)]) queue).2.1 (adv S.nx (came ++ [(x, str l)]) queue).2.2 := a2
        have hal := adv_len S.nx (came ++ [(x, str l)]) queue
        refine (rtake_yes S.win S.nx x (dst S.nx x) came queue ac aq cc cq (str l) w (by rw [hsz]; omega) hw hn ⟨d0, d1⟩ k21 hc hq hcl hqn hqc hi).mono ?_
        rintro e w' ⟨vc, vq, rfl, hc', hq', hcap, hb⟩
        obtain ⟨ac', cc', rfl⟩ := hc'.form
        obtain ⟨aq', cq', rfl⟩ := hq'.form
        refine ⟨_, _, ac', aq', cc', cq', by rw [ec, a1'], a2', hc', hq', by simpa using hal, hcap _ _ _ rfl, hb⟩
    · obtain rfl : S' = S := by
        rcases hT with ⟨_, h⟩ | ⟨h, _⟩
        · exact h
        · exact absurd h ec
      refine (rtake_no S'.win S'.nx x (dst S'.nx x) (S'.code x l.length) came ac aq cc queue.length cq (str l) w (by rw [hsz]; omega) hw hd k21 hc (by omega) hql hcode).mono ?_
      rintro e w' ⟨rfl, hb⟩
      exact ⟨came, queue, ac, aq, cc, cq, rfl, hR, hc.keep hb, hq.keep hb, by omega, hqc, hb⟩
end Go.Proofs.Ytmbgcbbpkbaajaa
