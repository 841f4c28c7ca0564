/- What is shown is parsed to the same. -/
import Derived.Test.YtpjolnaomdmnnaaDoorShw
import Derived.Test.YtpjolnaomdmnnaaDoorRln
import Derived.Test.YtpjolnaomdmnnaaDoorFlm
namespace Go.Proofs.YtpjolnaomdmnnaaDoor
open Go.RowKit
set_option linter.unusedVariables false

/-- a list without a sign -/
def Wo (c : UInt8) (l : List UInt8) : Prop := c ∉ l
theorem cut_front (c : UInt8) (a r : List UInt8) (h : Wo c a) : cutL c (a ++ c :: r) = a :: cutL c r := by
  have h1 := cut_at c (a ++ c :: r) a.length (fun j hj he => by
    rw [List.getElem?_append_left hj] at he
    exact h (List.mem_of_getElem? he)) (by rw [List.getElem?_append_right (Nat.le_refl _), Nat.sub_self]; rfl)
  rw [h1]
  congr 1
  · rw [List.take_append_of_le_length (Nat.le_refl _), List.take_length]
  · rw [List.drop_append]
    simp
    rw [List.drop_of_length_le (by omega), List.nil_append]
theorem cut_wo (c : UInt8) (a : List UInt8) (h : Wo c a) : cutL c a = [a] := cut_none c a (fun j he => h (List.mem_of_getElem? he))
theorem cut_lines (c : UInt8) : ∀ (bs : List (List UInt8)), (∀ b ∈ bs, Wo c b) → cutL c (bs.flatMap (fun b => b ++ [c])) = bs ++ [[]]
  | [], _ => rfl
  | b :: bs, h => by
    rw [List.flatMap_cons, List.append_assoc]
    show cutL c (b ++ c :: bs.flatMap (fun b => b ++ [c])) = _
    rw [cut_front c b _ (h b List.mem_cons_self), cut_lines c bs (fun x hx => h x (List.mem_cons_of_mem _ hx))]
    rfl
theorem wo_name {s : ByteArray} (h : nameB s = true) (c : UInt8) (hc : c = 32 ∨ c = 10) : Wo c s.data.toList := by
  intro hm
  obtain ⟨i, hi⟩ := List.getElem?_of_mem hm
  unfold nameB at h
  obtain ⟨_, _, h3⟩ := of_decide_eq_true h
  have hl : i < s.size := by
    rcases Nat.lt_or_ge i s.data.toList.length with h' | h'
    · exact h'
    · rw [List.getElem?_eq_none h'] at hi; cases hi
  have := h3 i hl
  unfold chOk byteAt at this
  rw [hi] at this
  rcases hc with rfl | rfl
  · revert this; simp
  · revert this; simp
theorem wo_kind (k : Int) (c : UInt8) (hc : c = 32 ∨ c = 10) : Wo c (kindW k).data.toList := by
  unfold kindW Wo
  rcases hc with rfl | rfl
  · split
    · decide
    · split
      · decide
      · split <;> decide
  · split
    · decide
    · split
      · decide
      · split <;> decide
theorem kind_back (k : Int) (h : 1 ≤ k ∧ k ≤ 4) : kindS (kindW k) = some k := by
  have : k = 1 ∨ k = 2 ∨ k = 3 ∨ k = 4 := by omega
  rcases this with rfl | rfl | rfl | rfl
  · unfold kindW; rw [if_pos rfl]; unfold kindS; rw [if_pos rfl]
  · have e : kindW 2 = str [115, 108, 111, 116] := rfl
    rw [e]; unfold kindS
    rw [if_neg (fun h => by have := str_inj h; simp at this), if_pos rfl]
  · have e : kindW 3 = str [115, 116, 97, 116, 105, 111, 110] := rfl
    rw [e]; unfold kindS
    rw [if_neg (fun h => by have := str_inj h; simp at this), if_neg (fun h => by have := str_inj h; simp at this), if_pos rfl]
  · have e : kindW 4 = str [103, 97, 116, 101] := rfl
    rw [e]; unfold kindS
    rw [if_neg (fun h => by have := str_inj h; simp at this), if_neg (fun h => by have := str_inj h; simp at this), if_neg (fun h => by have := str_inj h; simp at this), if_pos rfl]
theorem dig_one (z : Nat) (h : z < 8) : ∃ c : UInt8, Lib.decDigits z = [c] ∧ c.toNat = 48 + z := by
  rw [Lib.decDigits, dif_pos (by omega)]
  refine ⟨_, rfl, ?_⟩
  have : z = 0 ∨ z = 1 ∨ z = 2 ∨ z = 3 ∨ z = 4 ∨ z = 5 ∨ z = 6 ∨ z = 7 := by omega
  rcases this with rfl | rfl | rfl | rfl | rfl | rfl | rfl | rfl <;> rfl
theorem zone_back (z : Nat) (h : z < 8) : zoneS (str (Lib.decDigits z)) = some (z : Int) := by
  obtain ⟨c, hc, hn⟩ := dig_one z h
  rw [hc]
  have hb : byteAt (str [c]) 0 = c.toNat := rfl
  unfold zoneS
  rw [if_pos ⟨rfl, by rw [hb]; omega, by rw [hb]; omega⟩, hb, hn]
  congr 1
  omega
theorem wo_dig (z : Nat) (h : z < 8) (c : UInt8) (hc : c = 32 ∨ c = 10) : Wo c (Lib.decDigits z) := by
  obtain ⟨d, hd, hn⟩ := dig_one z h
  rw [hd]
  intro hm
  simp at hm
  subst hm
  rcases hc with rfl | rfl
  · have : (32 : UInt8).toNat = 32 := rfl
    omega
  · have : (10 : UInt8).toNat = 10 := rfl
    omega
/-- the lines without their ends -/
def ndBody (n : Nd) : List UInt8 := nodeWd.data.toList ++ 32 :: (n.name.data.toList ++ 32 :: ((kindW n.kind).data.toList ++ 32 :: Lib.decDigits n.zone.toNat))
def edBody (ns : List Nd) (e : Ed) : List UInt8 := edgeWd.data.toList ++ 32 :: ((nameAt ns e.1).data.toList ++ 32 :: (nameAt ns e.2).data.toList)
theorem nd_line (n : Nd) : ndLine n = ndBody n ++ [10] := by
  unfold ndLine lineB ndBody
  simp only [List.map_cons, List.map_nil, join4, str_list]
theorem ed_line (ns : List Nd) (e : Ed) : edLine ns e = edBody ns e ++ [10] := by
  unfold edLine lineB edBody
  simp only [List.map_cons, List.map_nil, join3]
theorem show_lines (ns : List Nd) (es : List Ed) : showL ns es = (ns.map ndBody ++ es.map (edBody ns)).flatMap (fun b => b ++ [10]) := by
  unfold showL
  rw [List.flatMap_append, List.flatMap_map, List.flatMap_map]
  have e1 : ndLine = fun n => ndBody n ++ [10] := funext nd_line
  have e2 : edLine ns = fun e => edBody ns e ++ [10] := funext (ed_line ns)
  rw [e1, e2]
theorem nd_parts {n : Nd} (h : ndB n = true) : nameB n.name = true ∧ (1 ≤ n.kind ∧ n.kind ≤ 4) ∧ ∃ z : Nat, n.zone = (z : Int) ∧ z < 8 := by
  unfold ndB at h
  simp only [Bool.and_eq_true, decide_eq_true_eq] at h
  obtain ⟨⟨h1, h2⟩, h3⟩ := h
  unfold zoneB at h3
  obtain ⟨h4, h5⟩ := of_decide_eq_true h3
  obtain ⟨z, hz⟩ := Int.eq_ofNat_of_zero_le h4
  exact ⟨h1, h2, z, hz, by omega⟩
theorem wo_app {c : UInt8} {a b : List UInt8} (h1 : Wo c a) (h2 : Wo c b) : Wo c (a ++ b) := fun h => (List.mem_append.1 h).elim h1 h2
theorem wo_cons {c x : UInt8} {b : List UInt8} (h1 : c ≠ x) (h2 : Wo c b) : Wo c (x :: b) := fun h => (List.mem_cons.1 h).elim h1 h2
theorem wo_node : Wo 10 nodeWd.data.toList ∧ Wo 32 nodeWd.data.toList ∧ Wo 10 edgeWd.data.toList ∧ Wo 32 edgeWd.data.toList := by
  unfold Wo nodeWd edgeWd
  refine ⟨by decide, by decide, by decide, by decide⟩
theorem nd_wo {n : Nd} (h : ndB n = true) : Wo 10 (ndBody n) := by
  obtain ⟨h1, h2, z, hz, hz8⟩ := nd_parts h
  unfold ndBody
  rw [hz, Int.toNat_natCast]
  exact wo_app wo_node.1 (wo_cons (by decide) (wo_app (wo_name h1 10 (.inr rfl)) (wo_cons (by decide) (wo_app (wo_kind _ 10 (.inr rfl)) (wo_cons (by decide) (wo_dig z hz8 10 (.inr rfl)))))))
theorem nd_ok {n : Nd} (h : ndB n = true) : NodeOk (pieces 32 (str (ndBody n))) n := by
  obtain ⟨h1, h2, z, hz, hz8⟩ := nd_parts h
  refine ⟨n.name, kindW n.kind, str (Lib.decDigits z), ?_, rfl, h1, kind_back _ h2, by rw [hz]; exact zone_back z hz8⟩
  unfold pieces
  rw [str_list]
  unfold ndBody
  rw [hz, Int.toNat_natCast, cut_front 32 _ _ wo_node.2.1, cut_front 32 _ _ (wo_name h1 32 (.inl rfl)), cut_front 32 _ _ (wo_kind _ 32 (.inl rfl)), cut_wo 32 _ (wo_dig z hz8 32 (.inl rfl))]
  simp only [List.map_cons, List.map_nil, str_of]
theorem skip_no {x : UInt8} {l : List UInt8} (h : x.toNat ≠ 35) : skipS (str (x :: l)) = false := by
  unfold skipS
  have h1 : (str (x :: l)).size = l.length + 1 := by rw [str_size]; rfl
  have h2 : byteAt (str (x :: l)) 0 = x.toNat := rfl
  rw [h1, h2]
  simp [h]
theorem nd_lineS {n : Nd} (h : ndB n = true) (st : St) : lineS firstAt st (str (ndBody n)) = some (st.1 ++ [n], st.2) :=
  line_node (by unfold ndBody nodeWd; exact skip_no (by decide)) (nd_ok h)
theorem name_of {ns : List Nd} (h : ∀ x ∈ ns, ndB x = true) {e : Ed} (he : edB ns e = true) : ∀ i, (i = e.1 ∨ i = e.2) → ∃ (k : Nat) (p : Nd), i = (k : Int) ∧ ns[k]? = some p ∧ nameAt ns i = p.name ∧ nameB p.name = true := by
  intro i hi
  unfold edB placeB at he
  simp only [Bool.and_eq_true, decide_eq_true_eq] at he
  have hb : 0 ≤ i ∧ i < (ns.length : Int) := by
    rcases hi with rfl | rfl
    · exact he.1.1.1
    · exact he.1.1.2
  obtain ⟨k, hk⟩ := Int.eq_ofNat_of_zero_le hb.1
  have hl : k < ns.length := by omega
  refine ⟨k, ns[k], hk, List.getElem?_eq_getElem hl, ?_, (nd_parts (h _ (List.getElem_mem hl))).1⟩
  rw [hk]
  simp [nameAt, hl]
theorem ed_wo {ns : List Nd} (h : ∀ x ∈ ns, ndB x = true) {e : Ed} (he : edB ns e = true) : Wo 10 (edBody ns e) := by
  obtain ⟨_, p1, _, _, n1, b1⟩ := name_of h he e.1 (.inl rfl)
  obtain ⟨_, p2, _, _, n2, b2⟩ := name_of h he e.2 (.inr rfl)
  unfold edBody
  rw [n1, n2]
  exact wo_app wo_node.2.2.1 (wo_cons (by decide) (wo_app (wo_name b1 10 (.inr rfl)) (wo_cons (by decide) (wo_name b2 10 (.inr rfl)))))
theorem ed_lineS {ns : List Nd} {es : List Ed} (h : ∀ x ∈ ns, ndB x = true) (hnd : (ns.map (·.name)).Nodup) {e : Ed} (he : edB ns e = true) : lineS firstAt (ns, es) (str (edBody ns e)) = some (ns, es ++ [e]) := by
  obtain ⟨k1, p1, q1, r1, n1, b1⟩ := name_of h he e.1 (.inl rfl)
  obtain ⟨k2, p2, q2, r2, n2, b2⟩ := name_of h he e.2 (.inr rfl)
  have fs : ∀ (k : Nat) (p : Nd), ns[k]? = some p → firstAt ns p.name = some (k : Int) := fun k p hp => first_self hp (fun hm => by
    have e : ns.map (·.name) = (ns.take k).map (·.name) ++ (ns.drop k).map (·.name) := by rw [← List.map_append, List.take_append_drop]
    rw [e, List.nodup_append] at hnd
    have hk : k < ns.length := by
      rcases Nat.lt_or_ge k ns.length with h' | h'
      · exact h'
      · rw [List.getElem?_eq_none h'] at hp; cases hp
    have hmem : p.name ∈ (ns.drop k).map (·.name) := by
      refine List.mem_map.2 ⟨p, ?_, rfl⟩
      rw [← List.getElem_cons_drop hk]
      rw [List.getElem?_eq_getElem hk] at hp
      rw [Option.some.inj hp]
      exact List.mem_cons_self
    exact hnd.2.2 _ hm _ hmem rfl)
  refine line_edge (st := (ns, es)) (by unfold edBody edgeWd; exact skip_no (by decide)) ⟨p1.name, p2.name, ?_, by rw [q1]; exact fs k1 p1 r1, by rw [q2]; exact fs k2 p2 r2⟩
  unfold pieces
  rw [str_list]
  unfold edBody
  rw [n1, n2, cut_front 32 _ _ wo_node.2.2.2, cut_front 32 _ _ (wo_name b1 32 (.inl rfl)), cut_wo 32 _ (wo_name b2 32 (.inl rfl))]
  simp only [List.map_cons, List.map_nil, str_of]
theorem lines_nodes : ∀ (l : List Nd) (i : Nat) (st : St) (r : List ByteArray), (∀ x ∈ l, ndB x = true) → linesS firstAt i st (l.map (fun n => str (ndBody n)) ++ r) = linesS firstAt (i + l.length) (st.1 ++ l, st.2) r
  | [], i, st, r, _ => by simp
  | n :: l, i, st, r, h => by
    rw [List.map_cons, List.cons_append, linesS, nd_lineS (h n List.mem_cons_self) st]
    simp only
    rw [lines_nodes l (i + 1) _ r (fun x hx => h x (List.mem_cons_of_mem _ hx))]
    simp only [List.length_cons, List.append_assoc, List.cons_append, List.nil_append]
    rw [show i + 1 + l.length = i + (l.length + 1) by omega]
theorem lines_edges {ns : List Nd} (hn : ∀ x ∈ ns, ndB x = true) (hnd : (ns.map (·.name)).Nodup) : ∀ (l : List Ed) (i : Nat) (es : List Ed) (r : List ByteArray), (∀ e ∈ l, edB ns e = true) → linesS firstAt i (ns, es) (l.map (fun e => str (edBody ns e)) ++ r) = linesS firstAt (i + l.length) (ns, es ++ l) r
  | [], i, es, r, _ => by simp
  | e :: l, i, es, r, h => by
    rw [List.map_cons, List.cons_append, linesS, ed_lineS hn hnd (h e List.mem_cons_self)]
    simp only
    rw [lines_edges hn hnd l (i + 1) _ r (fun x hx => h x (List.mem_cons_of_mem _ hx))]
    simp only [List.length_cons, List.append_assoc, List.cons_append, List.nil_append]
    rw [show i + 1 + l.length = i + (l.length + 1) by omega]
/-- a good layout's text is parsed to it -/
theorem parse_show {ns : List Nd} {es : List Ed} (h : good ns es = true) (hs : (showL ns es).length ≤ 4096) : parseS firstAt (str (showL ns es)) = ((ns, es), 0, 0) := by
  have hg := h
  unfold good goodN goodE at h
  simp only [Bool.and_eq_true, decide_eq_true_eq] at h
  obtain ⟨⟨_, _, hn, hnd⟩, _, he, _⟩ := h
  unfold parseS
  rw [if_neg (by rw [str_size]; omega)]
  have hp : pieces 10 (str (showL ns es)) = ns.map (fun n => str (ndBody n)) ++ (es.map (fun e => str (edBody ns e)) ++ [str []]) := by
    unfold pieces
    rw [str_list, show_lines, cut_lines 10 _ (fun b hb => by
      rcases List.mem_append.1 hb with hb | hb
      · obtain ⟨x, hx, rfl⟩ := List.mem_map.1 hb
        exact nd_wo (hn x hx)
      · obtain ⟨x, hx, rfl⟩ := List.mem_map.1 hb
        exact ed_wo hn (he x hx))]
    simp only [List.map_append, List.map_map, List.map_cons, List.map_nil, List.append_assoc]
    rfl
  rw [hp, lines_nodes ns 0 ([], []) _ hn]
  simp only [List.nil_append]
  rw [lines_edges hn hnd es _ [] _ he]
  simp only [List.nil_append]
  rw [linesS]
  have hsk : lineS firstAt (ns, es) (str []) = some (ns, es) := by
    unfold lineS
    rw [if_pos (by unfold skipS; rfl)]
  rw [hsk]
  simp only [linesS]
  rw [if_pos hg]
end Go.Proofs.YtpjolnaomdmnnaaDoor
