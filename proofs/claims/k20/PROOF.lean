import PyProof.Rows.All
import Wide.All
import OpenK.AllK
import Wide.FinOn
import HandS.ForMost
import HandS.Strs
import HandS.SetFor
import HandS.SetTxt0
import HandS.Walk
import HandS.Style
import HandS.IsInst
import HandS.More
import HandS.ExcInit
import HandS.HotCalls
import HandS.WordsExc
import HandS.SortInts
import HandS.TupSets
import PyProof.SeqIndex
import HandS.Dict
import HandS.Text
import HandS.StrMore
import PyProof.StrLawsFrom
import PyProof.Rows.StrBetween
import PyProof.FitsInt
import PyProof.Rows.StrJoinMade
import PyProof.Rows.StrCut
import HandS.Zip
import HandS.TupAny
import KE.LtData
import PyProof.NeData
import HandS.Codes
import HandS.ForDict
import PySem.Challenge.RW_piecesseen_k20_judges_of_any_value
set_option linter.all false
namespace Vm
/-! ### words as lists of codes; the pieces of a word -/
abbrev Wd := List Nat
theorem lt_irr (x : Wd) : ¬ x < x := List.lt_irrefl x
theorem lt_tr {x y z : Wd} (a : x < y) (b : y < z) : x < z := List.lt_trans a b
theorem lt_as {x y : Wd} (a : x < y) : ¬ y < x := fun b => lt_irr x (lt_tr a b)
theorem lt_tri {x y : Wd} (a : ¬ x < y) (b : ¬ y < x) : x = y := List.le_antisymm (List.not_lt.mp b) (List.not_lt.mp a)
theorem le_tr {x y z : Wd} (a : ¬ y < x) (b : ¬ z < y) : ¬ z < x := List.not_lt.mpr (List.le_trans (List.not_lt.mp a) (List.not_lt.mp b))
/-- p into an ascending list -/
def ins (p : Wd) : List Wd → List Wd
  | [] => [p]
  | q :: r => if p < q then p :: q :: r else if q < p then q :: ins p r else q :: r
def asc : List Wd → List Wd
  | [] => []
  | p :: r => ins p (asc r)
abbrev Up (l : List Wd) : Prop := l.Pairwise (· < ·)
theorem mem_ins {p x : Wd} : ∀ {l : List Wd}, x ∈ ins p l ↔ x = p ∨ x ∈ l
  | [] => by simp [ins]
  | q :: r => by
    unfold ins
    by_cases h1 : p < q
    · simp [h1]
    · by_cases h2 : q < p
      · simp only [h1, h2, if_false, if_true, List.mem_cons, mem_ins (l := r)]
        constructor
        · rintro (a | a | a) <;> simp [a]
        · rintro (a | a | a) <;> simp [a]
      · have e := lt_tri h1 h2
        subst e
        simp [h1]
theorem up_ins {p : Wd} : ∀ {l : List Wd}, Up l → Up (ins p l)
  | [], _ => List.pairwise_singleton _ _
  | q :: r, h => by
    obtain ⟨a, b⟩ := List.pairwise_cons.mp h
    unfold ins
    by_cases h1 : p < q
    · rw [if_pos h1]
      exact List.pairwise_cons.mpr ⟨fun y hy => (List.mem_cons.mp hy).elim (fun e => e ▸ h1) fun hy => lt_tr h1 (a y hy), h⟩
    · rw [if_neg h1]
      by_cases h2 : q < p
      · rw [if_pos h2]
        exact List.pairwise_cons.mpr ⟨fun y hy => (mem_ins.mp hy).elim (fun e => e ▸ h2) fun hy => a y hy, up_ins b⟩
      · rw [if_neg h2]; exact h
theorem mem_asc {x : Wd} : ∀ {l : List Wd}, x ∈ asc l ↔ x ∈ l
  | [] => Iff.rfl
  | p :: r => by unfold asc; rw [mem_ins, mem_asc (l := r), List.mem_cons]
theorem up_asc : ∀ l : List Wd, Up (asc l)
  | [] => List.Pairwise.nil
  | p :: r => up_ins (up_asc r)
theorem up_uniq : ∀ {l m : List Wd}, Up l → Up m → (∀ x, x ∈ l ↔ x ∈ m) → l = m
  | [], [], _, _, _ => rfl
  | [], y :: m, _, _, h => absurd ((h y).mpr (List.mem_cons_self ..)) (by simp)
  | x :: l, [], _, _, h => absurd ((h x).mp (List.mem_cons_self ..)) (by simp)
  | x :: l, y :: m, hl, hm, h => by
    obtain ⟨a1, a2⟩ := List.pairwise_cons.mp hl
    obtain ⟨b1, b2⟩ := List.pairwise_cons.mp hm
    have e : x = y := by
      rcases List.mem_cons.mp ((h x).mp (List.mem_cons_self ..)) with e | hx
      · exact e
      · rcases List.mem_cons.mp ((h y).mpr (List.mem_cons_self ..)) with e | hy
        · exact e.symm
        · exact absurd (a1 y hy) (lt_as (b1 x hx))
    subst e
    refine congrArg (x :: ·) (up_uniq a2 b2 fun z => ?_)
    have hz := h z
    simp only [List.mem_cons] at hz
    constructor
    · intro q
      rcases hz.mp (.inr q) with e | w
      · exact absurd (a1 z q) (e ▸ lt_irr _)
      · exact w
    · intro q
      rcases hz.mpr (.inr q) with e | w
      · exact absurd (b1 z q) (e ▸ lt_irr _)
      · exact w
theorem up_nodup {l : List Wd} (h : Up l) : l.Nodup := List.Pairwise.imp (fun {a b} (q : a < b) (e : a = b) => lt_irr b (by rw [e] at q; exact q)) h
/-- a sorted list without doubles ascends -/
theorem up_of_le : ∀ {l : List Wd}, l.Pairwise (fun x y => ¬ y < x) → l.Nodup → Up l
  | [], _, _ => List.Pairwise.nil
  | x :: l, h, d => by
    obtain ⟨a1, a2⟩ := List.pairwise_cons.mp h
    obtain ⟨b1, b2⟩ := List.nodup_cons.mp d
    refine List.pairwise_cons.mpr ⟨fun y hy => ?_, up_of_le a2 b2⟩
    by_cases c : x < y
    · exact c
    · exact absurd (lt_tri c (a1 y hy) ▸ hy) b1
theorem asc_length_le : ∀ l : List Wd, (asc l).length ≤ l.length
  | [] => Nat.le_refl _
  | p :: r => by
    have h : ∀ m : List Wd, (ins p m).length ≤ m.length + 1 := by
      intro m
      induction m with
      | nil => exact Nat.le_refl _
      | cons q m ih =>
        unfold ins
        by_cases h1 : p < q
        · simp [h1]
        · by_cases h2 : q < p
          · simp [h1, h2]; exact ih
          · simp [h1, h2]
    exact Nat.le_trans (h _) (Nat.succ_le_succ (asc_length_le r))
theorem asc_congr {l m : List Wd} (h : ∀ x, x ∈ l ↔ x ∈ m) : asc l = asc m := up_uniq (up_asc _) (up_asc _) fun x => by rw [mem_asc, mem_asc, h x]
/-- the pieces of k signs, from the left -/
def win (k : Nat) (z : Wd) (i : Nat) : Wd := (z.drop i).take k
def wins (k : Nat) (z : Wd) : List Wd := (List.range (z.length + 1 - k)).map (win k z)
theorem wins_length (k : Nat) (z : Wd) : (wins k z).length = z.length + 1 - k := by simp [wins]
theorem wins_get {k : Nat} {z : Wd} {i : Nat} (h : i < z.length + 1 - k) : (wins k z)[i]? = some (win k z i) := by simp [wins, h]
theorem win_length {k : Nat} {z : Wd} {i : Nat} (h : i < z.length + 1 - k) : (win k z i).length = k := by
  simp [win]; omega
theorem wins_len {k : Nat} {z p : Wd} (h : p ∈ wins k z) : p.length = k := by
  obtain ⟨i, hi, rfl⟩ := List.mem_map.mp h
  exact win_length (List.mem_range.mp hi)
theorem wins_mem {k : Nat} {z p : Wd} (h : p ∈ wins k z) : ∀ c ∈ p, c ∈ z := by
  obtain ⟨i, hi, rfl⟩ := List.mem_map.mp h
  intro c hc
  exact List.mem_of_mem_drop (List.mem_of_mem_take hc)
/-- how often a piece stands in a word -/
def often (k : Nat) (z p : Wd) : Nat := (wins k z).count p
theorem often_pos {k : Nat} {z p : Wd} : 0 < often k z p ↔ p ∈ wins k z := List.count_pos_iff
theorem often_le (k : Nat) (z p : Wd) : often k z p ≤ z.length + 1 - k := by
  rw [← wins_length]; exact List.count_le_length
/-- the wins so far -/
theorem take_succ_wins {k : Nat} {z : Wd} {i : Nat} (h : i < z.length + 1 - k) : (wins k z).take (i + 1) = (wins k z).take i ++ [win k z i] := by
  rw [List.take_add_one, wins_get h]; rfl
/-! ### counting from place to place -/
def upto (k : Nat) (z p : Wd) (j : Nat) : Nat := ((wins k z).take j).count p
theorem upto_all {k : Nat} {z p : Wd} {j : Nat} (h : z.length + 1 - k ≤ j) : upto k z p j = often k z p := by
  unfold upto often
  rw [List.take_of_length_le (by rw [wins_length]; exact h)]
theorem upto_none {k : Nat} {z p : Wd} {a b : Nat} (h : a ≤ b) (hn : ∀ i, a ≤ i → i < b → i < z.length + 1 - k → win k z i ≠ p) : upto k z p b = upto k z p a := by
  induction b with
  | zero => cases Nat.le_zero.mp h; rfl
  | succ b ih =>
    by_cases e : a = b + 1
    · rw [e]
    · have r := ih (by omega) fun i h1 h2 h3 => hn i h1 (by omega) h3
      rw [← r]
      unfold upto
      by_cases hb : b < z.length + 1 - k
      · rw [take_succ_wins hb, List.count_append, List.count_singleton, if_neg]
        · rfl
        · simpa using hn b (by omega) (by omega) hb
      · rw [List.take_of_length_le (by rw [wins_length]; omega), List.take_of_length_le (by rw [wins_length]; omega)]
theorem upto_hit {k : Nat} {z p : Wd} {b : Nat} (hb : b < z.length + 1 - k) (h : win k z b = p) : upto k z p (b + 1) = upto k z p b + 1 := by
  unfold upto
  rw [take_succ_wins hb, List.count_append, List.count_singleton, if_pos (by simpa using h)]
theorem upto_zero {k : Nat} {z p : Wd} {i : Nat} (h : p ∉ (wins k z).take i) : upto k z p i = 0 := List.count_eq_zero.mpr h
theorem upto_miss {k : Nat} {z p : Wd} {b : Nat} (hb : b < z.length + 1 - k) (h : p ≠ win k z b) : upto k z p (b + 1) = upto k z p b := by
  unfold upto
  rw [take_succ_wins hb, List.count_append, List.count_singleton, if_neg (by simpa using fun e => h e.symm)]
  rfl
theorem mem_take_succ {k : Nat} {z p : Wd} {i : Nat} (hi : i < z.length + 1 - k) : p ∈ (wins k z).take (i + 1) ↔ p ∈ (wins k z).take i ∨ p = win k z i := by
  rw [take_succ_wins hi, List.mem_append, List.mem_singleton]
end Vm

set_option linter.all false
namespace Vm
/-! ### tables of words and numbers -/
def tally (p : Wd) : List (Wd × Nat) → Nat
  | [] => 0
  | q :: r => (if q.1 = p then q.2 else 0) + tally p r
theorem tally_app (p : Wd) : ∀ (l m : List (Wd × Nat)), tally p (l ++ m) = tally p l + tally p m
  | [], m => by simp [tally]
  | q :: r, m => by
    show (if q.1 = p then q.2 else 0) + tally p (r ++ m) = _ + tally p r + tally p m
    rw [tally_app p r m]
    omega
theorem tally_zero {p : Wd} : ∀ {l : List (Wd × Nat)}, p ∉ l.map (·.1) → tally p l = 0
  | [], _ => rfl
  | q :: r, h => by
    rw [List.map_cons, List.mem_cons, not_or] at h
    show (if q.1 = p then q.2 else 0) + tally p r = 0
    rw [if_neg (fun e => h.1 e.symm), tally_zero h.2]
theorem tally_map {p : Wd} {f : Wd → Nat} : ∀ {l : List Wd}, l.Nodup → tally p (l.map fun q => (q, f q)) = if p ∈ l then f p else 0
  | [], _ => by simp [tally]
  | q :: r, h => by
    obtain ⟨h1, h2⟩ := List.nodup_cons.mp h
    show (if q = p then f q else 0) + tally p (r.map fun q => (q, f q)) = _
    rw [tally_map h2]
    by_cases e : q = p
    · subst e
      rw [if_pos rfl, if_neg h1, if_pos (List.mem_cons_self ..)]
      rfl
    · rw [if_neg e]
      have e' : ¬ p = q := fun z => e z.symm
      simp only [List.mem_cons, e', false_or, Nat.zero_add]
theorem asc_asc (l : List Wd) : asc (asc l) = asc l := asc_congr fun x => mem_asc
/-- the pieces with their numbers, as a table -/
def tab (k : Nat) (z : Wd) : List (Wd × Nat) := (asc (wins k z)).map fun p => (p, often k z p)
theorem tab_keys (k : Nat) (z : Wd) : (tab k z).map (·.1) = asc (wins k z) := by
  unfold tab
  rw [List.map_map]
  exact List.map_id _
theorem tally_tab (k : Nat) (z p : Wd) : tally p (tab k z) = often k z p := by
  unfold tab
  rw [tally_map (up_nodup (up_asc _))]
  split
  · rfl
  · rename_i h
    exact (List.count_eq_zero.mpr fun x => h (mem_asc.mpr x)).symm
theorem tab_length (k : Nat) (z : Wd) : (tab k z).length ≤ z.length + 1 - k := by
  unfold tab
  rw [List.length_map]
  exact Nat.le_trans (asc_length_le _) (Nat.le_of_eq (wins_length k z))
end Vm

set_option linter.all false
namespace Vm
/-! ### the pieces of a word with one sign more, and of two words -/
theorem win_app {k i : Nat} {x y : Wd} (h : i + k ≤ x.length) : win k (x ++ y) i = win k x i := by
  unfold win
  rw [List.drop_append_of_le_length (by omega), List.take_append_of_le_length (by rw [List.length_drop]; omega)]
theorem wins_snoc {k : Nat} {z : Wd} {c : Nat} (hk : 1 ≤ k) (h : k ≤ z.length + 1) : wins k (z ++ [c]) = wins k z ++ [z.drop (z.length + 1 - k) ++ [c]] := by
  unfold wins
  rw [List.length_append, List.length_singleton, show z.length + 1 + 1 - k = (z.length + 1 - k) + 1 by omega, List.range_succ, List.map_append]
  congr 1
  · refine List.map_congr_left fun i hi => ?_
    have hi := List.mem_range.mp hi
    exact win_app (by omega)
  · show [win k (z ++ [c]) (z.length + 1 - k)] = _
    unfold win
    rw [List.drop_append_of_le_length (by omega)]
    congr 1
    exact List.take_of_length_le (by rw [List.length_append, List.length_drop, List.length_singleton]; omega)
theorem often_snoc {k : Nat} {z p : Wd} {c : Nat} (hk : 1 ≤ k) (h : k ≤ z.length + 1) : often k (z ++ [c]) p = often k z p + (if z.drop (z.length + 1 - k) ++ [c] = p then 1 else 0) := by
  unfold often
  rw [wins_snoc hk h, List.count_append, List.count_singleton]
  congr 1
  simp [beq_iff_eq]
end Vm

set_option Elab.async false
set_option linter.all false
set_option maxRecDepth 100000
set_option maxHeartbeats 4000000
namespace Vs
open PySem PySem.Spec PyProof.Rows L2
open PySem.Froz (SD sObj addTx tailTx sing TxOk)
/-! ### a set of texts, as it grows out of a text's signs -/
theorem tail_ris {ep : Nat} {es : Array (Int × Value)} {t : SetTable} {b : Bool} (r : Ris t.place.toList) : Ris (tailTx ep es t b).2.2.place.toList := by
  unfold tailTx
  split
  · exact relayAll_ris t es _
  · exact r
theorem tail_led {ep : Nat} {es : Array (Int × Value)} {t : SetTable} {b : Bool} : (tailTx ep es t b).2.2.led = t.led := by
  unfold tailTx
  split
  · exact relayAll_led t es _
  · rfl
theorem add_ris {h : Int} {v : Value} {D : SD} (r : Ris D.2.2.place.toList) : Ris (addTx h v D).2.2.place.toList := by
  unfold addTx
  refine tail_ris ?_
  have q := layNew_ris D.2.2 D.1 h v r
  split <;> exact q
theorem add_led {h : Int} {v : Value} {D : SD} : (addTx h v D).2.2.led = D.2.2.led := by
  unfold addTx
  refine tail_led.trans ?_
  have q := layNew_led D.2.2 D.1 h v
  split <;> exact q
/-- the payload D holds just the texts l, each once, and can be walked -/
structure Tx (P : Program) (w : World) (D : SD) (l : List Str) : Prop where
  ok : TxOk P w D l
  ris : Ris D.2.2.place.toList
  led : w.params.followText "set-order" = true ∨ D.2.2.led = true
  nd : l.Nodup
section
variable {P : Program} {w : World} {A : Around} {E : Value → Shared → Prop} {s : Shared}
theorem Tx.add {D : SD} {l : List Str} {k : Str} (u : Tok) (F : Tx P w D l) (hk : k ∉ l) : Tx P w (addTx (hashStr w k) (.str k u) D) (k :: l) :=
  ⟨Froz.add_ok u F.ok, add_ris F.ris, F.led.imp id fun z => add_led.trans z, List.nodup_cons.mpr ⟨hk, F.nd⟩⟩
/-- a text that is there already -/
theorem add_old {a : Addr} {T : String} {D : SD} {l : List Str} {k : Str} {u : Tok} {Q : Bool → Shared → Prop} (ho : s.heap.get? a = some (sObj T D)) (F : TxOk P w D l) (hk : k ∈ l) (hb : l.length < scanBound)
    (h : Q false s) : wpAny (model P w) A (setAddHashed a (.str k u) (hashStr w k)) Q E s := by
  obtain ⟨es, ep, t⟩ := D
  have hd : (sObj T (es, ep, t)).data = .set es ep t := rfl
  have hf : t.fits es.size = true := F.fit
  have hel : ElemsOf (strKind P w) es.toList := F.el
  have hb0 : es.size < scanBound := by
    have z : es.size = l.length := F.sz
    omega
  obtain ⟨e, he, hi⟩ := (F.mem k).mp hk
  unfold setAddHashed setAddHashedIn
  refine wpAny_holding (wpAny_bind (wpAny_setState_of ho hd hf ?_))
  dsimp only
  rw [byScan_of rfl hb0 hel]
  simp only [↓reduceIte]
  unfold setAddByScan
  refine wpAny_bind (wpAny_bind (wpAny_rule (wpAny_bind (wpAny_setScan_of (knd := strKind P w) (k := k) (Froz.is_str k u) ho hd hf hel ?_))))
  cases hr : List.findIdx? (fun e => (strKind P w).is k e.2) es.toList with
  | none =>
    have c := List.findIdx?_eq_none_iff.mp hr e he
    rw [hi] at c
    cases c
  | some j => exact wpAny_pure (wpAny_pure h)
/-- the texts of one sign each -/
abbrev parts (x : Str) : List Str := x.cps.toList.map sing
/-- the loop that puts them in -/
theorem loop_tx {I : Addr} {fp wr : List Addr} {G : Array GenState → Array GenState → Prop} {n : Nat} {x : Str} {St : Nat → Shared → Prop} {R : Result → Shared → Prop}
    (W : WalksS P w A.in1 I fp wr G n (SignAt x) St) (S : Addr) (hSf : S ∉ fp) (hn : n = x.cps.size) (hb : n + 1 < scanBound) :
    ∀ (m i : Nat) (s : Shared), n - i = m → i ≤ n → St i s → (∃ D l, s.heap.get? S = some (sObj "set" D) ∧ Tx P w D l ∧ l.length ≤ i ∧ ∀ k, k ∈ l ↔ k ∈ (parts x).take i) →
      (∀ s' D l, Moved (S :: wr) G s s' → s'.heap.get? S = some (sObj "set" D) → Tx P w D l → (∀ k, k ∈ l ↔ k ∈ parts x) → R (.ok (.ret .none)) s') →
      codeAny (model P w) A (.builtin "set.update.loop" ⟨[.ref S, .ref I], []⟩) R s := by
  have hSw : S ∉ wr := fun h => hSf (W.sub _ h)
  have more : ∀ b ∈ wr, b ∈ S :: wr := fun b => List.mem_cons_of_mem _
  have hpl : (parts x).length = n := by rw [List.length_map, Array.length_toList, hn]
  intro m
  induction m with
  | zero =>
    intro i s hm hi hst ⟨D, l, hS, F, hl, hmem⟩ hR
    obtain rfl : i = n := by omega
    refine codeAny_builtin PyProof.Rows.F.entry_set_update_loop ?_
    rw [Around.under_plainId PyProof.Rows.F.plain_set_update_loop _]
    refine wpAny_bind (W.done s _ _ hst fun s' mv => wpAny_pure (hR s' D l (mv.mono more) (mv.heap S _ hSw hS) F fun k => ?_))
    rw [hmem k, List.take_of_length_le (Nat.le_of_eq hpl)]
  | succ m ih =>
    intro i s hm hi hst ⟨D, l, hS, F, hl, hmem⟩ hR
    refine codeAny_builtin PyProof.Rows.F.entry_set_update_loop ?_
    rw [Around.under_plainId PyProof.Rows.F.plain_set_update_loop _]
    refine wpAny_bind (W.item i s _ _ (by omega) hst fun v s1 hP hst1 mv => ?_)
    obtain ⟨c, u, hc, rfl⟩ := hP
    have hS1 := mv.heap S _ hSw hS
    have hp : (parts x)[i]? = some (sing c) := by rw [List.getElem?_map, Array.getElem?_toList, hc]; rfl
    have hnx : ∀ k, k ∈ (parts x).take (i + 1) ↔ k ∈ l ∨ k = sing c := fun k => by
      rw [List.take_add_one, hp, List.mem_append, ← hmem k]
      simp
    refine wpAny_bind (wpAny_holding ?_)
    unfold setAdd
    refine wpAny_holding (wpAny_bind ((strKind P w).pyHash (k := sing c) (Froz.is_str _ _) ?_))
    by_cases hk : sing c ∈ l
    · refine add_old (s := { s1 with toks := s1.toks + 1 }) hS1 F.ok hk (by omega) ?_
      refine wpAny_pure ⟨plainId_quiet PyProof.Rows.F.plain_set_update_loop _, ih (i + 1) _ (by omega) (by omega) (W.frame _ s1 _ _ hst1 (Nat.le_succ _) fun b _ o e => e) ⟨D, l, hS1, F, by omega, fun k => ?_⟩ fun s2 D2 l2 mv2 hS2 F2 h2 => ?_⟩
      · rw [hnx k]
        exact ⟨.inl, fun z => z.elim id fun z => z ▸ hk⟩
      · exact hR s2 D2 l2 (Moved.trans W.gtrans ((mv.mono more).then_heap (Nat.le_succ _) fun b o _ e => e) mv2) hS2 F2 h2
    · refine Froz.add_x (s := { s1 with toks := s1.toks + 1 }) hS1 F.ok hk (by omega) ?_
      have hS2 : (s1.heap.update S (fun _ => sObj "set" (addTx (hashStr w (sing c)) (.str (sing c) u) D))).get? S = some (sObj "set" (addTx (hashStr w (sing c)) (.str (sing c) u) D)) := Froz.get_upd _ hS1 rfl
      have other : ∀ b o, b ≠ S → s1.heap.get? b = some o → (s1.heap.update S (fun _ => sObj "set" (addTx (hashStr w (sing c)) (.str (sing c) u) D))).get? b = some o := fun b o n e => (Heap.get?_update_other _ _ (Ne.symm n)).trans e
      refine wpAny_pure ⟨plainId_quiet PyProof.Rows.F.plain_set_update_loop _, ih (i + 1) _ (by omega) (by omega) (W.frame _ s1 _ _ hst1 (Nat.le_succ _) fun b hb' o e => other b o (fun z => hSf (z ▸ hb')) e) ⟨_, sing c :: l, hS2, F.add u hk, (by simp only [List.length_cons]; omega), fun k => ?_⟩ fun s2 D2 l2 mv2 hS3 F2 h2 => ?_⟩
      · rw [hnx k, List.mem_cons]
        exact Or.comm
      · exact hR s2 D2 l2 (Moved.trans W.gtrans ((mv.mono more).then_heap (Nat.le_succ _) fun b o nb e => other b o (fun z => nb (z ▸ List.mem_cons_self ..)) e) mv2) hS3 F2 h2
end
end Vs

set_option Elab.async false
set_option linter.all false
set_option maxRecDepth 100000
set_option maxHeartbeats 4000000
namespace Vs
open PySem PySem.Spec PyProof.Rows L2
open PySem.Froz (SD sObj addTx tailTx sing TxOk)
section
variable {P : Program} {w : World} {A : Around} {E : Value → Shared → Prop} {s : Shared}
/-- the empty payload of a new set -/
abbrev emptyD (w : World) : SD := (#[], 0, .fresh 0 0 (!w.params.followText "set-order"))
theorem tx_empty : Tx P w (emptyD w) [] := by
  refine ⟨TxOk.nil (by rfl), List.Pairwise.nil, ?_, List.nodup_nil⟩
  show _ ∨ (!w.params.followText "set-order") = true
  cases w.params.followText "set-order" <;> simp
/-- where set(v) goes once the new set stands: its __init__ -/
theorem set_by_init {v : Value} {Q : Value → Shared → Prop}
    (h : ∀ R : Result → Shared → Prop, (∀ s₂, Q (.ref s.heap.objs.size) s₂ → R (.ok (.ret .none)) s₂) → wpAny (model P w) A.in1.in1 (Builtin.«set.__init__» ⟨[.ref s.heap.objs.size, v], []⟩)
      (fun fin s' => match fin with | .done f => R (.ok f) s' | .again c' => c'.quiet = true ∧ codeAny (model P w) A.in1 c' R s') (fun e s' => R (.error e) s') { s with heap := s.heap.push (sObj "set" (emptyD w)) }) :
    wpAny (model P w) A (call (.type "set") [v]) Q E s := by
  obtain ⟨c, tl, hmro⟩ := F.called_set.mro
  have g1 := F.called_set.made
  have g2 := F.called_set.sub
  have g3 := F.called_set.notType
  have g4 := F.called_set.canCreate
  have g5 := F.typeCall_set_1 v
  refine wpAny_call (codeAny_of_tree ?_)
  refine wpAny_pure ⟨Code.quiet_builtin _ (by decide +kernel), codeAny_builtin F.entry_type_call ?_⟩
  rw [Around.under_plain (weight_type_call_type "set" [v] []) rfl]
  repeat (any_goals (first | assumption | wp_step))
  refine codeAny_mono (code_set_led1 v (E := E) (Q₁ := fun obj s₁ => obj = .ref s.heap.objs.size ∧ s₁ = { s with heap := s.heap.push (sObj "set" (emptyD w)) }) ⟨rfl, rfl⟩) fun r s₁ hr => ?_
  match r, hr with
  | .ok (.ret obj), hr =>
    obtain ⟨rfl, rfl⟩ := hr
    have hS : (s.heap.push (sObj "set" (emptyD w))).get? s.heap.objs.size = some (sObj "set" (emptyD w)) := Heap.get?_push_size _ rfl
    have hT : Shared.TypeIs { s with heap := s.heap.push (sObj "set" (emptyD w)) } (.ref s.heap.objs.size) "set" := ⟨_, hS, rfl⟩
    have g6 := F.called_set.init.lookup
    have g7 := F.called_set.init.bind (.ref s.heap.objs.size)
    repeat (any_goals (first | assumption | wp_step))
    refine codeAny_mono (codeAny_call_builtin (R := wants (fun r s₂ => r = .none ∧ Q (.ref s.heap.objs.size) s₂) E) F.called_set.init.plain F.entry_set_init (check_set_init_1 hT (h _ fun s₂ q => ⟨rfl, q⟩))) fun r₂ s₂ hr₂ => ?_
    match r₂, hr₂ with
    | .ok (.ret _), hr₂ =>
      obtain ⟨rfl, q⟩ := hr₂
      repeat (any_goals (first | assumption | wp_step))
    | .error e, hr₂ => exact hr₂
    | .ok .next, hr₂ => exact hr₂.elim
    | .ok .brk, hr₂ => exact hr₂.elim
    | .ok .cont, hr₂ => exact hr₂.elim
  | .error e, hr => exact hr
  | .ok .next, hr => exact hr.elim
  | .ok .brk, hr => exact hr.elim
  | .ok .cont, hr => exact hr.elim
end
end Vs

set_option Elab.async false
set_option linter.all false
set_option maxRecDepth 100000
set_option maxHeartbeats 4000000
namespace Vs
open PySem PySem.Spec PyProof.Rows L2
open PySem.Froz (SD sObj addTx tailTx sing TxOk)
section
variable {P : Program} {w : World} {A : Around} {E : Value → Shared → Prop} {s : Shared}
theorem sub_str_set : isSubtype (.type "str") (.type "set") = pure false := by rw [isSubtype_type]; kernel_rfl
theorem sub_str_frozenset : isSubtype (.type "str") (.type "frozenset") = pure false := by rw [isSubtype_type]; kernel_rfl
/-- set(text) -/
theorem call_set_text {x : Str} {u : Tok} {Q : Value → Shared → Prop} (hh : A.handled = none) (hb : x.cps.size + 1 < scanBound)
    (h : ∀ (s' : Shared) D l, (∀ b o, s.heap.get? b = some o → s'.heap.get? b = some o) → s'.gens = s.gens → s'.os = s.os → s'.heap.get? s.heap.objs.size = some (sObj "set" D) → Tx P w D l → (∀ k, k ∈ l ↔ k ∈ parts x) → Q (.ref s.heap.objs.size) s') :
    wpAny (model P w) A (call (.type "set") [.str x u]) Q E s := by
  refine set_by_init fun R hR => ?_
  have hS : (s.heap.push (sObj "set" (emptyD w))).get? s.heap.objs.size = some (sObj "set" (emptyD w)) := Heap.get?_push_size _ rfl
  have hz : (s.heap.push (sObj "set" (emptyD w))).objs.size = s.heap.objs.size + 1 := Heap.size_push ..
  have hold : ∀ b o, s.heap.get? b = some o → (s.heap.push (sObj "set" (emptyD w))).get? b = some o := fun b o e => Heap.get?_push_of_some _ e
  have t1 := sub_str_set
  have t2 := sub_str_frozenset
  have t3 : (Value.type "str" == Value.type "dict") = false := by decide
  generalize s.heap.push (sObj "set" (emptyD w)) = h1 at hS hz hold ⊢
  unfold Builtin.«set.__init__» noKeywords Builtin.Frozenset.updateFrom
  generalize hPI : pyIter = PI
  wp_walk
  subst hPI
  refine wpAny_pyIter_str fun o St W hst => wpAny_bind (wpAny_runValue ?_)
  have hx : ∀ b u', h1.get? b = some u' → b ≠ h1.objs.size := fun b u' e => Nat.ne_of_lt (Heap.lt_size e)
  have hSf : s.heap.objs.size ∉ [h1.objs.size] := fun z => hx _ _ hS (List.mem_singleton.mp z)
  refine loop_tx (W _ (by simp [hh])).toS s.heap.objs.size hSf rfl hb _ 0 _ rfl (Nat.zero_le _) hst ⟨_, [], Heap.get?_push_of_some _ hS, tx_empty, Nat.le_refl _, fun k => by simp⟩ fun s2 D l mv hS2 F hm => ?_
  refine wpAny_pure (wpAny_pure (hR _ (h s2 D l (fun b o' e => ?_) mv.gens mv.os hS2 F hm)))
  refine mv.heap b o' (fun z => ?_) (Heap.get?_push_of_some _ (hold b o' e))
  rcases List.mem_cons.mp z with z | z
  · rw [z] at e
    exact Nat.lt_irrefl _ (Heap.lt_size e)
  · exact hx _ _ (hold b o' e) (List.mem_singleton.mp z)
/-! ### sorted(set of texts) -/
theorem strs_of : ∀ (l : List Value), (∀ v ∈ l, ∃ k tk, v = Value.str k tk) → StrsAre l (l.map strOf)
  | [], _ => .nil
  | v :: l, h => by
    obtain ⟨k, tk, rfl⟩ := h v (List.mem_cons_self ..)
    exact .cons k tk (strs_of l fun u hu => h u (List.mem_cons_of_mem _ hu))
theorem perm_same {α : Type} [DecidableEq α] : ∀ (l m : List α), l.Nodup → (∀ k ∈ l, k ∈ m) → m.length ≤ l.length → m.Perm l
  | [], m, _, _, h => by rw [List.length_eq_zero_iff.mp (Nat.le_zero.mp h)]
  | x :: l, m, d, s, h => by
    obtain ⟨d1, d2⟩ := List.nodup_cons.mp d
    have hx := s x (List.mem_cons_self ..)
    have p := List.perm_cons_erase hx
    have hl := p.length_eq
    simp only [List.length_cons] at hl h
    exact p.trans ((perm_same l (m.erase x) d2 (fun k hk => (List.mem_erase_of_ne fun z : k = x => d1 (by rw [← z]; exact hk)).mpr (s k (List.mem_cons_of_mem _ hk))) (by omega)).cons x)
theorem Tx.vals {D : SD} {l : List Str} (F : Tx P w D l) : (∀ e ∈ D.1.toList, ∃ k tk, e.2 = Value.str k tk ∧ k ∈ l) ∧ (D.1.toList.map fun e => strOf e.2).Perm l := by
  have h1 : ∀ e ∈ D.1.toList, ∃ k tk, e.2 = Value.str k tk ∧ k ∈ l := fun e he => by
    obtain ⟨⟨k, hk, _⟩, _⟩ := F.ok.el e he
    have hi : Value.isStrOf k e.2 = true := hk
    obtain ⟨hv, v⟩ := e
    cases v <;> simp [Value.isStrOf] at hi
    exact ⟨_, _, rfl, (F.ok.mem _).2 ⟨_, he, by subst hi; exact Froz.is_str _ _⟩⟩
  refine ⟨h1, ?_⟩
  have sub : ∀ k ∈ l, k ∈ D.1.toList.map fun e => strOf e.2 := fun k hk => by
    obtain ⟨e, he, hi⟩ := (F.ok.mem k).1 hk
    refine List.mem_map.mpr ⟨e, he, ?_⟩
    have hi : Value.isStrOf k e.2 = true := hi
    obtain ⟨hv, v⟩ := e
    cases v <;> simp [Value.isStrOf] at hi
    exact hi
  have len : (D.1.toList.map fun e => strOf e.2).length = l.length := by
    rw [List.length_map, Array.length_toList]
    exact F.ok.sz
  exact perm_same _ _ F.nd sub (Nat.le_of_eq len)
theorem sorted_set_text {a : Addr} {D : SD} {l : List Str} {Q : Value → Shared → Prop} (ho : s.heap.get? a = some (sObj "set" D)) (F : Tx P w D l) (hh : A.handled = none) (h64 : l.length < 64)
    (h : ∀ (s' : Shared) p (out : List Value) (c : Nat) (ys : List Str), (∀ b o, s.heap.get? b = some o → s'.heap.get? b = some o) → s'.gens = s.gens → s'.os = s.os → s.heap.objs.size ≤ p →
      s'.heap.get? p = some (seqObj "list" out.toArray c) → StrsAre out ys → ys.Perm l → sortedS ys = true → Q (.ref p) s') :
    wpAny (model P w) A (call (.builtin "sorted") [.ref a]) Q E s := by
  obtain ⟨v1, v2⟩ := F.vals
  have hsz : D.1.size = l.length := F.ok.sz
  refine Calls.call_function_entry kind_sorted plain_sorted entry_sorted (args_sorted1 _) ?_
  unfold Builtin.«sorted»
  refine wpAny_bind (m := checkCount "sorted" 1 1 _) (wpAny_pure ?_)
  refine wpAny_bind (collect_set (A := A.in1) (es := D.1) (ep := D.2.1) (t := D.2.2) hh ⟨_, ho, rfl, rfl⟩ F.ok.fit (by rw [hsz]; exact Nat.lt_trans h64 (by decide)) F.ris F.led fun s1 vs k1 z1 g1 o1 pm => ?_)
  have len : vs.length = l.length := by rw [pm.length_eq, List.length_map, Array.length_toList, hsz]
  have hS : StrsAre vs (vs.map strOf) := strs_of vs fun v hv => by
    obtain ⟨e, he, rfl⟩ := List.mem_map.mp (pm.mem_iff.mp hv)
    obtain ⟨k, tk, q, _⟩ := v1 e he
    exact ⟨k, tk, q⟩
  have pl : (vs.map strOf).Perm l := (pm.map strOf).trans (by rw [List.map_map]; exact v2)
  refine wpAny_bind (wpAny_newList ?_ (by rw [len, sizeLine_eq]; omega))
  have hL : (s1.heap.push (seqObj "list" vs.toArray 0)).get? s1.heap.objs.size = some (seqObj "list" vs.toArray 0) := Heap.get?_push_size _ rfl
  refine wpAny_bind (wpAny_holding (wpAny_call_entry slot_list_sort ⟨_, hL, rfl⟩ entry_list_sort
    (list_sort_treeK strKind_oneLt hL hS.keysOf (fun v₁ v₂ rest e => keyKind_strs (by rw [← e]; exact hS)) (by rw [len]; exact h64) fun st' hp hs => ⟨_, rfl, ?_⟩) (args_list_sort _)))
  obtain ⟨ys, y1, y2, y3⟩ := sorted_out_str hS hp hs
  obtain ⟨c, hc⟩ := sortedHeap_at (vs := vs) (out := (arrOf st').map (·.2)) hL
  refine wpAny_pure ⟨_, rfl, h _ s1.heap.objs.size _ c ys (fun b u e => ?_) g1 o1 z1 (by rw [Array.toArray_toList]; exact hc) y1 (y2.trans pl) y3⟩
  have q := k1 b u e
  have hb := Heap.lt_size q
  show (sortedHeap (s1.heap.push (seqObj "list" vs.toArray 0)) s1.heap.objs.size vs _).get? b = some u
  rw [sortedHeap_old (Nat.ne_of_lt hb) (by rw [size_push']; exact Nat.lt_succ_of_lt hb)]
  exact Heap.get?_push_of_some _ q
end
/-! ### the rules -/
def SetTx (P : Program) (w : World) (h : Heap) (a : Addr) (l : List Str) : Prop := ∃ D, h.get? a = some (sObj "set" D) ∧ Tx P w D l
def SetTxO (P : Program) (w : World) (a : Addr) (l : List Str) : HO := .ext fun h => SetTx P w h a l
section
variable {X : Cx}
theorem setTxO_new {P : Program} {w : World} {H : Hp} {h : Heap} {a : Addr} {l : List Str} (R : SetTx P w h a l) : ObjOk P w H h a (SetTxO P w a l) := by
  have ⟨D, ho, F⟩ := R
  exact ⟨R, ⟨_, ho⟩, fun h1 h2 z p => let ⟨D, e, F⟩ := z; ⟨D, p _ e, F⟩⟩
/-- a call of a built-in that lays one new object and moves nothing else -/
theorem laid_new {pins : List (Addr × Obj)} {σ : L2.St} {H : Hp} {s s' : Shared} {p : Addr} {o : HO} {Q : VK} (I : Inv X pins σ H s) (k : ∀ b u, s.heap.get? b = some u → s'.heap.get? b = some u) (g : s'.gens = s.gens) (ho : s'.os = s.os)
    (hp : s.heap.objs.size ≤ p) (new : ObjOk X.prog X.w (upd H p o) s'.heap p o) (q : H p = none → Q (.ref p) (upd H p o)) : EP X pins σ Q (.ref p) s' := by
  have hn : H p = none := I.hok.fresh hp
  exact ⟨.ref p, _, I.call' ho (ch := []) (Un.laid k hp hn) (I.hok.laid k hp new) (by rw [g]; exact I.bare) (fun _ z => nomatch z), rfl, q hn⟩
/-- set(text) -/
theorem cr_setText (hc : X.calm = true) : CallR X (.type "set") (fun xs H Q => ∃ x, xs = [.str x] ∧ x.length < 4000 ∧ ∀ a l, H a = none → l.Nodup → (∀ k, k ∈ l ↔ k ∈ parts x) → Q (.ref a) (upd H a (SetTxO X.prog X.w a l))) := by
  intro pins s σ H vs us Q I r h
  obtain ⟨x, rfl, hx, q⟩ := h
  obtain ⟨u, rfl, rx⟩ := vals1 r
  obtain ⟨tk, rfl⟩ := rx
  have hx : x.cps.size < 4000 := hx
  refine call_set_text (I.ok.hd hc) (Nat.lt_trans (Nat.succ_lt_succ hx) (by decide)) fun s' D l k g o hS F hm => ?_
  exact laid_new I k g o (Nat.le_refl _) (setTxO_new ⟨D, hS, F⟩) fun hn => q _ l hn F.nd hm
/-- sorted(set of texts) -/
theorem cr_sortedText (hc : X.calm = true) : CallR X (.builtin "sorted") (fun xs H Q => ∃ a l, xs = [.ref a] ∧ H a = some (SetTxO X.prog X.w a l) ∧ l.length < 64 ∧ ∀ ys p, ys.Perm l → sortedS ys = true → H p = none → Q (.ref p) (upd H p (.lst (ys.map .str)))) := by
  intro pins s σ H vs us Q I r h
  obtain ⟨a, l, rfl, ha, h64, q⟩ := h
  rw [Vals.ref1 r]
  obtain ⟨D, hS, F⟩ : SetTx X.prog X.w s.heap a l := (I.hok a _ ha).1
  refine sorted_set_text hS F (I.ok.hd hc) h64 fun s' p out c ys k g o hp hg hv pm so => ?_
  have len : (ys.map V.str).length ≤ sizeLine := by rw [List.length_map, pm.length_eq, sizeLine_eq]; omega
  have new : ObjOk X.prog X.w (upd H p (.lst (ys.map V.str))) s'.heap p (.lst (ys.map .str)) := ⟨len, out, c, vals_of_strs hv, hg⟩
  exact laid_new I k g o hp new fun hn => q ys p pm so hn
/-- list(text) -/
theorem cr_listText (hc : X.calm = true) : CallR X (.type "list") (fun xs H Q => ∃ x, xs = [.str x] ∧ x.length ≤ sizeLine ∧ ∀ p, H p = none → Q (.ref p) (upd H p (.lst ((parts x).map .str)))) := by
  intro pins s σ H vs us Q I r h
  obtain ⟨x, rfl, hx, q⟩ := h
  obtain ⟨u, rfl, rx⟩ := vals1 r
  obtain ⟨tk, rfl⟩ := rx
  have hx : x.cps.size ≤ sizeLine := hx
  refine call_list_str (I.ok.hd hc) x tk (hn := hx) fun h' t' acc c k hS it => ?_
  have hv : StrsAre acc.toList (parts x) := by
    have st := strs_of acc.toList fun v hv => by
      obtain ⟨i, hi, e⟩ := List.getElem_of_mem hv
      obtain ⟨c, u, _, q⟩ := it.2 i v (by rw [← Array.getElem?_toList, List.getElem?_eq_getElem hi, e])
      exact ⟨_, u, q⟩
    have e : acc.toList.map strOf = parts x := by
      apply List.ext_getElem?
      intro i
      rw [List.getElem?_map, List.getElem?_map, Array.getElem?_toList, Array.getElem?_toList]
      cases ha : acc[i]? with
      | none =>
        have z : x.cps[i]? = none := by
          have z1 := Array.getElem?_eq_none_iff.mp ha
          rw [it.1] at z1
          exact Array.getElem?_eq_none_iff.mpr z1
        rw [z]; rfl
      | some v =>
        obtain ⟨c, u, h1, h2⟩ := it.2 i v ha
        rw [h1, h2]; rfl
    rw [e] at st
    exact st
  have len : ((parts x).map V.str).length ≤ sizeLine := by
    rw [List.length_map, List.length_map, Array.length_toList]
    exact hx
  have new : ObjOk X.prog X.w (upd H s.heap.objs.size (.lst ((parts x).map V.str))) h' s.heap.objs.size (.lst ((parts x).map .str)) := ⟨len, acc.toList, c, vals_of_strs hv, by rw [Array.toArray_toList]; exact hS⟩
  exact laid_new (s' := { s with heap := h', toks := t' }) I k rfl rfl (Nat.le_refl _) new (q _)
end
end Vs

set_option Elab.async false
set_option linter.all false
set_option maxRecDepth 100000
set_option maxHeartbeats 4000000
namespace L2
namespace Vx
open PySem PySem.Spec PyProof.Rows
/-! ### a def that is called where no repr is under way (so that repr may be called in it) -/
structure FnG (P : Program) (w : World) (K : PySem.W.Frag) (mg : Str → Option Value) (base : Heap) (k : Nat) (f : Addr) (fd : FuncData) (ps : List Str) (sp : Sp) : Prop where
  run : ∀ (A : Around) (outer : List Env) (s : Shared) (H : Hp) (args : Args) (us : List Value) (vs : List V) (Q : VK) (E : XK), Room k A → A.guards = some [] → Env0 P w K mg base A outer s H → BindsTo s fd args (ps.zip us) → Vals vs us → sp vs H Q E →
    codeAny (model P w) A (.call (.ref f) args) (CR CX0 outer P w H s Q E) s
section
variable {P : Program} {w : World} {K : PySem.W.Frag} {mg : Str → Option Value} {base : Heap}
theorem FunG {x qual : Str} {st : Stmt} {f : Addr} {fd : FuncData} {N ps : List Str} {k : Nat} {sp : Sp} (F : Fun K x qual st f fd) (S : FnScope N ps (defScope st)) (len : ∀ vs H Q E, sp vs H Q E → vs.length = ps.length)
    (hbody : ∀ (cdv : Value) (A : Around) (outer : List Env) (s : Shared) (H : Hp) (vs : List V) (Q : VK) (E : XK), Room k (A.deeper (envOfC qual (defScope st) s.heap.objs.size f cdv)) → A.guards = some [] → sp vs H Q E →
      ∃ t, PSs (cxOf CX0 P w K mg base N qual (defScope st) f cdv A outer s H E).nox (defBody st) t ∧ t { nx := fun _ H' => Q .non H', rt := Q } (start N vs) H) : FnG P w K mg base (k + 1) f fd ps sp := by
  obtain ⟨oc, od, kV, doc, pm, an, cdv, ct, osl, rfl, lk, hcd⟩ := F.ex
  refine ⟨fun A outer s H args us vs Q E hr hgd e0 hb r hsp => ?_⟩
  obtain ⟨t, ht0, hq⟩ := hbody cdv A outer s H vs Q E (hr.deeper _) hgd hsp
  have ht := ht0.nox
  have hl := len _ _ _ _ hsp
  have KX : K.In s.heap := e0.mod.kin.keeps fun b o e => (e0.bs b o e).1
  have lim : s.heap.NoLimit := e0.mod.nolimit.keeps fun b o e => (e0.bs b o e).1
  have hkind : ∀ y ∈ ps.zip us, (defScope st).names.lookup y.1 = some .local ∨ ((defScope st).names.lookup y.1 = some .cell ∧ ((cellsFrom (s.heap.objs.size + 1) (defScope st).names []).lookup y.1).isSome = true) := by
    rintro ⟨n, v⟩ hy
    rcases S.par n (List.of_mem_zip hy).1 with q | q
    · exact .inl q
    · exact .inr ⟨q, PySem.W.cellsFrom_some _ _ _ (.inl q)⟩
  refine codeAny_call_function hr.depth (KX _ _ lk) rfl S.co S.gen rfl (PySem.W.codeRec_of KX hcd) (hb _ _ _ _ ?_)
  refine wpAny_newFunctionEnv_cells S.kind hkind fun env he s1 x => ?_
  subst he
  refine ⟨lim.keeps x.toInCall.keep, codeAny_func ?_⟩
  have I := inv_start (CX := CX0) (E := E) S hr.hd e0 hl r x
  refine wpAny_mono (ht.run [] s1 (start N vs) H _ I hq) (fun fl s' hs => ?_) fun e s' hs => hs
  cases fl with
  | ret u =>
    obtain ⟨v, σ', H', J, rv, q⟩ := hs
    exact ⟨v, H', J.os, J.bare, J.base, J.hok, rv, q⟩
  | next =>
    obtain ⟨σ', H', J, q⟩ := hs
    exact ⟨V.non, H', J.os, J.bare, J.base, J.hok, rfl, q⟩
  | brk => obtain ⟨_, _, _, q⟩ := hs; exact q.elim
  | cont => obtain ⟨_, _, _, q⟩ := hs; exact q.elim
theorem law_callG {mb : Str → Option Value} {k : Nat} {fa a : Addr} {fd : FuncData} {x : Str} {sp : Sp} {s₁ : Shared} {vs : List Value} {ns : List Int}
    (KX : K.In s₁.heap) (hns : s₁.heap.Ns mainGlobals mg) (hb : s₁.heap.Ns builtinsNs mb) (hbb : ∀ x : Str, x ≠ "__name__" → mb x = bootBuiltins x) (hlim : s₁.heap.NoLimit) (hg : s₁.gens = #[])
    (ha : s₁.heap.get? a = some { cls := .type "list", data := .seq vs.toArray }) (hi : IntsAre vs ns) (hl : ns.length ≤ sizeLine) (hr : Room k callerA)
    (F : ∀ base : Heap, K.In base → base.Ns mainGlobals mg → FnG P w K mg base k fa fd [x] sp) (hbind : ∀ (s : Shared) (u : Value), BindsTo s fd ⟨[u], []⟩ [(x, u)])
    (hsp : ∀ H : Hp, Only H → SqL K H a (ns.map V.int) → sp [.ref a] H (fun v _ => v = .bl true) fun _ _ _ => False) :
    codeAny (model P w) callerA (.call (.ref fa) ⟨[.ref a], []⟩) (fun r s' => r = .ok (.ret (.bool true)) ∧ OldK s₁.heap s'.heap ∧ s'.os = s₁.os ∧ AllBare s'.gens) s₁ := by
  have rv := vals_ints hi
  have lenV := hi.length
  have core : ∀ H : Hp, Only H → SqL K H a (ns.map V.int) → HOk P w H s₁.heap → (∀ b, H b ≠ none → b = a) → (H a ≠ none → K.lookup a = none) →
      codeAny (model P w) callerA (.call (.ref fa) ⟨[.ref a], []⟩) (fun r s' => r = .ok (.ret (.bool true)) ∧ OldK s₁.heap s'.heap ∧ s'.os = s₁.os ∧ AllBare s'.gens) s₁ := by
    intro H hO hS hok hA hK
    have only : ∀ {b : Addr} {u : HO}, H b = some u → b = a := fun {b u} q => hA b (by rw [q]; exact fun z => nomatch z)
    have nsK : ∀ {b : Addr} {m : Str → Option Value}, s₁.heap.Ns b m → (hidT s₁.heap H).Ns b m := by
      rintro b m ⟨o, es, ep, e, d, r⟩
      refine ⟨o, es, ep, hidT_get e ?_, d, r⟩
      cases q : H b with
      | none => rfl
      | some u =>
        obtain rfl := only q
        rw [ha] at e
        cases e
        exact nomatch (show Data.seq vs.toArray _ = Data.dict es ep from d)
    have hKb : K.In (hidT s₁.heap H) := by
      intro b o e
      refine hidT_get (KX b o e) ?_
      cases q : H b with
      | none => rfl
      | some u =>
        obtain rfl := only q
        rw [hK (by rw [q]; exact fun z => nomatch z)] at e
        cases e
    have hM : Mod K mg (hidT s₁.heap H) := ⟨hKb, nsK hns, ⟨mb, nsK hb, hbb⟩, let ⟨mc, h1, h2⟩ := hlim; ⟨mc, nsK h1, h2⟩⟩
    have e0 : Env0 P w K mg (hidT s₁.heap H) callerA [] s₁ H :=
      ⟨rfl, hM, fun b o e => of_hidT e, Nat.le_of_eq (hidT_size _ _), trivial, fun b hb => absurd (show b ∈ ([] : List Addr) from hb) (by simp), hok, .of_eq hg⟩
    refine codeAny_mono ((F _ hKb (nsK hns)).run callerA [] s₁ H ⟨[.ref a], []⟩ [.ref a] [.ref a] _ _ hr rfl e0 (hbind s₁ (.ref a)) (.cons rfl .nil) (hsp H hO hS)) fun r s' h => ?_
    cases r with
    | error e => exact (show False from h).elim
    | ok fl =>
      cases fl with
      | next => exact False.elim h
      | brk => exact False.elim h
      | cont => exact False.elim h
      | ret u =>
        obtain ⟨v, H', os, bare, un, hok', r', q⟩ := h
        obtain rfl : v = .bl true := q
        obtain rfl : u = Value.bool true := r'
        refine ⟨rfl, OldK.of_keep fun b o e => ?_, os, bare⟩
        cases q : H b with
        | none => exact un.keep b o e q (fun z => absurd (show b ∈ ([] : List Addr) from z) (by simp)) (by simp)
        | some u =>
          rcases hO b with z | ⟨ob, xs, z⟩
          · rw [q] at z; cases z
          · obtain ⟨e1, _⟩ := hok b _ z
            obtain ⟨e2, _⟩ := hok' b _ (un.frzs b ob _ z)
            rw [e] at e1
            cases e1
            exact e2
  cases hk : K.lookup a with
  | some o =>
    have e := KX a o hk
    rw [ha] at e
    cases e
    exact core (fun _ => none) (fun _ => .inl rfl) (.inr ⟨_, vs.toArray, _, hk, rfl, rfl, rfl, by rw [List.size_toArray, lenV]; exact hl, by simpa using rv⟩) (fun b u z => nomatch (show (none : Option HO) = some u from z)) (fun b z => absurd rfl z) fun z => absurd rfl z
  | none =>
    have at_a : (fun b => if b = a then some (HO.frz { cls := .type "list", data := .seq vs.toArray } (.lst (ns.map V.int))) else none) a = some (.frz { cls := .type "list", data := .seq vs.toArray } (.lst (ns.map V.int))) := if_pos rfl
    refine core (fun b => if b = a then some (.frz { cls := .type "list", data := .seq vs.toArray } (.lst (ns.map V.int))) else none) (fun b => ?_) (.inl (.inr ⟨_, at_a⟩)) (fun b u z => ?_) (fun b z => ?_) fun _ => hk
    · by_cases hb : b = a
      · exact .inr ⟨_, _, if_pos hb⟩
      · exact .inl (if_neg hb)
    · by_cases hb : b = a
      · cases (if_pos hb).symm.trans z
        subst hb
        exact ⟨ha, by rw [List.length_map]; exact hl, vs, _, rv, ha⟩
      · cases (if_neg hb).symm.trans z
    · by_cases hb : b = a
      · exact hb
      · exact absurd (if_neg hb) z
end
theorem walk_ofG {l : PySem.W.OpenLaw} {n k : Nat} {q : Program} {loose : List Str} {XP : (Str → Option Value) → Heap → Prop} {YP : World → Heap → Prop} {d : DefRec} {K : Params → PySem.W.Frag} {sp : World → Sp} {x : Str}
    (hn : l.most = some n) (hn2 : n ≤ sizeLine) (hdf : d.params.defaults = []) (hr : Room k callerA) (hY : ∀ (w : World) (h : Heap), YP w h → (K w.params).In h)
    (F : ∀ (w : World) (mg : Str → Option Value) (fa : Addr) (h : Heap), (K w.params).In h → h.Ns mainGlobals mg → mg d.name = some (.ref fa) →
      ∃ fd : FuncData, (∀ (s : Shared) (u : Value), BindsTo s fd ⟨[u], []⟩ [(x, u)]) ∧ ∀ base : Heap, (K w.params).In base → base.Ns mainGlobals mg → FnG l.prog w (K w.params) mg base k fa fd [x] (sp w))
    (hsp : ∀ (w : World) (H : Hp) (a : Addr) (ns : List Int), ns.length ≤ n → Only H → SqL (K w.params) H a (ns.map V.int) → sp w [.ref a] H (fun v _ => v = .bl true) fun _ _ _ => False) :
    PySem.W.WalkO q loose XP YP l.row.toRowW d [] (fun f vs => PySem.call f vs) := by
  refine Att.attach_call hn hdf fun w s₀ s₁ mg mb fa o pm cd doc a vs ns G Y ho hd hcd hmg hobj hints hlen hg => ?_
  have KX := hY w _ Y
  obtain ⟨fd, hb, hF⟩ := F w mg fa _ KX G.T.g hmg
  exact law_callG KX G.T.g G.T.b G.T.builtins G.T.nolimit hg hobj hints (Nat.le_trans hlen hn2) hr hF hb (fun H hO hS => hsp w H a ns hlen hO hS)
end Vx
end L2

set_option Elab.async false
set_option linter.all false
set_option maxRecDepth 100000
set_option maxHeartbeats 4000000
/-! ### values that can be shown: repr of any of them, whatever stands in sys.modules' place -/
namespace PySem
namespace Vr
section
mutual
inductive RdX (h : Heap) : Value → PyData → Prop
  | leaf {v d} (r : Reads h v d []) : RdX h v d
  | list {a o vs n xs} : h.get? a = some o → o.cls = .type "list" → o.data = .seq vs n → RdXAll h vs.toList xs → RdX h (.ref a) (.list xs)
  | tuple {a o vs n xs} : h.get? a = some o → o.cls = .type "tuple" → o.data = .seq vs n → RdXAll h vs.toList xs → RdX h (.ref a) (.tuple xs)
  | dict {a o es n kvs} : h.get? a = some o → o.cls = .type "dict" → o.data = .dict es n → ReadsAll h (es.toList.map (·.key)) (kvs.map (·.1)) [] → ReadsAll h (es.toList.map (·.val)) (kvs.map (·.2)) [] → (a == sysModules) = false → RdX h (.ref a) (.dict kvs)
inductive RdXAll (h : Heap) : List Value → List PyData → Prop
  | nil : RdXAll h [] []
  | cons {v vs d ds} : RdX h v d → RdXAll h vs ds → RdXAll h (v :: vs) (d :: ds)
end
mutual
theorem RdX.reads {h : Heap} : ∀ {v : Value} {d : PyData}, RdX h v d → ∃ as, Reads h v d as
  | _, _, .leaf r => ⟨[], r⟩
  | _, _, .list h1 h2 h3 h4 => let ⟨as, r⟩ := RdXAll.reads h4; ⟨_, .list h1 h2 h3 r⟩
  | _, _, .tuple h1 h2 h3 h4 => let ⟨as, r⟩ := RdXAll.reads h4; ⟨_, .tuple h1 h2 h3 r⟩
  | _, _, .dict h1 h2 h3 h4 h5 _ => ⟨_, .dict h1 h2 h3 h4 h5⟩
theorem RdXAll.reads {h : Heap} : ∀ {vs : List Value} {ds : List PyData}, RdXAll h vs ds → ∃ as, ReadsAll h vs ds as
  | _, _, .nil => ⟨[], .nil⟩
  | _, _, .cons r rs => let ⟨as, q⟩ := RdX.reads r; let ⟨bs, qs⟩ := RdXAll.reads rs; ⟨_, .cons q qs⟩
end
variable {prog : Program} {w : World} {h₀ : Heap}
theorem dict_parts {a : Addr} {o : Obj} {es : Array DictEntry} {n : Nat} {kvs : List (PyData × PyData)} (h1 : h₀.get? a = some o) (h2 : o.cls = .type "dict") (h3 : o.data = .dict es n) (h4 : ReadsAll h₀ (es.toList.map (·.key)) (kvs.map (·.1)) [])
    (h5 : ReadsAll h₀ (es.toList.map (·.val)) (kvs.map (·.2)) []) (hs : PyData.showableKv kvs = true) (hz : (dictText (PyData.shownKv kvs)).length ≤ sizeLine) :
    ∃ bs, a ∉ bs ∧ ReadAtMost h₀ (PyData.depthKv kvs) bs ∧ ReprEntriesK prog w bs h₀ (PyData.depthKv kvs) es.toList (PyData.shownKv kvs) := by
  obtain ⟨s1, s2⟩ := PyData.showableKv_split kvs hs
  have no : sysModules ∉ ([] : List Addr) := fun z => nomatch z
  obtain ⟨b1, g1, k1⟩ := ReprAllK.of_readsAll (prog := prog) (w := w) h4 s1 (fun _ => no) fun t ht => by
    obtain ⟨p, hp, hl⟩ := PyData.shownKv_key_le kvs t ht
    exact Nat.le_trans hl (Nat.le_trans (dictText_mem_le hp) hz)
  obtain ⟨b2, g2, k2⟩ := ReprAllK.of_readsAll (prog := prog) (w := w) h5 s2 (fun _ => no) fun t ht => by
    obtain ⟨p, hp, hl⟩ := PyData.shownKv_val_le kvs t ht
    exact Nat.le_trans hl (Nat.le_trans (dictText_mem_le hp) hz)
  have g : ReadAtMost h₀ (PyData.depthKv kvs) (b1 ++ b2) := (g1.mono (PyData.depthAll_keys_le kvs)).append (g2.mono (PyData.depthAll_vals_le kvs))
  refine ⟨b1 ++ b2, not_mem_of_deeper (.dict h1 h2 h3 h4 h5) (by simp only [PyData.depth]; omega) g, g, ?_⟩
  rw [PyData.shownKv_eq]
  exact ReprEntriesK.of_two es.toList _ _ (k1.more_le (fun b hb => List.mem_append_left _ hb) (PyData.depthAll_keys_le kvs)) (k2.more_le (fun b hb => List.mem_append_right _ hb) (PyData.depthAll_vals_le kvs))
mutual
theorem reprK_of : ∀ {v : Value} {d : PyData}, RdX h₀ v d → d.showable = true → d.shown.length ≤ sizeLine → ∃ bs, ReadAtMost h₀ d.depth bs ∧ ReprK prog w bs h₀ d.depth v d.shown
  | _, _, .leaf r, hs, hz => ReprK.of_reads r hs (fun _ z => nomatch z) hz
  | _, _, .list (a := a) (vs := vs) (xs := xs) h1 h2 h3 h4, hs, hz => by
    simp only [PyData.shown] at hz
    obtain ⟨bs, g, k⟩ := reprAllK_of h4 (by simpa [PyData.showable] using hs) fun t ht => Nat.le_trans (listText_mem_le ht) hz
    obtain ⟨as, r⟩ := RdX.reads (.list h1 h2 h3 h4)
    refine ⟨a :: bs, ReadAtMost.cons r (by simp only [PyData.depth]; omega) g, ?_⟩
    have na : a ∉ bs := not_mem_of_deeper r (by simp only [PyData.depth]; omega) g
    simp only [PyData.depth, PyData.shown]
    obtain ⟨l⟩ := vs
    cases l with
    | nil =>
      cases (show RdXAll h₀ [] xs from h4)
      simp only [PyData.shownAll, listText_nil]
      exact ReprK.listEmpty h1 h2 h3
    | cons x l => exact ReprK.list h1 h2 h3 na (by simpa using k.length_eq) fun i y e => k.item i y (by simpa using e)
  | _, _, .tuple (a := a) (xs := xs) h1 h2 h3 h4, hs, hz => by
    simp only [PyData.shown] at hz
    obtain ⟨bs, g, k⟩ := reprAllK_of h4 (by simpa [PyData.showable] using hs) fun t ht => Nat.le_trans (tupleText_mem_le ht) hz
    obtain ⟨as, r⟩ := RdX.reads (.tuple h1 h2 h3 h4)
    refine ⟨a :: bs, ReadAtMost.cons r (by simp only [PyData.depth]; omega) g, ?_⟩
    simp only [PyData.depth, PyData.shown]
    exact ReprK.tuple h1 h2 h3 (not_mem_of_deeper r (by simp only [PyData.depth]; omega) g) k
  | _, _, .dict (a := a) (kvs := kvs) h1 h2 h3 h4 h5 h6, hs, hz => by
    simp only [PyData.shown] at hz
    obtain ⟨bs, na, g, k⟩ := dict_parts (prog := prog) (w := w) h1 h2 h3 h4 h5 (by simpa [PyData.showable] using hs) hz
    refine ⟨a :: bs, ReadAtMost.cons (.dict h1 h2 h3 h4 h5) (by simp only [PyData.depth]; omega) g, ?_⟩
    simp only [PyData.depth, PyData.shown]
    exact ReprK.dict h1 h2 h3 h6 na k
theorem reprAllK_of : ∀ {vs : List Value} {ds : List PyData}, RdXAll h₀ vs ds → PyData.showableAll ds = true → (∀ t ∈ PyData.shownAll ds, t.length ≤ sizeLine) →
    ∃ bs, ReadAtMost h₀ (PyData.depthAll ds) bs ∧ ReprAllK prog w bs h₀ (PyData.depthAll ds) vs (PyData.shownAll ds)
  | _, _, .nil, _, _ => ⟨[], (fun _ h => nomatch h), by simp only [PyData.shownAll]; exact .nil⟩
  | _, _, .cons (d := d) (ds := ds) r rs, hs, hz => by
    have hs' : d.showable = true ∧ PyData.showableAll ds = true := by simpa [PyData.showableAll] using hs
    obtain ⟨b1, g1, k1⟩ := reprK_of r hs'.1 (hz _ (by simp only [PyData.shownAll]; exact List.mem_cons_self ..))
    obtain ⟨b2, g2, k2⟩ := reprAllK_of rs hs'.2 (fun t ht => hz t (by simp only [PyData.shownAll]; exact List.mem_cons_of_mem _ ht))
    refine ⟨b1 ++ b2, fun b hm => ?_, ?_⟩
    · simp only [PyData.depthAll]
      rcases List.mem_append.mp hm with hm | hm
      · obtain ⟨d', as', r', hd'⟩ := g1 b hm
        exact ⟨d', as', r', Nat.le_trans hd' (Nat.le_max_left _ _)⟩
      · obtain ⟨d', as', r', hd'⟩ := g2 b hm
        exact ⟨d', as', r', Nat.le_trans hd' (Nat.le_max_right _ _)⟩
    · simp only [PyData.depthAll, PyData.shownAll]
      exact .cons ((k1.more fun b hb => List.mem_append_left _ hb).level_le (Nat.le_max_left _ _)) (k2.more_le (fun b hb => List.mem_append_right _ hb) (Nat.le_max_right _ _))
end
/-- repr(v) -/
theorem repr_call {s : Shared} {A : Around} {E : Value → Shared → Prop} {Q : Value → Shared → Prop} {v : Value} {d : PyData} (r : RdX s.heap v d) (hs : d.showable = true) (hz : d.shown.length ≤ sizeLine) (hg : A.guards = some []) (hu : A.units + (d.depth + 1) < cLine)
    (hQ : ∀ h' u tk, (∀ b o, s.heap.get? b = some o → h'.get? b = some o) → Q (.str d.shown u) { s with heap := h', toks := tk }) : wpAny (model prog w) A (call (.builtin "repr") [v]) Q E s := by
  have hu' : A.in1.units + d.depth < cLine := by
    show A.units + 1 + d.depth < cLine
    omega
  have keep : ∀ b o, s.heap.get? b = some o → s.heap.get? b = some o := fun _ _ e => e
  cases r with
  | leaf r =>
    cases r with
    | none => simp only [PyData.shown] at hQ; exact P.repr_of_none (hQ s.heap _ _ keep)
    | bool b => simp only [PyData.shown] at hQ; exact P.repr_of_bool (hQ s.heap _ _ keep)
    | int i t => simp only [PyData.shown] at hQ; exact P.repr_of_int (by simpa [PyData.showable] using hs) (hQ s.heap _ _ keep)
    | str x t => simp only [PyData.shown] at hQ hz; exact P.repr_of_str (hQ s.heap _ _ keep) hz
    | tuple h1 h2 h3 h4 => exact repr_of_reads' (.tuple h1 h2 h3 h4) hs (fun _ z => nomatch z) hg hu keep (fun h' u tk k => hQ h' u tk k) hz
  | list h1 h2 h3 h4 =>
    rename_i a o vs n xs
    obtain ⟨as, r⟩ := RdX.reads (.list h1 h2 h3 h4)
    simp only [PyData.shown] at hQ hz
    obtain ⟨bs, g, k⟩ := reprAllK_of (prog := prog) (w := w) h4 (by simpa [PyData.showable] using hs) fun t ht => Nat.le_trans (listText_mem_le ht) hz
    have na : a ∉ bs := not_mem_of_deeper r (by simp only [PyData.depth]; omega) g
    simp only [PyData.depth] at hu'
    refine call_repr_slot (T := "list") (idr := "list.__repr__") (by omega) ⟨o, h1, h2⟩ F.slot_list_repr.toG ?_
    obtain ⟨l⟩ := vs
    cases l with
    | nil =>
      cases (show RdXAll s.heap [] xs from h4)
      simp only [PyData.shownAll, listText_nil] at hQ
      exact call_list_repr_empty ⟨o, h1, h2⟩ h1 h3 ⟨_, _, rfl, hQ s.heap _ _ keep⟩
    | cons x l => exact call_list_reprK h1 h2 h3 na (by simpa using k.length_eq) (fun i y e => k.item i y (by simpa using e)) hg (fun b _ => Clear.nil b) hu' keep (fun h' u tk kk => ⟨_, _, rfl, hQ h' u tk kk⟩) hz
  | tuple h1 h2 h3 h4 =>
    rename_i a o vs n xs
    obtain ⟨as, r⟩ := RdX.reads (.tuple h1 h2 h3 h4)
    simp only [PyData.shown] at hQ hz
    obtain ⟨bs, g, k⟩ := reprAllK_of (prog := prog) (w := w) h4 (by simpa [PyData.showable] using hs) fun t ht => Nat.le_trans (tupleText_mem_le ht) hz
    have na : a ∉ bs := not_mem_of_deeper r (by simp only [PyData.depth]; omega) g
    simp only [PyData.depth] at hu'
    exact call_repr_slot (T := "tuple") (idr := "tuple.__repr__") (by omega) ⟨o, h1, h2⟩ F.slot_tuple_repr
      (call_tuple_reprK h1 h2 h3 na k hg (fun b _ => Clear.nil b) hu' keep (fun h' u tk kk => ⟨_, _, rfl, hQ h' u tk kk⟩) hz)
  | dict h1 h2 h3 h4 h5 h6 =>
    simp only [PyData.shown] at hQ hz
    obtain ⟨bs, na, g, k⟩ := dict_parts (prog := prog) (w := w) h1 h2 h3 h4 h5 (by simpa [PyData.showable] using hs) hz
    simp only [PyData.depth] at hu'
    exact call_repr_slot (T := "dict") (idr := "dict.__repr__") (by omega) ⟨_, h1, h2⟩ F.slot_dict_repr
      (call_dict_reprK h1 h2 h3 h6 na k hg (fun b _ => Clear.nil b) hu' keep (fun h' u tk kk => ⟨_, _, rfl, hQ h' u tk kk⟩) hz)
end
end Vr
end PySem

set_option Elab.async false
set_option linter.all false
set_option maxRecDepth 100000
set_option maxHeartbeats 4000000
namespace L2
namespace Vx
open PySem PySem.Spec PyProof.Rows PySem.Vr
/-! ### values as data: trees of lists and tuples over flat things; a dict holds flat things alone; S: where they may stand -/
def FlatD : V → PyData → Prop
  | .non, d => d = .none
  | .bl b, d => d = .bool b
  | .int i, d => d = .int i
  | .str x, d => d = .str x
  | _, _ => False
def kD : Key → PyData
  | .inl i => .int i
  | .inr x => .str x
inductive FlatP : List (Key × V) → List (PyData × PyData) → Prop
  | nil : FlatP [] []
  | cons {k : Key} {v : V} {d : PyData} {r : List (Key × V)} {ds : List (PyData × PyData)} : FlatD v d → FlatP r ds → FlatP ((k, v) :: r) ((kD k, d) :: ds)
section
mutual
inductive Dt (H : Hp) (S : Addr → Prop) : V → PyData → Prop
  | flat {v d} : FlatD v d → Dt H S v d
  | lst {a xs ds} : H a = some (.lst xs) → S a → DtAll H S xs ds → Dt H S (.ref a) (.list ds)
  | tup {a xs ds} : H a = some (.tup xs) → S a → DtAll H S xs ds → Dt H S (.ref a) (.tuple ds)
  | dct {a kvs ds} : H a = some (.dK kvs) → S a → FlatP kvs ds → Dt H S (.ref a) (.dict ds)
inductive DtAll (H : Hp) (S : Addr → Prop) : List V → List PyData → Prop
  | nil : DtAll H S [] []
  | cons {v vs d ds} : Dt H S v d → DtAll H S vs ds → DtAll H S (v :: vs) (d :: ds)
end
mutual
theorem Dt.mono {H H' : Hp} {S S' : Addr → Prop} (k : ∀ a o, S a → H a = some o → H' a = some o) (ks : ∀ a o, S a → H a = some o → S' a) : ∀ {v : V} {d : PyData}, Dt H S v d → Dt H' S' v d
  | _, _, .flat h => .flat h
  | _, _, .lst h s r => .lst (k _ _ s h) (ks _ _ s h) (DtAll.mono k ks r)
  | _, _, .tup h s r => .tup (k _ _ s h) (ks _ _ s h) (DtAll.mono k ks r)
  | _, _, .dct h s r => .dct (k _ _ s h) (ks _ _ s h) r
theorem DtAll.mono {H H' : Hp} {S S' : Addr → Prop} (k : ∀ a o, S a → H a = some o → H' a = some o) (ks : ∀ a o, S a → H a = some o → S' a) : ∀ {vs : List V} {ds : List PyData}, DtAll H S vs ds → DtAll H' S' vs ds
  | _, _, .nil => .nil
  | _, _, .cons h r => .cons (Dt.mono k ks h) (DtAll.mono k ks r)
end
theorem DtAll.append {H : Hp} {S : Addr → Prop} : ∀ {vs ws : List V} {ds es : List PyData}, DtAll H S vs ds → DtAll H S ws es → DtAll H S (vs ++ ws) (ds ++ es)
  | _, _, _, _, .nil, r => r
  | _, _, _, _, .cons h t, r => .cons h (DtAll.append t r)
theorem FlatD.reads {h : Heap} {v : V} {u : Value} {d : PyData} (f : FlatD v d) (r : RelV v u) : Reads h u d [] := by
  cases v with
  | non => cases (show d = .none from f); cases (show u = Value.none from r); exact .none
  | bl b => cases (show d = .bool b from f); cases (show u = Value.bool b from r); exact .bool b
  | int i => cases (show d = .int i from f); obtain ⟨t, rfl⟩ := (show ∃ t, u = Value.int i t from r); exact .int i t
  | str x => cases (show d = .str x from f); obtain ⟨t, rfl⟩ := (show ∃ t, u = Value.str x t from r); exact .str x t
  | byt b => exact (show False from f).elim
  | flt b => exact (show False from f).elim
  | ref b => exact (show False from f).elim
  | ty b => exact (show False from f).elim
theorem readsAll_cons0 {h : Heap} {v : Value} {vs : List Value} {d : PyData} {ds : List PyData} (a : Reads h v d []) (b : ReadsAll h vs ds []) : ReadsAll h (v :: vs) (d :: ds) [] := .cons (as := []) (bs := []) a b
theorem flatP_reads {P : Program} {w : World} {h : Heap} : ∀ {kvs : List (Key × V)} {ds : List (PyData × PyData)} {vs : List (Key × Value)} {es : List DictEntry}, FlatP kvs ds → KV kvs vs → Pairs (mixKind P w) es vs →
    ReadsAll h (es.map (·.key)) (ds.map (·.1)) [] ∧ ReadsAll h (es.map (·.val)) (ds.map (·.2)) []
  | _, _, _, _, .nil, .nil, .nil => ⟨.nil, .nil⟩
  | _, _, _, _, .cons (k := k) f fr, .cons ⟨ek, rv⟩ rr, .cons (e := e0) hk hv hp => by
    obtain ⟨i1, i2⟩ := flatP_reads fr rr hp
    refine ⟨readsAll_cons0 ?_ i1, readsAll_cons0 ?_ i2⟩
    · have hk' : keyIs k e0.key = true := by rw [show k = _ from ek]; exact hk
      rcases keyIs_shape hk' with ⟨i, t, rfl, e⟩ | ⟨x, t, rfl, e⟩
      · show Reads h e0.key (.int i) []
        rw [e]
        exact .int i t
      · show Reads h e0.key (.str x) []
        rw [e]
        exact .str x t
    · exact f.reads (show RelV _ e0.val by rw [hv]; exact rv)
end
section
variable {X : Cx} {pins : List (Addr × Obj)} {σ : L2.St} {H : Hp} {s : Shared} {S : Addr → Prop}
mutual
theorem Dt.rd (I : Inv X pins σ H s) : ∀ {v : V} {d : PyData}, Dt H S v d → ∀ {u : Value}, RelV v u → RdX s.heap u d
  | _, _, .flat f, u, r => .leaf (f.reads r)
  | _, _, .lst (a := a) (xs := xs) h _ q, u, r => by
    cases (show u = Value.ref a from r)
    obtain ⟨_, its, n, rv, e⟩ := (show ObjOk X.prog X.w H s.heap a (.lst xs) from I.hok a _ h)
    exact .list e rfl rfl (DtAll.rd I q rv)
  | _, _, .tup (a := a) (xs := xs) h _ q, u, r => by
    cases (show u = Value.ref a from r)
    obtain ⟨_, its, rv, o, e, c, n, dt⟩ := (show ObjOk X.prog X.w H s.heap a (.tup xs) from I.hok a _ h)
    exact .tuple e c dt (DtAll.rd I q rv)
  | _, _, .dct (a := a) (kvs := kvs) h _ q, u, r => by
    cases (show u = Value.ref a from r)
    obtain ⟨_, hm, vs, rel, o, es, ep, e, hx, hd, _, hp, _⟩ := (show ObjOk X.prog X.w H s.heap a (.dK kvs) from I.hok a _ h)
    obtain ⟨i1, i2⟩ := flatP_reads (h := s.heap) q rel hp
    exact .dict e hx.1 hd i1 i2 hm
theorem DtAll.rd (I : Inv X pins σ H s) : ∀ {vs : List V} {ds : List PyData}, DtAll H S vs ds → ∀ {us : List Value}, Vals vs us → RdXAll s.heap us ds
  | _, _, .nil, _, .nil => .nil
  | _, _, .cons h q, _, .cons r rr => .cons (Dt.rd I h r) (DtAll.rd I q rr)
end
/-- a datum that repr can show -/
structure Shows (d : PyData) : Prop where
  sh : d.showable = true
  len : d.shown.length ≤ 1000000
  dep : d.depth ≤ 60
def rRep (S : Addr → Prop) : List V → Hp → VK → Prop := fun xs H Q => ∃ v d, xs = [v] ∧ Dt H S v d ∧ Shows d ∧ Q (.str d.shown) H
theorem call_rep (hg : X.A.guards = some []) (hu : X.A.units + 100 < cLine) (S : Addr → Prop) : CallR X (.builtin "repr") (rRep S) := by
  intro pins s σ H xs us Q I r h
  obtain ⟨v, d, rfl, hd, z, q⟩ := h
  cases r with
  | cons rv rn =>
    cases rn
    have hl : d.shown.length ≤ sizeLine := Nat.le_trans z.len (by rw [sizeLine_eq]; decide)
    have hdp := z.dep
    exact repr_call (hd.rd I rv) z.sh hl hg (by omega) fun h' u tk k => ⟨.str d.shown, H, I.kept (t' := tk) k, ⟨_, rfl⟩, q⟩
end
end Vx
end L2

set_option Elab.async false
set_option linter.all false
set_option maxRecDepth 100000
set_option maxHeartbeats 4000000
/-! ### texts, any number of them, sorted -/
namespace SrtO
open PySem PyProof.Rows Srt
section
variable {prog : Program} {w : World} {A : Around} {E : Value → Shared → Prop} {s : Shared}
def ltSv (v u : Value) : Bool := decide ((strOf v).cps.toList < (strOf u).cps.toList)
theorem swo_text : Swo ltSv := by
  refine ⟨fun x y h => ?_, fun x y z h1 h2 => ?_⟩
  · have a := of_decide_eq_true (p := (strOf x).cps.toList < (strOf y).cps.toList) h
    exact decide_eq_false (p := (strOf y).cps.toList < (strOf x).cps.toList) (Vm.lt_as a)
  · have a := of_decide_eq_false (p := (strOf y).cps.toList < (strOf x).cps.toList) h1
    have b := of_decide_eq_false (p := (strOf z).cps.toList < (strOf y).cps.toList) h2
    exact decide_eq_false (p := (strOf z).cps.toList < (strOf x).cps.toList) (Vm.le_tr a b)
theorem strs_mem : ∀ {vs : List Value} {ns : List PySem.Str}, StrsAre vs ns → ∀ v ∈ vs, ∃ i t, v = Value.str i t
  | _, _, .nil, v, h => absurd h (by simp)
  | _, _, .cons n t r, v, h => by
    rcases List.mem_cons.mp h with e | h
    · exact ⟨n, t, e⟩
    · exact strs_mem r v h
theorem strs_sv : ∀ {vs : List Value} {ns : List PySem.Str}, StrsAre vs ns → vs.map strOf = ns
  | _, _, .nil => rfl
  | _, _, .cons n t r => congrArg (n :: ·) (strs_sv r)
theorem text_cmp {vs : List Value} {ns : List PySem.Str} (hI : StrsAre vs ns) : Cmp prog w A s oneType' (fun p => p.1 ∈ vs) (lt2 ltSv) := by
  intro p q hm hm'
  obtain ⟨a, t, e⟩ := strs_mem hI _ hm
  obtain ⟨b, u, e'⟩ := strs_mem hI _ hm'
  show wpAny (model prog w) A (keyLt' oneType' p.1 q.1) (fun r s' => s' = s ∧ r = ltSv p.1 q.1) (fun _ _ => False) s
  rw [e, e', keyLt'_oneType]
  exact oneLt_str ⟨rfl, rfl⟩
theorem texts_sortable {a : Addr} {vs : List Value} {ns : List PySem.Str} (hI : StrsAre vs ns) (h2 : 2 ≤ vs.length) : SortableO prog w A s a vs ltSv := by
  intro h' _
  refine ⟨oneType', fun Q E hq => ?_, text_cmp hI⟩
  match vs, hI, h2 with
  | v1 :: v2 :: rest, hI, _ =>
    rw [keyKind_strs hI]
    exact wpAny_pure hq
  | [], _, h => exact absurd h (by decide)
  | [v], _, h => exact absurd h (by simp)
/-- a sorted list of texts -/
abbrev UpS (l : List PySem.Str) : Prop := l.Pairwise fun x y => ¬ y.cps.toList < x.cps.toList
theorem texts_out {vs out : List Value} {ns : List PySem.Str} (hI : StrsAre vs ns) (hs : Srtd ltSv out) (hb : Stb ltSv out vs) : StrsAre out (out.map strOf) ∧ (out.map strOf).Perm ns ∧ UpS (out.map strOf) := by
  refine ⟨Vs.strs_of out fun v hv => strs_mem hI v (hb.perm.mem_iff.mp hv), ?_, ?_⟩
  · have q := hb.perm.map strOf
    rw [strs_sv hI] at q
    exact q
  · exact List.pairwise_map.mpr (hs.imp fun {x y} h => of_decide_eq_false (p := (strOf y).cps.toList < (strOf x).cps.toList) h)
end
end SrtO
namespace Vs
open PySem PySem.Spec PyProof.Rows L2 SrtO
open PySem.Froz (SD sObj addTx tailTx sing TxOk)
section
variable {P : Program} {w : World} {A : Around} {E : Value → Shared → Prop} {s : Shared}
/-- the collected texts, as a new list that is sorted -/
theorem sort_collected {α : Type} {vs : List Value} {ks : List PySem.Str} {s1 : Shared} {t : Value → Sem α} {Q : α → Shared → Prop} (hS : StrsAre vs ks) (hz : vs.length ≤ sizeLine)
    (h : ∀ (h' : Heap) p (out : List Value) (c : Nat) (ys : List PySem.Str), (∀ b o, s1.heap.get? b = some o → h'.get? b = some o) → s1.heap.objs.size ≤ p →
      h'.get? p = some (seqObj "list" out.toArray c) → StrsAre out ys → ys.Perm ks → UpS ys → wpAny (model P w) A (t (.ref p)) Q E { s1 with heap := h' }) :
    wpAny (model P w) A (do
      let r ← newList vs
      let _ ← holding [r] (call (.builtin "list.sort") [r] [])
      t r) Q E s1 := by
  refine wpAny_bind (wpAny_newList ?_ hz)
  have hL : (s1.heap.push (seqObj "list" vs.toArray 0)).get? s1.heap.objs.size = some (seqObj "list" vs.toArray 0) := Heap.get?_push_size _ rfl
  refine wpAny_bind (wpAny_holding (wpAny_call_entry slot_list_sort ⟨_, hL, rfl⟩ entry_list_sort
    (list_sort_ord swo_text hL hz (fun h2 => texts_sortable hS h2) fun out h1 h2 => ⟨_, rfl, ?_⟩) (args_list_sort _)))
  obtain ⟨y1, y2, y3⟩ := texts_out hS h1 h2
  obtain ⟨c, hc⟩ := sortedHeap_at (vs := vs) (out := out.toArray) hL
  refine h _ s1.heap.objs.size out c _ (fun b u q => ?_) (Nat.le_refl _) hc y1 y2 y3
  have hb := Heap.lt_size q
  rw [sortedHeap_old (Nat.ne_of_lt hb) (by rw [size_push']; exact Nat.lt_succ_of_lt hb)]
  exact Heap.get?_push_of_some _ q
end
end Vs

set_option Elab.async false
set_option linter.all false
set_option maxRecDepth 100000
set_option maxHeartbeats 4000000
namespace Vs
open PySem PySem.Spec PyProof.Rows L2 SrtO
open PySem.Froz (SD sObj addTx tailTx sing TxOk)
/-! ### set(d), d a dict whose keys are texts -/
theorem above_go (n : Nat) (hn : n ≤ 8192) : ∀ fuel size, size ≤ 16384 → SetTable.sizeAbove.go n fuel size ≤ 16384
  | 0, size, h => by unfold SetTable.sizeAbove.go; exact h
  | fuel + 1, size, h => by
    unfold SetTable.sizeAbove.go
    split
    · exact above_go n hn fuel (size * 2) (by omega)
    · exact h
theorem above_le {n : Nat} (hn : n ≤ 8192) : SetTable.sizeAbove n ≤ 16384 := above_go n hn 64 8 (by decide)
theorem live_none (m : Nat) : (List.range (m + 1)).filterMap (fun j => ((Array.replicate (m + 1) (none : Option Nat)).getD j none).map (j, ·)) = [] := by
  refine List.filterMap_eq_nil_iff.mpr fun j _ => ?_
  have e : (Array.replicate (m + 1) (none : Option Nat)).getD j none = none := by
    rw [Array.getD_eq_getD_getElem?, Array.getElem?_replicate]
    split <;> rfl
  rw [e]
  rfl
theorem relaid_none (t : SetTable) (n : Nat) : ∃ t', t.relaid #[] n = some (t', #[]) ∧ t'.place = #[] ∧ t'.dummies = #[] ∧ t'.led = t.led := by
  refine ⟨{ mask := SetTable.sizeAbove n - 1, place := #[], dummies := #[], finger := t.finger, led := t.led, moves := t.movedTo (SetTable.sizeAbove n - 1), plain := t.plain }, ?_, rfl, rfl, rfl⟩
  have e : SetTable.layClean (SetTable.sizeAbove n - 1) #[] = some (Array.replicate (SetTable.sizeAbove n - 1 + 1) none) := rfl
  have l := live_none (SetTable.sizeAbove n - 1)
  unfold SetTable.relaid SetTable.laid
  rw [e]
  show some (({ mask := SetTable.sizeAbove n - 1, place := (((List.range (SetTable.sizeAbove n - 1 + 1)).filterMap (fun j => ((Array.replicate (SetTable.sizeAbove n - 1 + 1) (none : Option Nat)).getD j none).map (j, ·))).map Prod.fst).toArray, dummies := #[], finger := t.finger, led := t.led, moves := t.movedTo (SetTable.sizeAbove n - 1), plain := t.plain } : SetTable), (((List.range (SetTable.sizeAbove n - 1 + 1)).filterMap (fun j => ((Array.replicate (SetTable.sizeAbove n - 1 + 1) (none : Option Nat)).getD j none).map (j, ·))).map Prod.snd).toArray) = _
  rw [l]
  rfl
section
variable {P : Program} {w : World} {A : Around} {E : Value → Shared → Prop} {s : Shared}
theorem room_fresh {S : Addr} {n : Nat} {Q : Unit → Shared → Prop} (hS : s.heap.get? S = some (sObj "set" (emptyD w))) (hn : n ≤ 4000)
    (h : ∀ h' D, Heap.SameBut S s.heap h' → h'.get? S = some (sObj "set" D) → Tx P w D [] → Q () { s with heap := h' }) : wpAny (model P w) A (setRoomFor S n) Q E s := by
  have hd : (sObj "set" (emptyD w)).data = .set #[] 0 (.fresh 0 0 (!w.params.followText "set-order")) := rfl
  have keep : Q () s := h s.heap (emptyD w) (Heap.SameBut.refl _ _) hS tx_empty
  unfold setRoomFor
  refine wpAny_bind (wpAny_setState_of hS hd (by rfl) ?_)
  dsimp only
  unfold SetTable.roomFor
  by_cases c : ((SetTable.fresh 0 0 (!w.params.followText "set-order")).fill + n) * 5 ≥ (SetTable.fresh 0 0 (!w.params.followText "set-order")).mask * 3
  · rw [if_pos c]
    dsimp only
    generalize hw : ((SetTable.fresh 0 0 (!w.params.followText "set-order")).place.size + n) * 2 = wanted
    have hw2 : wanted ≤ 8192 := by
      have z : (SetTable.fresh 0 0 (!w.params.followText "set-order")).place.size = 0 := rfl
      rw [z] at hw
      omega
    obtain ⟨t', e, e1, e2, e3⟩ := relaid_none (SetTable.fresh 0 0 (!w.params.followText "set-order")) wanted
    rw [setRelay_eq]
    refine wpAny_bind (wpAny_setState_of hS hd (by rfl) ?_)
    dsimp only
    refine wp_if_neg (by have z := above_le hw2; rw [sizeLine_eq]; omega) ?_
    try refine wpAny_bind (wpAny_pure ?_)
    rw [show (#[] : Array (Int × Value)).map (·.1) = (#[] : Array Int) from by simp, e]
    dsimp only
    refine wpAny_bind ?_
    refine wp_if_neg (by simp) ?_
    try refine wpAny_bind (wpAny_pure ?_)
    refine wpAny_pure ?_
    dsimp only
    refine wpAny_storeSet_of hS hd ?_ (by simp)
    have sb : Heap.SameBut S s.heap (s.heap.update S (Obj.putSet ((#[] : Array Nat).filterMap ((#[] : Array (Int × Value))[·]?)) t')) := Heap.SameBut.update ..
    refine h _ (#[], 1, t') sb (store_at hS hd) ⟨TxOk.nil ?_, ?_, ?_, List.nodup_nil⟩
    · simp [SetTable.fits, SetTable.fill, e1, e2]
    · rw [e1]; exact List.Pairwise.nil
    · rw [e3]
      show _ ∨ (!w.params.followText "set-order") = true
      cases w.params.followText "set-order" <;> simp
  · rw [if_neg c]
    exact wpAny_pure keep
theorem sub_dict_set : isSubtype (.type "dict") (.type "set") = pure false := by rw [isSubtype_type]; kernel_rfl
theorem sub_dict_frozenset : isSubtype (.type "dict") (.type "frozenset") = pure false := by rw [isSubtype_type]; kernel_rfl
/-- the keys are put in, one by one -/
theorem call_set_dict {d : Addr} {vs : List (Key × Value)} {ks : List Str} {Q : Value → Shared → Prop} (hd : s.heap.DictOf (mixKind P w) d vs) (hds : (d == sysModules) = false) (hk : vs.map (·.1) = ks.map Sum.inr) (hl : ks.length ≤ 4000)
    (h : ∀ (s' : Shared) D l, (∀ b o, s.heap.get? b = some o → s'.heap.get? b = some o) → s'.gens = s.gens → s'.os = s.os → s'.heap.get? s.heap.objs.size = some (sObj "set" D) → Tx P w D l → (∀ k, k ∈ l ↔ k ∈ ks) → l.length = ks.length → Q (.ref s.heap.objs.size) s') :
    wpAny (model P w) A (call (.type "set") [.ref d]) Q E s := by
  refine set_by_init fun R hR => ?_
  obtain ⟨o, es, ep, ho, hc, hdat, hkeys, hpairs, hnd⟩ := id hd
  have hne : d ≠ s.heap.objs.size := Nat.ne_of_lt (Heap.lt_size ho)
  have hS : (s.heap.push (sObj "set" (emptyD w))).get? s.heap.objs.size = some (sObj "set" (emptyD w)) := Heap.get?_push_size _ rfl
  have ho1 : (s.heap.push (sObj "set" (emptyD w))).get? d = some o := Heap.get?_push_of_some _ ho
  have hold : ∀ b o, s.heap.get? b = some o → b ≠ s.heap.objs.size ∧ (s.heap.push (sObj "set" (emptyD w))).get? b = some o := fun b o e => ⟨Nat.ne_of_lt (Heap.lt_size e), Heap.get?_push_of_some _ e⟩
  have hty : Shared.TypeIs { s with heap := s.heap.push (sObj "set" (emptyD w)) } (.ref d) "dict" := ⟨o, ho1, hc.1⟩
  generalize s.heap.push (sObj "set" (emptyD w)) = h1 at hS ho1 hold hty ⊢
  have t1 := sub_dict_set
  have t2 := sub_dict_frozenset
  unfold Builtin.«set.__init__» noKeywords Builtin.Frozenset.updateFrom
  wp_walk
  rw [hdat]
  refine wpAny_pure ?_
  refine wpAny_bind (wpAny_dictEntries ho1 hdat ?_)
  have hlen : es.size = ks.length := by
    have e1 := hpairs.length
    have e2 := congrArg List.length hk
    rw [List.length_map, List.length_map] at e2
    rw [Array.length_toList] at e1
    omega
  have hksn : ks.Nodup := by
    have z := hnd
    rw [hk] at z
    exact (List.pairwise_map.mp z).imp fun {a b} q e => q (by rw [e])
  refine wpAny_bind (room_fresh hS (by rw [hlen]; exact hl) fun h2 D sb hS2 F => ?_)
  have ho2 : h2.get? d = some o := (sb.2 d hne).trans ho1
  refine wpAny_bind (wpAny_dictEntries ho2 hdat ?_)
  refine wpAny_bind ?_
  refine SeqAt.wpAny_forIn_span 0 es.size _ (fun i _ s' => ∃ h' D l, s' = { s with heap := h' } ∧ h'.get? s.heap.objs.size = some (sObj "set" D) ∧ Tx P w D l ∧ l.length = i ∧ (∀ k, k ∈ l ↔ k ∈ ks.take i) ∧ (∀ b o', b ≠ s.heap.objs.size → h1.get? b = some o' → h'.get? b = some o'))
    _ ?_ ?_ _ ⟨h2, D, [], rfl, hS2, F, rfl, (fun k => by simp), fun b o' n e => (sb.2 b n).trans e⟩
  · rintro i _ s' _ hi ⟨h', D1, l, rfl, g1, g2, g3, g4, g5⟩
    have ho3 := g5 d o hne ho1
    refine wpAny_bind (wpAny_dictEntries ho3 hdat ?_)
    rw [Array.getElem?_eq_getElem hi]
    have hik : i < ks.length := by omega
    obtain ⟨kv, hkv⟩ : ∃ kv, vs[i]? = some kv := by
      have e2 := congrArg List.length hk
      rw [List.length_map, List.length_map] at e2
      exact ⟨vs[i]'(by omega), List.getElem?_eq_getElem _⟩
    obtain ⟨kk, vv⟩ := kv
    obtain ⟨hkey, hval⟩ := hpairs.get? (e := es[i]) (by simp [hi]) hkv
    obtain ⟨k', hkey', hhash⟩ := hkeys es[i] (Array.getElem_mem hi)
    obtain rfl : k' = kk := (mixKind P w).inj _ _ _ hkey' hkey
    have ekk : k' = Sum.inr ks[i] := by
      have z := congrArg (fun l => l[i]?) hk
      simp only [List.getElem?_map, hkv, Option.map_some, List.getElem?_eq_getElem hik] at z
      exact Option.some.inj z
    subst ekk
    obtain ⟨tk, ev⟩ := Value.isStrOf_shape (x := ks[i]) (v := es[i].key) hkey
    show wpAny _ _ (holding [es[i].key] (setAddHashed s.heap.objs.size es[i].key es[i].hash) >>= _) _ _ _
    rw [hhash, ev]
    have hni : ks[i] ∉ l := fun z => by
      obtain ⟨j, hj, e⟩ := List.getElem_of_mem ((g4 _).mp z)
      rw [List.length_take] at hj
      rw [List.getElem_take] at e
      exact List.pairwise_iff_getElem.mp hksn j i (by omega) hik (by omega) e
    refine wpAny_bind (wpAny_holding (Froz.add_x (s := { s with heap := h' }) g1 g2.ok hni (by rw [g3]; exact Nat.lt_of_le_of_lt (show i + 1 ≤ 4000 by omega) (by decide)) ?_))
    have hS3 : (h'.update s.heap.objs.size (fun _ => sObj "set" (addTx (hashStr w ks[i]) (.str ks[i] tk) D1))).get? s.heap.objs.size = some (sObj "set" (addTx (hashStr w ks[i]) (.str ks[i] tk) D1)) := Froz.get_upd _ g1 rfl
    have other : ∀ b o', b ≠ s.heap.objs.size → h'.get? b = some o' → (h'.update s.heap.objs.size (fun _ => sObj "set" (addTx (hashStr w ks[i]) (.str ks[i] tk) D1))).get? b = some o' := fun b o' n e => (Heap.get?_update_other _ _ (Ne.symm n)).trans e
    refine wpAny_bind (wpAny_dictEpoch (other d o hne ho3) hdat ?_)
    rw [if_neg (by simp)]
    refine wpAny_pure ⟨_, _, ks[i] :: l, rfl, hS3, g2.add tk hni, (by rw [List.length_cons, g3]), fun k => ?_, fun b o' n e => other b o' n (g5 b o' n e)⟩
    rw [List.take_add_one, List.getElem?_eq_getElem hik, List.mem_append, List.mem_cons, g4 k]
    simp [Or.comm]
  · rintro _ s' ⟨h', D1, l, rfl, g1, g2, g3, g4, g5⟩
    have em : max 0 es.size = ks.length := by rw [hlen]; exact Nat.max_eq_right (Nat.zero_le _)
    rw [em] at g3 g4
    rw [List.take_length] at g4
    exact wpAny_pure (wpAny_pure (hR _ (h { s with heap := h' } D1 l (fun b o' e => g5 b o' (hold b o' e).1 (hold b o' e).2) rfl rfl g1 g2 g4 g3)))
end
end Vs

set_option Elab.async false
set_option linter.all false
set_option maxRecDepth 100000
set_option maxHeartbeats 4000000
namespace Vm
open PySem PySem.Spec PyProof.Rows L2 L2.Vx
/-! ### words as texts; dicts whose keys are words -/
def mkS (l : Wd) : Str := ⟨l.toArray⟩
theorem mkS_cps (l : Wd) : (mkS l).cps.toList = l := by simp [mkS]
theorem mkS_of (z : Str) : mkS z.cps.toList = z := by obtain ⟨⟨l⟩⟩ := z; rfl
theorem mkS_inj {a b : Wd} (h : mkS a = mkS b) : a = b := by rw [← mkS_cps a, h, mkS_cps]
theorem mkS_length (l : Wd) : (mkS l).length = l.length := by
  show l.toArray.size = _
  simp
abbrev kS (p : Wd) : Key := Sum.inr (mkS p)
theorem kS_iff {a b : Wd} : kS a = kS b ↔ a = b := ⟨fun h => mkS_inj (Sum.inr.inj h), fun h => by rw [h]⟩
def entK (f : Wd → V) (ks : List Wd) : List (Key × V) := ks.map fun k => (kS k, f k)
theorem entK_length (f : Wd → V) (ks : List Wd) : (entK f ks).length = ks.length := List.length_map _
theorem entK_keys (f : Wd → V) (ks : List Wd) : (entK f ks).map (·.1) = (ks.map mkS).map Sum.inr := by
  unfold entK
  rw [List.map_map, List.map_map]
  rfl
theorem entK_congr {f g : Wd → V} {ks : List Wd} (h : ∀ p ∈ ks, f p = g p) : entK f ks = entK g ks := List.map_congr_left fun p hp => by rw [h p hp]
theorem valV_ent (f : Wd → V) (p : Wd) : ∀ ks : List Wd, valV (entK f ks) (kS p) = if p ∈ ks then some (f p) else none
  | [] => by simp [entK, valV_nil]
  | q :: r => by
    show valV ((kS q, f q) :: entK f r) (kS p) = _
    by_cases e : q = p
    · subst e
      rw [valV_pos (p := (kS q, f q)) rfl, if_pos (List.mem_cons_self ..)]
    · rw [valV_neg (p := (kS q, f q)) (fun z => e (kS_iff.mp z)), valV_ent f p r]
      have e' : ¬ p = q := fun z => e z.symm
      simp only [List.mem_cons, e', false_or]
theorem get_ent {H : Hp} {d : Addr} {f : Wd → V} {ks : List Wd} {p : Wd} (e : H d = some (.dK (entK f ks))) (h : p ∈ ks) : DGet H d (.str (mkS p)) (some (f p)) := by
  have z := DGet.k (k := kS p) e
  rw [valV_ent, if_pos h] at z
  exact z
theorem getD_ent {f : Wd → V} {ks : List Wd} {p : Wd} {v : V} (h : p ∉ ks → f p = v) : (valV (entK f ks) (kS p)).getD v = f p := by
  rw [valV_ent]
  split
  · rfl
  · rename_i c
    exact (h c).symm
/-- f, but v at p -/
def at' (f : Wd → V) (p : Wd) (v : V) : Wd → V := fun q => if q = p then v else f q
/-- p behind the others, if it is new -/
def more (ks : List Wd) (p : Wd) : List Wd := if p ∈ ks then ks else ks ++ [p]
theorem putK_ent (f : Wd → V) (p : Wd) (v : V) (ks : List Wd) : putK (entK f ks) (kS p) v = entK (at' f p v) (more ks p) := by
  have e := valV_ent f p ks
  unfold more
  by_cases h : p ∈ ks
  · rw [if_pos h]
    rw [if_pos h] at e
    unfold putK
    rw [valV_any, e, if_pos (show (some (f p)).isSome = true from rfl)]
    unfold entK
    rw [List.map_map]
    refine List.map_congr_left fun q _ => ?_
    show (if kS q = kS p then (kS q, v) else (kS q, f q)) = (kS q, if q = p then v else f q)
    by_cases c : q = p
    · rw [if_pos (kS_iff.mpr c), if_pos c]
    · rw [if_neg (fun z => c (kS_iff.mp z)), if_neg c]
  · rw [if_neg h]
    rw [if_neg h] at e
    rw [putK_new _ e]
    unfold entK
    rw [List.map_append]
    refine congr (congrArg _ (List.map_congr_left fun q hq => ?_)) ?_
    · have c : ¬ q = p := fun z => h (z ▸ hq)
      show (kS q, f q) = (kS q, if q = p then v else f q)
      rw [if_neg c]
    · show [(kS p, v)] = [(kS p, if p = p then v else f p)]
      rw [if_pos rfl]
theorem more_nodup {ks : List Wd} (h : ks.Nodup) (p : Wd) : (more ks p).Nodup := by
  unfold more
  split
  · exact h
  · rename_i c
    refine List.nodup_append.mpr ⟨h, List.nodup_cons.mpr ⟨by simp, List.nodup_nil⟩, fun a ha b hb e => ?_⟩
    rw [List.mem_singleton.mp hb] at e
    exact c (e ▸ ha)
theorem mem_more {ks : List Wd} {p q : Wd} : q ∈ more ks p ↔ q ∈ ks ∨ q = p := by
  unfold more
  split
  · rename_i c
    exact ⟨.inl, fun h => h.elim id fun e => e ▸ c⟩
  · simp
theorem more_length (ks : List Wd) (p : Wd) : (more ks p).length ≤ ks.length + 1 := by
  unfold more
  split <;> simp
/-- the sorted texts of such keys -/
theorem sorted_is {ks : List Wd} {ys : List Str} (p : ys.Perm (ks.map mkS)) (u : SrtO.UpS ys) (d : ks.Nodup) : ys = (asc ks).map mkS := by
  have p2 : (ys.map fun y => y.cps.toList).Perm ks := by
    have z := p.map fun y : Str => y.cps.toList
    rw [List.map_map] at z
    have e : (fun y : Str => y.cps.toList) ∘ mkS = id := funext mkS_cps
    rw [e, List.map_id] at z
    exact z
  have u2 : (ys.map fun y => y.cps.toList).Pairwise (fun x y => ¬ y < x) := List.pairwise_map.mpr u
  have u3 := up_of_le u2 (p2.nodup_iff.mpr d)
  have e := up_uniq u3 (up_asc ks) fun x => by rw [mem_asc]; exact p2.mem_iff
  rw [← e, List.map_map]
  have e2 : mkS ∘ (fun y : Str => y.cps.toList) = id := funext mkS_of
  rw [e2, List.map_id]
/-! ### pairs of a word and a number, as data -/
abbrev pairD (f : Wd → Int) (p : Wd) : PyData := .tuple [.str (mkS p), .int (f p)]
def pairsD (f : Wd → Int) (l : List Wd) : PyData := .tuple (l.map (pairD f))
theorem dtAll_snoc {H : Hp} {S : Addr → Prop} {D t : Addr} {vs ws : List V} {ds : List PyData} {d : PyData} {o : HO} (h : DtAll H S vs ds) (hS : ∀ a, S a → a ≠ D) (ht : H t = none) (st : S t) (e : Dt (upd (upd H t (.tup ws)) D o) S (.ref t) d) :
    DtAll (upd (upd H t (.tup ws)) D o) S (vs ++ [.ref t]) (ds ++ [d]) := by
  refine DtAll.append (h.mono (fun a u sa hu => ?_) fun _ _ s _ => s) (.cons e .nil)
  rw [upd_ne (hS a sa), upd_ne (ne_of_none hu ht)]
  exact hu
end Vm

set_option Elab.async false
set_option linter.all false
set_option maxRecDepth 100000
set_option maxHeartbeats 4000000
namespace Vs
open PySem PySem.Spec PyProof.Rows L2 SrtO Vm
open PySem.Froz (SD sObj addTx tailTx sing TxOk)
section
variable {P : Program} {w : World} {A : Around} {E : Value → Shared → Prop} {s : Shared}
theorem mkS_nodup {ks : List Wd} (h : ks.Nodup) : (ks.map mkS).Nodup := List.Pairwise.map mkS (fun a b n e => n (mkS_inj e)) h
/-- sorted(set of texts), any number of them -/
theorem sorted_set_any {a : Addr} {D : SD} {l : List Str} {Q : Value → Shared → Prop} (ho : s.heap.get? a = some (sObj "set" D)) (F : Tx P w D l) (hh : A.handled = none) (hl : l.length < scanBound)
    (h : ∀ (s' : Shared) p (out : List Value) (c : Nat) (ys : List Str), (∀ b o, s.heap.get? b = some o → s'.heap.get? b = some o) → s'.gens = s.gens → s'.os = s.os → s.heap.objs.size ≤ p →
      s'.heap.get? p = some (seqObj "list" out.toArray c) → StrsAre out ys → ys.Perm l → UpS ys → Q (.ref p) s') :
    wpAny (model P w) A (call (.builtin "sorted") [.ref a]) Q E s := by
  obtain ⟨v1, v2⟩ := F.vals
  have hsz : D.1.size = l.length := F.ok.sz
  refine Calls.call_function_entry kind_sorted plain_sorted entry_sorted (args_sorted1 _) ?_
  unfold Builtin.«sorted»
  refine wpAny_bind (m := checkCount "sorted" 1 1 _) (wpAny_pure ?_)
  refine wpAny_bind (collect_set (A := A.in1) (es := D.1) (ep := D.2.1) (t := D.2.2) hh ⟨_, ho, rfl, rfl⟩ F.ok.fit (by rw [hsz]; exact hl) F.ris F.led fun s1 vs k1 z1 g1 o1 pm => ?_)
  have len : vs.length = l.length := by rw [pm.length_eq, List.length_map, Array.length_toList, hsz]
  have hS : StrsAre vs (vs.map strOf) := strs_of vs fun v hv => by
    obtain ⟨e, he, rfl⟩ := List.mem_map.mp (pm.mem_iff.mp hv)
    obtain ⟨k, tk, q, _⟩ := v1 e he
    exact ⟨k, tk, q⟩
  have pl : (vs.map strOf).Perm l := (pm.map strOf).trans (by rw [List.map_map]; exact v2)
  have hz : vs.length ≤ sizeLine := by
    rw [len, sizeLine_eq]
    exact Nat.le_trans (Nat.le_of_lt hl) (by decide)
  refine sort_collected hS hz fun h' p out c ys k2 hp hc y1 y2 y3 => ?_
  exact wpAny_pure ⟨_, rfl, h _ p out c ys (fun b u e => k2 b u (k1 b u e)) g1 o1 (Nat.le_trans z1 hp) hc y1 (y2.trans pl) y3⟩
end
section
variable {X : Cx}
/-- set(d) -/
theorem cr_setDict (hc : X.calm = true) : CallR X (.type "set") (fun xs H Q => ∃ (a : Addr) (f : Wd → V) (ks : List Wd), xs = [.ref a] ∧ Rd H a (.dK (entK f ks)) ∧ ks.Nodup ∧ ks.length ≤ 4000 ∧ ∀ p l, H p = none → l.Perm (ks.map mkS) → Q (.ref p) (upd H p (SetTxO X.prog X.w p l))) := by
  intro pins s σ H vs us Q I r h
  obtain ⟨a, f, ks, rfl, ha, nd, hl, q⟩ := h
  rw [Vals.ref1 r]
  obtain ⟨z, lo, ws, rel, dd⟩ := dk_rd I.hok ha
  have hkeys : ws.map (·.1) = (ks.map mkS).map Sum.inr := rel.keys.symm.trans (entK_keys f ks)
  refine call_set_dict dd lo hkeys (by rw [List.length_map]; exact hl) fun s' D l k g o hS F hm hn => ?_
  exact laid_new I k g o (Nat.le_refl _) (setTxO_new ⟨D, hS, F⟩) fun hn' => q _ l hn' ((perm_same (ks.map mkS) l (mkS_nodup nd) (fun k hk => (hm k).mpr hk) (Nat.le_of_eq hn)))
/-- sorted(set of texts) -/
theorem cr_sortedTxK (hc : X.calm = true) : CallR X (.builtin "sorted") (fun xs H Q => ∃ (a : Addr) (l : List Str) (ks : List Wd), xs = [.ref a] ∧ H a = some (SetTxO X.prog X.w a l) ∧ l.Perm (ks.map mkS) ∧ ks.Nodup ∧ ks.length ≤ 4000 ∧
    ∀ p, H p = none → Q (.ref p) (upd H p (.lst (((asc ks).map mkS).map .str)))) := by
  intro pins s σ H vs us Q I r h
  obtain ⟨a, l, ks, rfl, ha, pl, nd, hl, q⟩ := h
  rw [Vals.ref1 r]
  obtain ⟨D, hS, F⟩ : SetTx X.prog X.w s.heap a l := (I.hok a _ ha).1
  have ll : l.length = ks.length := by rw [pl.length_eq, List.length_map]
  refine sorted_set_any hS F (I.ok.hd hc) (by rw [ll]; exact Nat.lt_of_le_of_lt hl (by decide)) fun s' p out c ys k g o hp hg hv pm so => ?_
  have e := sorted_is (pm.trans pl) so nd
  have len : (ys.map V.str).length ≤ sizeLine := by
    rw [List.length_map, pm.length_eq, ll, sizeLine_eq]
    omega
  have new : ObjOk X.prog X.w (upd H p (.lst (ys.map V.str))) s'.heap p (.lst (ys.map .str)) := ⟨len, out, c, vals_of_strs hv, hg⟩
  refine laid_new I k g o hp new fun hn => ?_
  rw [e]
  exact q p hn
theorem cr_setDictAt {P : Program} {w : World} (hc : X.calm = true) (eP : X.prog = P) (ew : X.w = w) : CallR X (.type "set") (fun xs H Q => ∃ (a : Addr) (f : Wd → V) (ks : List Wd), xs = [.ref a] ∧ Rd H a (.dK (entK f ks)) ∧ ks.Nodup ∧ ks.length ≤ 4000 ∧ ∀ p l, H p = none → l.Perm (ks.map mkS) → Q (.ref p) (upd H p (SetTxO P w p l))) := by
  subst eP
  subst ew
  exact cr_setDict hc
theorem cr_sortedTxAt {P : Program} {w : World} (hc : X.calm = true) (eP : X.prog = P) (ew : X.w = w) : CallR X (.builtin "sorted") (fun xs H Q => ∃ (a : Addr) (l : List Str) (ks : List Wd), xs = [.ref a] ∧ H a = some (SetTxO P w a l) ∧ l.Perm (ks.map mkS) ∧ ks.Nodup ∧ ks.length ≤ 4000 ∧
    ∀ p, H p = none → Q (.ref p) (upd H p (.lst (((asc ks).map mkS).map .str)))) := by
  subst eP
  subst ew
  exact cr_sortedTxK hc
/-- sorted(d), the keys texts -/
theorem cr_sortedDK (hc : X.calm = true) : CallR X (.builtin "sorted") (fun xs H Q => ∃ (a : Addr) (f : Wd → V) (ks : List Wd), xs = [.ref a] ∧ Rd H a (.dK (entK f ks)) ∧ ks.Nodup ∧ ks.length ≤ 4000 ∧
    ∀ p, H p = none → Q (.ref p) (upd H p (.lst (((asc ks).map mkS).map .str)))) := by
  intro pins s σ H xs us Q I r q
  obtain ⟨a, f, kl, ex, hd, nd, hl4, q⟩ := q
  subst ex
  rw [Vals.ref1 r]
  obtain ⟨z, lo, vs, rel, dd⟩ := dk_rd I.hok hd
  obtain ⟨ep, hat⟩ := dd.dictAt
  generalize hkk : kl.map mkS = ks
  have hkeys : vs.map (·.1) = ks.map Sum.inr := by rw [← hkk]; exact rel.keys.symm.trans (entK_keys f kl)
  have hl : vs.length = ks.length := by
    have e := congrArg List.length hkeys
    rw [List.length_map, List.length_map] at e
    exact e
  have hl5 : ks.length ≤ 4000 := by rw [← hkk, List.length_map]; exact hl4
  have h16 : vs.length ≤ sizeLine := by rw [hl, sizeLine_eq]; omega
  refine Calls.call_function_entry PyProof.Rows.kind_sorted PyProof.Rows.plain_sorted PyProof.Rows.entry_sorted (PyProof.Rows.args_sorted1 _) ?_
  unfold Builtin.«sorted»
  refine wpAny_bind (m := checkCount "sorted" 1 1 _) (wpAny_pure ?_)
  refine wpAny_bind (PySem.W.kdu_collect (A := X.A.in1) (PySem.W.kdl_dict (knd := mixKind X.prog X.w) (kvs := vs) (ep := ep) lo) (I.ok.hd hc) hat h16 fun h' tk acc hk hacc => ?_)
  have hal : acc.toList.length = ks.length := by rw [Array.length_toList, hacc.1, hl]
  have hS : StrsAre acc.toList ks := strs_at hal fun j v e => by
    obtain ⟨k, x, e1, e2⟩ := hacc.2 j v (by rw [← Array.getElem?_toList]; exact e)
    have e3 : (vs.map (·.1))[j]? = some k := by rw [List.getElem?_map, e1]; all_goals rfl
    rw [hkeys, List.getElem?_map] at e3
    cases e4 : ks[j]? with
    | none => rw [e4] at e3; cases e3
    | some y =>
      rw [e4] at e3
      have e5 : Sum.inr y = k := Option.some.inj e3
      subst e5
      obtain ⟨t, ev⟩ := Value.isStrOf_shape (x := y) (v := v) e2
      exact ⟨y, t, rfl, ev⟩
  have I1 : Inv X pins σ H { s with heap := h', toks := tk } := I.kept hk
  have hz : acc.toList.length ≤ sizeLine := by rw [hal, sizeLine_eq]; omega
  refine sort_collected (s1 := { s with heap := h', toks := tk }) hS hz fun h2 p out c ys k2 hp hc2 y1 y2 y3 => ?_
  have e := sorted_is (by rw [hkk]; exact y2) y3 nd
  have len : (ys.map V.str).length ≤ sizeLine := by
    rw [List.length_map, y2.length_eq, sizeLine_eq]
    omega
  have new : ObjOk X.prog X.w (upd H p (.lst (ys.map V.str))) h2 p (.lst (ys.map .str)) := ⟨len, out, c, vals_of_strs y1, hc2⟩
  refine wpAny_pure ⟨_, rfl, laid_new (s' := { s with heap := h2, toks := tk }) I1 k2 rfl rfl hp new fun hn => ?_⟩
  rw [e]
  exact q p hn
end
end Vs

set_option Elab.async false
set_option linter.all false
set_option maxRecDepth 100000
set_option maxHeartbeats 4000000
namespace Vm
open PySem PySem.Spec PyProof.Rows L2 L2.Vx
/-! ### texts: joined signs, so many times, slices, find -/
theorem glue0 : ∀ (l : List Str) (a : Array Nat), (l.foldl (fun acc p => acc ++ (#[] : Array Nat) ++ p.cps) a).toList = a.toList ++ l.flatMap (fun p => p.cps.toList)
  | [], a => by simp
  | p :: r, a => by
    rw [List.foldl_cons, glue0 r]
    simp
theorem join_cps (ys : List Str) : (PySem.Txt.join "" ys).cps.toList = ys.flatMap fun y => y.cps.toList := by
  show ((ys.drop 1).foldl (fun acc p => acc ++ (#[] : Array Nat) ++ p.cps) (ys.headD Str.empty).cps).toList = _
  rw [glue0]
  cases ys with
  | nil => rfl
  | cons y r => simp
theorem join_signs (us : Wd) : PySem.Txt.join "" (us.map fun c => mkS [c]) = mkS us := by
  rw [← mkS_of (PySem.Txt.join "" (us.map fun c => mkS [c])), join_cps]
  congr 1
  induction us with
  | nil => rfl
  | cons c r ih =>
    rw [List.map_cons, List.flatMap_cons, ih]
    rfl
theorem sum_signs : ∀ us : Wd, ((us.map fun c => mkS [c]).map (·.length)).sum = us.length
  | [] => rfl
  | c :: r => by
    rw [List.map_cons, List.map_cons, List.sum_cons, sum_signs r, List.length_cons]
    show 1 + r.length = _
    omega
theorem fold_rep (x : Array Nat) : ∀ (n : Nat) (a : Array Nat), ((List.replicate n x).foldl (· ++ ·) a).toList = a.toList ++ (List.replicate n x.toList).flatten
  | 0, a => by simp
  | n + 1, a => by
    rw [List.replicate_succ, List.foldl_cons, fold_rep x n, List.replicate_succ, List.flatten_cons]
    simp
/-- a word so many times -/
def times (n : Nat) (z : Wd) : Wd := (List.replicate n z).flatten
theorem times_length (n : Nat) (z : Wd) : (times n z).length = n * z.length := by
  unfold times
  rw [List.length_flatten, List.map_replicate, List.sum_replicate_nat]
theorem times_mem {n : Nat} {z : Wd} {c : Nat} (h : c ∈ times n z) : c ∈ z := by
  obtain ⟨l, hl, hc⟩ := List.mem_flatten.mp h
  rw [List.eq_of_mem_replicate hl] at hc
  exact hc
theorem mul_times (z : Wd) (n : Nat) : PySem.Txt.mul (mkS z) (n : Int) = mkS (times n z) := by
  unfold PySem.Txt.mul
  by_cases h0 : (n : Int) < 1
  · rw [if_pos h0]
    obtain rfl : n = 0 := by omega
    rfl
  · rw [if_neg h0]
    by_cases h1 : ((n : Int) == 1 || (mkS z).length == 0) = true
    · rw [if_pos h1]
      rcases Bool.or_eq_true_iff.mp h1 with e | e
      · obtain rfl : n = 1 := by
          have := eq_of_beq e
          omega
        simp [times]
      · have e2 : z.length = 0 := by
          have := eq_of_beq e
          rw [mkS_length] at this
          exact this
        obtain rfl : z = [] := List.length_eq_zero_iff.mp e2
        have e3 : times n [] = [] := List.length_eq_zero_iff.mp (by rw [times_length]; simp)
        rw [e3]
    · rw [if_neg h1]
      have e : (n : Int).toNat = n := by omega
      rw [e, ← mkS_of (⟨_⟩ : Str)]
      congr 1
      show ((List.replicate n (mkS z).cps).foldl (· ++ ·) #[]).toList = _
      rw [fold_rep, mkS_cps]
      rfl
theorem mulOk_of {z : Wd} {n : Nat} (h1 : z.length ≤ 4000) (h2 : n ≤ 4000) : MulOk (mkS z) (n : Int) := by
  unfold MulOk
  rw [mkS_length]
  have e : (n : Int).toNat = n := by omega
  rw [e]
  refine ⟨?_, fun h3 _ h5 => ?_, fun _ _ => ?_⟩
  · have a1 : ¬ (n : Int) < -(2 ^ 63 : Int) := by omega
    have a2 : ¬ (n : Int) ≥ 2 ^ 63 := by omega
    rw [decide_eq_false a1, decide_eq_false a2]
    rfl
  · have : (4000 : Int) ≤ (2 ^ 63 - 1) / n := by
      rw [Int.le_ediv_iff_mul_le (by omega)]
      omega
    omega
  · have : z.length * n ≤ 4000 * 4000 := Nat.mul_le_mul h1 h2
    unfold Builtin.Str.tooLong
    rw [decide_eq_false]
    rw [sizeLine_eq]
    omega
theorem cut_head {z : Wd} (n : Nat) : cutS (mkS z) none (some (n : Int)) = mkS (z.take n) := by
  unfold cutS
  rw [mkS_length, mkS_cps]
  have e1 : HT.sIx z.length 0 none = 0 := rfl
  have e2 : HT.sIx z.length z.length (some (n : Int)) = min n z.length := HT.sIx_nat _ _ n
  rw [e1, e2, List.drop_zero, Nat.sub_zero]
  show mkS (z.take (min n z.length)) = _
  congr 1
  rw [List.take_eq_take_iff]
  omega
/-- find from a place on -/
theorem at_win {k : Nat} {z p : Wd} (hp : p.length = k) (i : Nat) : StrLaws.At (mkS z) (mkS p) (mkS z).length i ↔ i < z.length + 1 - k ∧ win k z i = p := by
  unfold StrLaws.At
  rw [StrLaws.subAt_eq, mkS_length, mkS_length, mkS_cps, mkS_cps, hp, beq_iff_eq]
  constructor
  · rintro ⟨h1, h2⟩
    exact ⟨by omega, h2⟩
  · rintro ⟨h1, h2⟩
    exact ⟨by omega, h2⟩
theorem find3_win {k j : Nat} {z p : Wd} (hp : p.length = k) (hj : j ≤ z.length) :
    (PySem.Txt.find3 (mkS z) (mkS p) (j : Int) = -1 ∧ ∀ i, j ≤ i → i < z.length + 1 - k → win k z i ≠ p) ∨
    ∃ i : Nat, PySem.Txt.find3 (mkS z) (mkS p) (j : Int) = (i : Int) ∧ j ≤ i ∧ i < z.length + 1 - k ∧ win k z i = p ∧ ∀ i', j ≤ i' → i' < i → i' < z.length + 1 - k → win k z i' ≠ p := by
  have ef : fromIndex (mkS z).length (j : Int) = j := by
    rw [mkS_length]
    simp [fromIndex]
    try omega
  unfold PySem.Txt.find3
  rw [ef]
  rcases StrLaws.occ_head_from (mkS z) (mkS p) j 1 (Nat.le_refl 1) with ⟨h0, hn⟩ | ⟨i, r, h0, hlo, hk, hn⟩
  · rw [h0]
    exact .inl ⟨rfl, fun i h1 h2 e => hn i h1 ((at_win hp i).mpr ⟨h2, e⟩)⟩
  · rw [h0]
    obtain ⟨h2, e⟩ := (at_win hp i).mp hk
    exact .inr ⟨i, rfl, hlo, h2, e, fun i' h3 h4 h5 e' => hn i' h3 h4 ((at_win hp i').mpr ⟨h5, e'⟩)⟩
theorem find_win {k : Nat} {z p : Wd} (hp : p.length = k) :
    (PySem.Txt.find (mkS z) (mkS p) = -1 ∧ ∀ i, 0 ≤ i → i < z.length + 1 - k → win k z i ≠ p) ∨
    ∃ i : Nat, PySem.Txt.find (mkS z) (mkS p) = (i : Int) ∧ 0 ≤ i ∧ i < z.length + 1 - k ∧ win k z i = p ∧ ∀ i', 0 ≤ i' → i' < i → i' < z.length + 1 - k → win k z i' ≠ p := by
  rw [find_is_find3]
  exact find3_win (j := 0) hp (Nat.zero_le _)
/-- what the search has found so far -/
def Seen (k : Nat) (z p : Wd) (found at_ : Int) : Prop := (at_ = -1 ∧ found = (often k z p : Nat)) ∨ ∃ i : Nat, at_ = (i : Int) ∧ i < z.length + 1 - k ∧ win k z i = p ∧ found = (upto k z p i : Nat)
theorem seen_start {k : Nat} {z p : Wd} (hp : p.length = k) : Seen k z p 0 (PySem.Txt.find (mkS z) (mkS p)) := by
  have e0 : upto k z p 0 = 0 := rfl
  rcases find_win (z := z) hp with ⟨h, hn⟩ | ⟨i, h, _, h1, h2, h3⟩
  · refine .inl ⟨h, ?_⟩
    have e := upto_none (Nat.zero_le (z.length + 1 - k)) fun i a b c => hn i a c
    rw [upto_all (Nat.le_refl _), e0] at e
    rw [e]
    rfl
  · refine .inr ⟨i, h, h1, h2, ?_⟩
    rw [upto_none (Nat.zero_le i) h3, e0]
    rfl
theorem seen_next {k i : Nat} {z p : Wd} (hp : p.length = k) (hk : 1 ≤ k) (h1 : i < z.length + 1 - k) (h2 : win k z i = p) : Seen k z p ((upto k z p i : Nat) + 1) (PySem.Txt.find3 (mkS z) (mkS p) ((i : Int) + 1)) := by
  have e0 := upto_hit h1 h2
  have ej : ((i : Int) + 1) = ((i + 1 : Nat) : Int) := by omega
  rw [ej]
  rcases find3_win (z := z) (j := i + 1) hp (by omega) with ⟨h, hn⟩ | ⟨j, h, h0, h3, h4, h5⟩
  · refine .inl ⟨h, ?_⟩
    have e := upto_none (k := k) (z := z) (p := p) (a := i + 1) (b := z.length + 1 - k) (by omega) fun i' a b c => hn i' a c
    rw [upto_all (Nat.le_refl _), e0] at e
    rw [e]
    omega
  · refine .inr ⟨j, h, h3, h4, ?_⟩
    rw [upto_none h0 h5, e0]
    omega
end Vm

set_option Elab.async false
set_option linter.all false
set_option maxRecDepth 100000
set_option maxHeartbeats 4000000
namespace Vf
open PySem PySem.Spec PyProof.Rows L2 L2.Vx Vs
/-! ### calls by keyword alone; a text so many times -/
section
variable {X : Cx} {CX : CXT} {k : Nat} {f : Addr} {fd : FuncData} {ps ks : List Str} {sp : Sp} {E : XK} {x : Str} {p pos : Pos} {kws : List Keyword} {tk : TA} {g : List Value → List Value → List Value} {gV : List V → List V → List V}
def tCallK0 (sp : Sp) (gV : List V → List V → List V) (E : XK) (tk : TA) : TE := fun σ H Q => tk σ H fun zs H2 => sp (gV [] zs) H2 Q E
theorem pe_callK0 (F : FnOk X.prog X.w X.K X.mg X.base CX k f fd ps sp) (hr : Room k X.A) (hm : X.mg x = some (.ref f)) (hk : PySem.W.keepIn X.K (.ref f) = true) (hb : KBinds X.K fd ps ks g gV) (hx : Passes CX X E) (hkw : PK X kws tk)
    (hg : Gl X x := by rfl) (hall : (backToKw pos (keywordEach kws X.env)).all (·.1.isSome) = true := by rfl) (hks : (backToKw pos (keywordEach kws X.env)).filterMap (·.1) = ks := by rfl) (hdb : (x == ("__debug__" : Str)) = false := by decide)
    (hpl : ((backTo pos (starEach [] X.env)).any (·.1) || (backToKw pos (keywordEach kws X.env)).any (·.1.isNone)) = false := by rfl) : PE X (.Call (.Name x p) [] kws pos) (tCallK0 sp gV E tk) := by
  refine ⟨fun pins s σ H Q I h => ?_⟩
  refine wpAny_Call_Name_kw (ld_glob I hg hm ?_ hdb)
  refine PySem.W.callWith_KW0 (h₀ := X.base) I.ok.mod.kin hk hall (thn (hkw.run pos pins s σ H _ I h) fun ws s2 ⟨zs, H2, I2, rz, q2⟩ => ⟨I2.kIn, ?_⟩) hpl
  rw [hks]
  exact run_fnk F hr hb hx I2 .nil rz q2
theorem op_mul_str : OpR X (binaryOp .Mult) (fun x y H Q => ∃ a n, x = .str a ∧ y = .int n ∧ MulOk a n ∧ Q (.str (PySem.Txt.mul a n)) H) := by
  intro pins s σ H x y v u Q I rx ry h
  obtain ⟨a, n, rfl, rfl, ok, q⟩ := h
  obtain ⟨t, rfl⟩ := rx
  obtain ⟨t', rfl⟩ := ry
  exact SB.mul ok fun t' k => ⟨.str _, H, I.tok _, ⟨_, rfl⟩, q⟩
end
/-- by name, the last one first -/
def gRev {α : Type} : List α → List α → List α
  | [], ws => ws.reverse
  | _ :: _, _ => []
theorem vals_rev {vs : List V} {us : List Value} (r : Vals vs us) : Vals vs.reverse us.reverse := by
  induction r with
  | nil => exact .nil
  | cons h t ih =>
    rw [List.reverse_cons, List.reverse_cons]
    have app : ∀ {as : List V} {bs : List Value} {cs : List V} {ds : List Value}, Vals as bs → Vals cs ds → Vals (as ++ cs) (bs ++ ds) := by
      intro as bs cs ds a b
      induction a with
      | nil => exact b
      | cons h _ ih => exact .cons h ih
    exact app ih (.cons h .nil)
theorem gRev_vals {v1 v2 : List V} {u1 u2 : List Value} (r1 : Vals v1 u1) (r2 : Vals v2 u2) : Vals (gRev v1 v2) (gRev u1 u2) := by
  cases r1 with
  | nil => exact vals_rev r2
  | cons _ _ => exact .nil
end Vf

set_option Elab.async false
set_option linter.all false
set_option maxRecDepth 100000
set_option maxHeartbeats 4000000
namespace Vm
open PySem PySem.Spec PyProof.Rows L2 L2.Vx
/-! ### data that can be shown, and how long that is -/
structure Fit (b e : Nat) (D : PyData) : Prop where
  sh : D.showable = true
  len : D.shown.length ≤ b
  dep : D.depth ≤ e
theorem Fit.le {b e b' e' : Nat} {D : PyData} (h : Fit b e D) (h1 : b ≤ b') (h2 : e ≤ e') : Fit b' e' D := ⟨h.sh, Nat.le_trans h.len h1, Nat.le_trans h.dep h2⟩
theorem fit_str {z : Wd} {n : Nat} (h : ∀ c ∈ z, c < 1000) (hn : z.length ≤ n) : Fit (10 * n + 2) 0 (.str (mkS z)) := by
  refine ⟨rfl, ?_, by simp [PyData.depth]⟩
  show (PySem.reprText (mkS z)).length ≤ _
  have q := StrLaws.reprText_len (mkS z) fun c hc => by
    rw [mkS_cps] at hc
    exact Nat.lt_trans (h c hc) (by decide)
  rw [mkS_length] at q
  omega
theorem fit_int {n : Int} (h0 : 0 ≤ n) (h1 : n < 10 ^ 10) : Fit 10 0 (.int n) := by
  refine ⟨?_, ?_, by simp [PyData.depth]⟩
  · show decide (n.natAbs.log2 < 1920) = true
    refine decide_eq_true ?_
    have a : n.natAbs < 2 ^ 40 := Nat.lt_of_lt_of_le (show n.natAbs < 10 ^ 10 by omega) (by decide)
    by_cases c : n.natAbs = 0
    · rw [c]; decide
    · exact Nat.lt_trans ((Nat.log2_lt c).mpr a) (by decide)
  · exact toString_length_le h0 (by decide) h1
theorem fit_all {b e : Nat} : ∀ {ds : List PyData}, (∀ x ∈ ds, Fit b e x) → PyData.showableAll ds = true ∧ ((PyData.shownAll ds).map (·.length)).sum ≤ ds.length * b ∧ (PyData.shownAll ds).length = ds.length ∧ PyData.depthAll ds ≤ e
  | [], _ => ⟨rfl, by simp [PyData.shownAll], rfl, Nat.zero_le _⟩
  | x :: r, h => by
    obtain ⟨i1, i2, i3, i4⟩ := fit_all fun y hy => h y (List.mem_cons_of_mem _ hy)
    have hx := h x (List.mem_cons_self ..)
    have h2 := hx.len
    have h3 := hx.dep
    refine ⟨by simp only [PyData.showableAll, hx.sh, i1, Bool.and_self], ?_, ?_, ?_⟩
    · simp only [PyData.shownAll, List.map_cons, List.sum_cons, List.length_cons, Nat.add_mul, Nat.one_mul]
      omega
    · simp only [PyData.shownAll, List.length_cons, i3]
    · simp only [PyData.depthAll]
      exact Nat.max_le.mpr ⟨h3, i4⟩
theorem fit_tup {b e : Nat} {ds : List PyData} (h : ∀ x ∈ ds, Fit b e x) : Fit (ds.length * (b + 2) + 3) (e + 1) (.tuple ds) := by
  obtain ⟨i1, i2, i3, i4⟩ := fit_all h
  refine ⟨by simpa only [PyData.showable] using i1, ?_, by simp only [PyData.depth]; omega⟩
  simp only [PyData.shown]
  refine Nat.le_trans (tupleText_len_le _) ?_
  rw [i3, Nat.mul_add]
  omega
theorem fit_lst {b e : Nat} {ds : List PyData} (h : ∀ x ∈ ds, Fit b e x) : Fit (ds.length * (b + 2) + 3) (e + 1) (.list ds) := by
  obtain ⟨i1, i2, i3, i4⟩ := fit_all h
  refine ⟨by simpa only [PyData.showable] using i1, ?_, by simp only [PyData.depth]; omega⟩
  simp only [PyData.shown]
  refine Nat.le_trans (listText_len_le _) ?_
  rw [i3, Nat.mul_add]
  omega
/-- a tuple of pairs of words of at most n signs and numbers -/
theorem fit_pairs {f : Wd → Int} {l : List Wd} {n m : Nat} (h1 : ∀ p ∈ l, p.length ≤ n ∧ (∀ c ∈ p, c < 1000) ∧ 0 ≤ f p ∧ f p < 10 ^ 10) (hl : l.length ≤ m) (hn : n ≤ 100) : Fit (m * (2 * (10 * n + 14) + 5) + 3) 2 (pairsD f l) := by
  have one : ∀ x ∈ l.map (pairD f), Fit (2 * (10 * n + 14) + 3) 1 x := by
    intro x hx
    obtain ⟨p, hp, rfl⟩ := List.mem_map.mp hx
    obtain ⟨a1, a2, a3, a4⟩ := h1 p hp
    refine (fit_tup (b := 10 * n + 12) (e := 0) fun y hy => ?_).le (by simp) (Nat.le_refl _)
    rcases List.mem_cons.mp hy with rfl | hy
    · exact (fit_str a2 a1).le (by omega) (Nat.le_refl _)
    · rw [List.mem_singleton.mp hy]
      exact (fit_int a3 a4).le (by omega) (Nat.le_refl _)
  refine (fit_tup one).le ?_ (Nat.le_refl _)
  rw [List.length_map, show 2 * (10 * n + 14) + 3 + 2 = 2 * (10 * n + 14) + 5 by omega]
  have := Nat.mul_le_mul_right (2 * (10 * n + 14) + 5) hl
  omega
theorem Fit.shows {b e : Nat} {D : PyData} (h : Fit b e D) (h1 : b ≤ 1000000) (h2 : e ≤ 60) : Shows D := ⟨h.sh, Nat.le_trans h.len h1, Nat.le_trans h.dep h2⟩
end Vm
namespace Vf
open PySem PySem.Spec PyProof.Rows L2 L2.Vx
/-! ### a def that is called where repr is allowed, by one that is called so -/
section
variable {X : Cx} {k : Nat} {f : Addr} {fd : FuncData} {ps : List Str} {sp : Sp} {E : XK} {x : Str} {p pos : Pos} {ds : List Value} {dvs : List V} {t : TA} {e : Expr} {es : List Expr}
theorem run_fnG {pins : List (Addr × Obj)} {σ : L2.St} {H : Hp} {s : Shared} {Q : VK} {us : List Value} {vs : List V} (F : FnG X.prog X.w X.K X.mg X.base k f fd ps sp) (len : ∀ vs H Q E, sp vs H Q E → vs.length = ps.length) (hgd : X.A.guards = some []) (hr : Room k X.A)
    (hb : L2.Binds X.K fd ps ds) (hd : Vals dvs ds) (hx : Passes CX0 X E) (I : Inv X pins σ H s) (r : Vals vs us) (h : sp (vs ++ dvs) H Q E) : wpAny (model X.prog X.w) X.A (call (.ref f) us) (EP X pins σ Q) X.xe s := by
  have both : Vals (vs ++ dvs) (us ++ ds) := r.append hd
  have many : (us ++ ds).length = ps.length := by rw [← both.length]; exact len _ _ _ _ h
  refine wpAny_call (codeAny_mono (F.run X.A X.stack s H ⟨us, []⟩ (us ++ ds) (vs ++ dvs) Q E hr hgd I.env0 (hb s us I.kIn many) both h) fun res s' hq => ?_)
  match res, hq with
  | .error err, hq => exact hx pins σ H s err s' I hq
  | .ok (.ret u), hq => exact I.after hq
  | .ok .next, hq => exact False.elim hq
  | .ok .brk, hq => exact False.elim hq
  | .ok .cont, hq => exact False.elim hq
theorem pe_callG (F : FnG X.prog X.w X.K X.mg X.base k f fd ps sp) (len : ∀ vs H Q E, sp vs H Q E → vs.length = ps.length) (hgd : X.A.guards = some []) (hr : Room k X.A) (hg : Gl X x) (hm : X.mg x = some (.ref f)) (hk : PySem.W.keepIn X.K (.ref f) = true) (hb : L2.Binds X.K fd ps ds) (hd : Vals dvs ds) (hx : Passes CX0 X E)
    (ha : PA X (e :: es) t) (hdb : (x == ("__debug__" : Str)) = false := by decide) (he : starEach (e :: es) X.env = (false, eval e X.env) :: starEach es X.env := by rfl) (hpl : (backTo pos (starEach es X.env)).any (·.1) = false := by rfl) :
    PE X (.Call (.Name x p) (e :: es) [] pos) (tCall sp dvs E t) := by
  refine ⟨fun pins s σ H Q I h => wpAny_Call_Name_kw (ld_glob I hg hm ?_ hdb)⟩
  refine PySem.W.callWith_K (h₀ := X.base) I.ok.mod.kin hk (thn (ha.run pos pins s σ H _ I h) fun us s1 ⟨vs, H1, I1, r, q⟩ => ⟨I1.kIn, ?_⟩) he hpl
  exact run_fnG F len hgd hr hb hd hx I1 r q
end
end Vf

set_option Elab.async false
set_option linter.all false
set_option maxRecDepth 100000
set_option maxHeartbeats 4000000
namespace Vs
open PySem PySem.Spec PyProof.Rows L2 SrtO Vm
theorem strs_vals : ∀ {l : List Str} {its : List Value}, Vals (l.map V.str) its → StrsAre its l
  | [], its, h => by cases h; exact .nil
  | x :: l, its, h => by
    rw [List.map_cons] at h
    cases h with
    | cons r rr =>
      obtain ⟨t, rfl⟩ := r
      exact .cons _ _ (strs_vals rr)
section
variable {X : Cx}
/-- sorted(xs), texts, any number of them -/
theorem cr_sortedTL : CallR X (.builtin "sorted") (fun xs H Q => ∃ (a : Addr) (ks : List Wd), xs = [.ref a] ∧ SqL X.K H a ((ks.map mkS).map .str) ∧
    ∀ (ms : List Wd) p, ms.Perm ks → ms.Pairwise (fun x y => ¬ y < x) → H p = none → Q (.ref p) (upd H p (.lst ((ms.map mkS).map .str)))) := by
  intro pins s σ H vs us Q I r h
  obtain ⟨a, ks, rfl, hs, q⟩ := h
  obtain ⟨its, rv, hl, hz⟩ := I.list hs
  rw [Vals.ref1 r]
  have hi := strs_vals rv
  refine SrtO.sorted_ord SrtO.swo_text hl.isList (by rw [← rv.length]; exact hz) (fun h2 h₁ a' _ _ => SrtO.texts_sortable hi h2) fun out h1 h2 => ?_
  obtain ⟨k1, k2, k3⟩ := SrtO.texts_out hi h1 h2
  obtain ⟨ep, he'⟩ := PyProof.Rows.sortedAll_at s.heap its out.toArray
  have e : out.map strOf = ((out.map strOf).map fun y => y.cps.toList).map mkS := by
    rw [List.map_map, show (mkS ∘ fun y : Str => y.cps.toList) = id from funext fun y => mkS_of y, List.map_id]
  have pm : ((out.map strOf).map fun y => y.cps.toList).Perm ks := by
    have z := k2.map fun y : Str => y.cps.toList
    rw [List.map_map (l := ks)] at z
    have e2 : (fun y : Str => y.cps.toList) ∘ mkS = id := funext mkS_cps
    rw [e2, List.map_id] at z
    exact z
  have up : ((out.map strOf).map fun y => y.cps.toList).Pairwise (fun x y => ¬ y < x) := List.pairwise_map.mpr k3
  have hlen : ((out.map strOf).map V.str).length ≤ sizeLine := by
    rw [List.length_map, k2.length_eq]
    rw [List.length_map] at hz
    exact hz
  have fin := q _ (s.heap.objs.size + 1) pm up (I.hok.fresh (Nat.le_succ _))
  rw [← e] at fin
  exact ⟨.ref _, upd H (s.heap.objs.size + 1) (.lst ((out.map strOf).map V.str)), I.laid (t' := s.toks) (fun _ _ => PyProof.Rows.sortedAll_old) (Nat.le_succ _) ⟨hlen, out, ep, vals_of_strs k1, he'⟩, rfl, fin⟩
/-- z[::-1] -/
def tRevS (te : TE) : TE := fun σ H Q => te σ H fun x H1 => ∃ z : Wd, x = .str (mkS z) ∧ z.length ≤ sizeLine ∧ Q (.str (mkS z.reverse)) H1
theorem rev_idx (n : Nat) : Builtin.Str.strSliceIndices none none (-1) n = (List.range n).reverse := by
  have e : Builtin.Str.strSliceIndices none none (-1) n = sliceRange ((n : Int) - 1) (-1) (-1) := rfl
  rw [e, PySem.W.krv_sliceRange, PySem.W.krv_range]
theorem rev_text (z : Wd) : (⟨((Builtin.Str.strSliceIndices none none (-1) (mkS z).length).filterMap ((mkS z).cps[·]?)).toArray⟩ : Str) = mkS z.reverse := by
  rw [rev_idx, List.filterMap_reverse]
  have e := PySem.W.krv_all (mkS z).cps
  have e2 : (mkS z).length = (mkS z).cps.size := rfl
  rw [e2, e, mkS_cps]
  rfl
theorem pe_revS {e : Expr} {te : TE} {k : Nat} {p1 p2 p3 pos : Pos} (he : PE X e te) : PE X (.Subscript e (.Slice none none (some (.UnaryOp .USub (.Constant (.int 1) k p1) p2)) p3) pos) (tRevS te) := by
  refine ⟨fun pins s σ H Q I h => ?_⟩
  refine Subscript_ (thn (he.run pins s σ H _ I h) fun v s1 ⟨x, H1, I1, r1, q1⟩ => ?_)
  obtain ⟨z, ex, hx, q⟩ := q1
  subst ex
  obtain ⟨t, rfl⟩ := r1
  have hst : PO X (some (.UnaryOp .USub (.Constant (.int 1) k p1) p2)) (tPart (tUn (rU fun i => .int (-i)) (tC (.int 1)))) := po_some (pe_un un_neg pe_int)
  refine wpAny_Slice (thn (po_none.run pins s1 σ H1 (fun o H2 => o = none ∧ H2 = H1) I1 ⟨rfl, rfl⟩) fun vl s2 ⟨l, H2, I2, pl, el, e2⟩ => ?_)
  subst el e2
  refine thn (po_none.run pins s2 σ H2 (fun o H3 => o = none ∧ H3 = H2) I2 ⟨rfl, rfl⟩) fun vu s3 ⟨u, H3, I3, pu, eu, e3⟩ => ?_
  subst eu e3
  refine thn (hst.run pins s3 σ H3 (fun o H4 => o = some (-1) ∧ H4 = H3) I3 ⟨1, rfl, -1, rfl, rfl, rfl⟩) fun vs s4 ⟨o, H4, I4, ps, eo, e4⟩ => ?_
  subst eo e4
  have I5 : Inv X pins σ H4 { s4 with heap := s4.heap.push { cls := .type "slice", data := .fields #[vl, vu, vs] } } := I4.kept (t' := s4.toks) fun b ob q => Heap.get?_push_of_some _ q
  obtain ⟨l0, rfl, el0⟩ := IsPart.raw pl
  obtain ⟨u0, rfl, eu0⟩ := IsPart.raw pu
  obtain ⟨w0, rfl, ew0⟩ := IsPart.raw ps
  show wpAny (model X.prog X.w) X.A (subscriptTail e (.Slice none none (some (.UnaryOp .USub (.Constant (.int 1) k p1) p2)) p3) (.str (mkS z) t) (.ref s4.heap.objs.size)) (EP X pins σ Q) X.xe { s4 with heap := s4.heap.push { cls := .type "slice", data := .fields #[partValue l0, partValue u0, partValue w0] } }
  refine tail_any (ops := [.str (mkS z) t, .ref s4.heap.objs.size]) (typeIs_str _ _ _) (F.slot_str_getitem.lookup) ?_ (by with_unfolding_all rfl)
  obtain ⟨os, hos, hcs, hds⟩ := Heap.IsSliceOf.new s4.heap (partValue l0) (partValue u0) (partValue w0)
  refine wpAny_getItem_str_slice (l := l0) (u := u0) (st := w0) ⟨os, hos, hcs, hds⟩ (by rw [ew0]; rfl) ?_
  unfold sliceMade slicePicked
  rw [el0, eu0, ew0]
  rw [if_neg (by intro z; exact absurd z (by simp))]
  show Made.post (.str (⟨((Builtin.Str.strSliceIndices none none (-1) (mkS z).length).filterMap ((mkS z).cps[·]?)).toArray⟩ : Str)) (EP X pins σ Q) _
  rw [rev_text]
  refine ⟨by rw [mkS_length, List.length_reverse]; exact hx, .str _, H4, I5.tok _, ⟨_, rfl⟩, q⟩
end
end Vs

set_option Elab.async false
set_option linter.all false
set_option maxRecDepth 100000
set_option maxHeartbeats 4000000
namespace Vs
open PySem PySem.Spec PyProof.Rows L2 SrtO Vm
open PySem.Froz (SD sObj addTx tailTx sing TxOk)
section
variable {P : Program} {w : World} {A : Around} {E : Value → Shared → Prop} {s : Shared}
/-- the loop that puts the texts of a list in -/
theorem loop_txs {I : Addr} {fp wr : List Addr} {G : Array GenState → Array GenState → Prop} {n : Nat} {xs : List Str} {Pv : Nat → Value → Prop} {St : Nat → Shared → Prop} {R : Result → Shared → Prop}
    (W : WalksS P w A.in1 I fp wr G n Pv St) (S : Addr) (hSf : S ∉ fp) (hn : n = xs.length) (hb : n + 1 < scanBound) (hval : ∀ i v, Pv i v → ∃ k u, xs[i]? = some k ∧ v = .str k u) :
    ∀ (m i : Nat) (s : Shared), n - i = m → i ≤ n → St i s → (∃ D l, s.heap.get? S = some (sObj "set" D) ∧ Tx P w D l ∧ l.length ≤ i ∧ ∀ k, k ∈ l ↔ k ∈ xs.take i) →
      (∀ s' D l, Moved (S :: wr) G s s' → s'.heap.get? S = some (sObj "set" D) → Tx P w D l → l.length ≤ n → (∀ k, k ∈ l ↔ k ∈ xs) → R (.ok (.ret .none)) s') →
      codeAny (model P w) A (.builtin "set.update.loop" ⟨[.ref S, .ref I], []⟩) R s := by
  have hSw : S ∉ wr := fun h => hSf (W.sub _ h)
  have more : ∀ b ∈ wr, b ∈ S :: wr := fun b => List.mem_cons_of_mem _
  intro m
  induction m with
  | zero =>
    intro i s hm hi hst ⟨D, l, hS, F, hl, hmem⟩ hR
    obtain rfl : i = n := by omega
    refine codeAny_builtin PyProof.Rows.F.entry_set_update_loop ?_
    rw [Around.under_plainId PyProof.Rows.F.plain_set_update_loop _]
    refine wpAny_bind (W.done s _ _ hst fun s' mv => wpAny_pure (hR s' D l (mv.mono more) (mv.heap S _ hSw hS) F hl fun k => ?_))
    rw [hmem k, List.take_of_length_le (Nat.le_of_eq hn.symm)]
  | succ m ih =>
    intro i s hm hi hst ⟨D, l, hS, F, hl, hmem⟩ hR
    refine codeAny_builtin PyProof.Rows.F.entry_set_update_loop ?_
    rw [Around.under_plainId PyProof.Rows.F.plain_set_update_loop _]
    refine wpAny_bind (W.item i s _ _ (by omega) hst fun v s1 hP hst1 mv => ?_)
    obtain ⟨y, u, hp, rfl⟩ := hval i v hP
    have hS1 := mv.heap S _ hSw hS
    have hnx : ∀ k, k ∈ xs.take (i + 1) ↔ k ∈ l ∨ k = y := fun k => by
      rw [List.take_add_one, hp, List.mem_append, ← hmem k]
      simp
    refine wpAny_bind (wpAny_holding ?_)
    unfold setAdd
    refine wpAny_holding (wpAny_bind ((strKind P w).pyHash (k := y) (Froz.is_str _ _) ?_))
    by_cases hk : y ∈ l
    · refine add_old (s := { s1 with toks := s1.toks + 1 }) hS1 F.ok hk (by omega) ?_
      refine wpAny_pure ⟨plainId_quiet PyProof.Rows.F.plain_set_update_loop _, ih (i + 1) _ (by omega) (by omega) (W.frame _ s1 _ _ hst1 (Nat.le_succ _) fun b _ o e => e) ⟨D, l, hS1, F, by omega, fun k => ?_⟩ fun s2 D2 l2 mv2 hS2 F2 n2 h2 => ?_⟩
      · rw [hnx k]
        exact ⟨.inl, fun z => z.elim id fun z => z ▸ hk⟩
      · exact hR s2 D2 l2 (Moved.trans W.gtrans ((mv.mono more).then_heap (Nat.le_succ _) fun b o _ e => e) mv2) hS2 F2 n2 h2
    · refine Froz.add_x (s := { s1 with toks := s1.toks + 1 }) hS1 F.ok hk (by omega) ?_
      have hS2 : (s1.heap.update S (fun _ => sObj "set" (addTx (hashStr w y) (.str y u) D))).get? S = some (sObj "set" (addTx (hashStr w y) (.str y u) D)) := Froz.get_upd _ hS1 rfl
      have other : ∀ b o, b ≠ S → s1.heap.get? b = some o → (s1.heap.update S (fun _ => sObj "set" (addTx (hashStr w y) (.str y u) D))).get? b = some o := fun b o n e => (Heap.get?_update_other _ _ (Ne.symm n)).trans e
      refine wpAny_pure ⟨plainId_quiet PyProof.Rows.F.plain_set_update_loop _, ih (i + 1) _ (by omega) (by omega) (W.frame _ s1 _ _ hst1 (Nat.le_succ _) fun b hb' o e => other b o (fun z => hSf (z ▸ hb')) e) ⟨_, y :: l, hS2, F.add u hk, (by simp only [List.length_cons]; omega), fun k => ?_⟩ fun s2 D2 l2 mv2 hS3 F2 n2 h2 => ?_⟩
      · rw [hnx k, List.mem_cons]
        exact Or.comm
      · exact hR s2 D2 l2 (Moved.trans W.gtrans ((mv.mono more).then_heap (Nat.le_succ _) fun b o nb e => other b o (fun z => nb (z ▸ List.mem_cons_self ..)) e) mv2) hS3 F2 n2 h2
/-- set(list of texts) -/
theorem call_set_list {l : Addr} {items : Array Value} {xs : List Str} {Q : Value → Shared → Prop} (hh : A.handled = none) (hl : s.heap.IsList l items) (hx : StrsAre items.toList xs) (hb : xs.length + 1 < scanBound)
    (h : ∀ (s' : Shared) D m, (∀ b o, s.heap.get? b = some o → s'.heap.get? b = some o) → s'.gens = s.gens → s'.os = s.os → s'.heap.get? s.heap.objs.size = some (sObj "set" D) → Tx P w D m → m.length ≤ xs.length → (∀ k, k ∈ m ↔ k ∈ xs) → Q (.ref s.heap.objs.size) s') :
    wpAny (model P w) A (call (.type "set") [.ref l]) Q E s := by
  refine set_by_init fun R hR => ?_
  have hlen : items.size = xs.length := by
    have q := StrsAre.length hx
    rw [Array.length_toList] at q
    exact q
  have hS : (s.heap.push (sObj "set" (emptyD w))).get? s.heap.objs.size = some (sObj "set" (emptyD w)) := Heap.get?_push_size _ rfl
  have hold : ∀ b o, s.heap.get? b = some o → (s.heap.push (sObj "set" (emptyD w))).get? b = some o := fun b o e => Heap.get?_push_of_some _ e
  have hl1 : (s.heap.push (sObj "set" (emptyD w))).IsList l items := hl.push _
  have hls : l ≠ s.heap.objs.size := by
    obtain ⟨_, e, _⟩ := hl
    exact Nat.ne_of_lt (Heap.lt_size e)
  have t1 := F.sub_list_set
  have t2 := F.sub_list_frozenset
  have t3 : (Value.type "list" == Value.type "dict") = false := by decide
  have hty : Shared.TypeIs { s with heap := s.heap.push (sObj "set" (emptyD w)) } (.ref l) "list" := hl1.typeIs (s := { s with heap := s.heap.push (sObj "set" (emptyD w)) })
  generalize s.heap.push (sObj "set" (emptyD w)) = h1 at hS hold hl1 hty ⊢
  unfold Builtin.«set.__init__» noKeywords Builtin.Frozenset.updateFrom
  generalize hPI : pyIter = PI
  wp_walk
  subst hPI
  refine iter_any hl1 fun s2 e2 st hne => wpAny_bind (wpAny_runValue ?_)
  subst e2
  have hx1 : ∀ b u', h1.get? b = some u' → b ≠ h1.objs.size := fun b u' e => Nat.ne_of_lt (Heap.lt_size e)
  have hSf : s.heap.objs.size ∉ [h1.objs.size, l] := fun z => by
    rcases List.mem_cons.mp z with z | z
    · exact hx1 _ _ hS z
    · exact hls (List.mem_singleton.mp z).symm
  have hval : ∀ (i : Nat) (v : Value), items[i]? = some v → ∃ k u, xs[i]? = some k ∧ v = .str k u := fun i v hv => by
    have hi : i < xs.length := by rw [← hlen]; exact (Array.getElem?_eq_some_iff.mp hv).1
    obtain ⟨t, e⟩ := SS.strs_at hx i v (by rw [Array.getElem?_toList]; exact hv)
    refine ⟨xs[i], t, List.getElem?_eq_getElem hi, ?_⟩
    rw [e, List.getD_eq_getElem?_getD, List.getElem?_eq_getElem hi] <;> rfl
  refine loop_txs ((Walks.list (by simp [hh]) _ l hne items).toS) s.heap.objs.size hSf hlen (by rw [hlen]; exact hb) hval _ 0 _ rfl (Nat.zero_le _) st ⟨_, [], Heap.get?_push_of_some _ hS, tx_empty, Nat.le_refl _, fun k => by simp⟩ fun s2 D m mv hS2 F hm1 hm => ?_
  refine wpAny_pure (wpAny_pure (hR _ (h s2 D m (fun b o' e => ?_) mv.gens mv.os hS2 F (by rw [← hlen]; exact hm1) hm)))
  refine mv.heap b o' (fun z => ?_) (Heap.get?_push_of_some _ (hold b o' e))
  rcases List.mem_cons.mp z with z | z
  · rw [z] at e
    exact Nat.lt_irrefl _ (Heap.lt_size e)
  · exact hx1 _ _ (hold b o' e) (List.mem_singleton.mp z)
end
section
variable {X : Cx}
/-- set(xs), texts, then sorted -/
theorem cr_setListAt {P : Program} {w : World} (hc : X.calm = true) (eP : X.prog = P) (ew : X.w = w) : CallR X (.type "set") (fun xs H Q => ∃ (a : Addr) (ks : List Wd), xs = [.ref a] ∧ SqL X.K H a ((ks.map mkS).map .str) ∧ ks.length ≤ 4000 ∧
    ∀ p l (ms : List Wd), H p = none → l.Perm (ms.map mkS) → ms.Nodup → ms.length ≤ 4000 → (∀ k, k ∈ ms ↔ k ∈ ks) → Q (.ref p) (upd H p (SetTxO P w p l))) := by
  subst eP
  subst ew
  intro pins s σ H vs us Q I r h
  obtain ⟨a, ks, rfl, hs, hl, q⟩ := h
  obtain ⟨its, rv, hl0, hz⟩ := I.list hs
  rw [Vals.ref1 r]
  have hx := strs_vals rv
  refine call_set_list (I.ok.hd hc) hl0.isList (by simpa using hx) (by rw [List.length_map]; exact Nat.lt_of_le_of_lt (Nat.succ_le_succ hl) (by decide)) fun s' D l k g o hS F hn hm => ?_
  have em : ((l.map (fun y : Str => y.cps.toList)).map mkS) = l := by
    rw [List.map_map, show (mkS ∘ fun y : Str => y.cps.toList) = id from funext fun y => mkS_of y, List.map_id]
  refine laid_new I k g o (Nat.le_refl _) (setTxO_new ⟨D, hS, F⟩) fun hn' => q _ l (l.map fun y : Str => y.cps.toList) hn' (by rw [em]) ?_ ?_ fun x => ?_
  · refine List.Pairwise.map _ (fun a b n e => n ?_) F.nd
    rw [← mkS_of a, ← mkS_of b, e]
  · rw [List.length_map]
    rw [List.length_map] at hn
    omega
  · constructor
    · intro h
      obtain ⟨y, hy, rfl⟩ := List.mem_map.mp h
      obtain ⟨z, hz, e⟩ := List.mem_map.mp ((hm y).mp hy)
      rw [← e, mkS_cps]
      exact hz
    · intro h
      have h2 := (hm (mkS x)).mpr (List.mem_map_of_mem h)
      have h3 := List.mem_map_of_mem (f := fun y : Str => y.cps.toList) h2
      rw [mkS_cps] at h3
      exact h3
end
end Vs

set_option Elab.async false
set_option linter.all false
set_option maxRecDepth 100000
set_option maxHeartbeats 4000000
namespace Vs
open PySem PySem.Spec PySem.Builtin PySem.Builtin.Str PyProof.Rows L2
/-! ### what is left of a text when all signs of another one are taken off its ends -/
theorem sub_size (x : Str) (lo hi : Nat) (h : hi ≤ x.length) : (strSub x lo hi).length = hi - lo := by
  show (x.cps.extract lo hi).size = hi - lo
  have : x.length = x.cps.size := rfl
  rw [Array.size_extract]
  omega
theorem strip_none (x a : Str) : (Txt.stripChars x a).length = 0 ↔ ∀ c ∈ x.cps.toList, c ∈ a.cps.toList := by
  have hn : x.cps.toList.length = x.length := by simp [Str.length]
  obtain ⟨h0, h1, h2⟩ := lo_facts a.cps.contains x
  obtain ⟨g0, g1, g2, _⟩ := hi_facts a.cps.contains x _ h0
  have e : (Txt.stripChars x a).length = stripHi a.cps.contains true x (stripLo a.cps.contains true x) - stripLo a.cps.contains true x := by
    unfold Txt.stripChars
    rw [stripBy_eq, sub_size _ _ _ g1]
  rw [e]
  have key : ∀ k, k < x.length → (x.cps.getD k 0 ∈ x.cps.toList) := fun k hk => by
    rw [← getD_list]
    have hk' : k < x.cps.toList.length := hn.symm ▸ hk
    rw [List.getD_eq_getElem?_getD, List.getElem?_eq_getElem hk']
    exact List.getElem_mem hk'
  constructor
  · intro z c hc
    obtain ⟨k, hk, rfl⟩ := List.mem_iff_getElem.mp hc
    have hg : a.cps.contains (x.cps.getD k 0) = true := by
      by_cases hlt : k < stripLo a.cps.contains true x
      · exact h1 k hlt
      · exact g2 k (by omega) (hn ▸ hk)
    rw [← getD_list, List.getD_eq_getElem?_getD, List.getElem?_eq_getElem hk] at hg
    simpa using hg
  · intro z
    have all : ∀ k, k < x.length → a.cps.contains (x.cps.getD k 0) = true := fun k hk => by
      have := z _ (key k hk)
      simpa using this
    rcases h2 with h | h
    · omega
    · by_cases hl : stripLo a.cps.contains true x < x.length
      · rw [all _ hl] at h
        cases h
      · omega
theorem strip_dec (x a : Str) : decide (V.str (Txt.stripChars x a) = V.str "") = x.cps.toList.all fun c => decide (c ∈ a.cps.toList) := by
  have h := strip_none x a
  by_cases z : ∀ c ∈ x.cps.toList, c ∈ a.cps.toList
  · have e : (Txt.stripChars x a) = "" := by
      have := h.mpr z
      revert this
      generalize Txt.stripChars x a = y
      intro this
      obtain ⟨l⟩ := y
      have : l = #[] := Array.eq_empty_of_size_eq_zero this
      subst this
      rfl
    rw [e, decide_eq_true rfl, eq_comm, List.all_eq_true]
    exact fun c hc => decide_eq_true (z c hc)
  · have e : ¬ V.str (Txt.stripChars x a) = V.str "" := fun q => z (h.mp (by
      have : Txt.stripChars x a = "" := V.str.inj q
      rw [this]
      rfl))
    rw [decide_eq_false e, eq_comm, List.all_eq_false]
    obtain ⟨c, hc⟩ := Classical.not_forall.mp z
    obtain ⟨hc1, hc2⟩ := Classical.not_imp.mp hc
    exact ⟨c, hc1, by simpa using hc2⟩
end Vs

set_option Elab.async false
set_option linter.all false
set_option maxRecDepth 100000
set_option maxHeartbeats 4000000
namespace Vd
open PySem PySem.Spec PyProof.Rows L2 L2.Vx Vm
/-! ### values as data: taken apart, asked for their kind -/
theorem dt_same {H H' : Hp} {S : Addr → Prop} {v : V} {D : PyData} (h : Dt H S v D) (s : Same H H') : Dt H' S v D := h.mono (fun a o _ e => s a o e) fun _ _ x _ => x
theorem dtA_same {H H' : Hp} {S : Addr → Prop} {vs : List V} {ds : List PyData} (h : DtAll H S vs ds) (s : Same H H') : DtAll H' S vs ds := h.mono (fun a o _ e => s a o e) fun _ _ x _ => x
theorem dt_any {H : Hp} {S : Addr → Prop} {v : V} {D : PyData} (h : Dt H S v D) : Dt H (fun _ => True) v D := h.mono (fun _ _ _ e => e) fun _ _ _ _ => trivial
theorem dt_tup {H : Hp} {S : Addr → Prop} {v : V} {ds : List PyData} (h : Dt H S v (.tuple ds)) : ∃ a xs, v = .ref a ∧ H a = some (.tup xs) ∧ S a ∧ DtAll H S xs ds := by
  cases h with
  | flat e => cases v <;> exact absurd e (by intro z; cases z)
  | tup e s r => exact ⟨_, _, rfl, e, s, r⟩
theorem dt_str {H : Hp} {S : Addr → Prop} {v : V} {x : Str} (h : Dt H S v (.str x)) : v = .str x := by
  cases h with
  | flat e =>
    cases v with
    | str y => cases (show PyData.str x = .str y from e); rfl
    | _ => exact absurd e (by intro z; cases z)
theorem dt_int {H : Hp} {S : Addr → Prop} {v : V} {n : Int} (h : Dt H S v (.int n)) : v = .int n := by
  cases h with
  | flat e =>
    cases v with
    | int y => cases (show PyData.int n = .int y from e); rfl
    | _ => exact absurd e (by intro z; cases z)
theorem dtA_len {H : Hp} {S : Addr → Prop} : ∀ {vs : List V} {ds : List PyData}, DtAll H S vs ds → vs.length = ds.length
  | _, _, .nil => rfl
  | _, _, .cons _ r => congrArg (· + 1) (dtA_len r)
theorem dtA_at {H : Hp} {S : Addr → Prop} : ∀ {vs : List V} {ds : List PyData}, DtAll H S vs ds → ∀ {i : Nat} {v : V}, vs[i]? = some v → ∃ d, ds[i]? = some d ∧ Dt H S v d
  | _, _, .cons h _, 0, _, e => ⟨_, rfl, (Option.some.inj e) ▸ h⟩
  | _, _, .cons _ r, _ + 1, _, e => dtA_at r (i := _) e
theorem dtA_one {H : Hp} {S : Addr → Prop} {vs : List V} {d : PyData} {ds : List PyData} (h : DtAll H S vs (d :: ds)) : ∃ v r, vs = v :: r ∧ Dt H S v d ∧ DtAll H S r ds := by
  cases h with
  | cons a b => exact ⟨_, _, rfl, a, b⟩
theorem dtA_nil {H : Hp} {S : Addr → Prop} {vs : List V} (h : DtAll H S vs []) : vs = [] := by
  cases h
  rfl
/-- all of them texts -/
def strD : PyData → Bool
  | .str _ => true
  | _ => false
def wdOf : PyData → Wd
  | .str x => x.cps.toList
  | _ => []
theorem dtA_strs {H : Hp} {S : Addr → Prop} : ∀ {vs : List V} {ds : List PyData}, DtAll H S vs ds → ds.all strD = true → vs = ((ds.map wdOf).map mkS).map .str
  | _, _, .nil, _ => rfl
  | _, _, .cons (d := d) h r, e => by
    rw [List.all_cons, Bool.and_eq_true] at e
    rw [dtA_strs r e.2]
    cases d with
    | str x =>
      rw [dt_str h]
      show V.str x :: _ = V.str (mkS x.cps.toList) :: _
      rw [mkS_of]
    | _ => exact absurd e.1 (by intro z; cases z)
def tyD : PyData → String
  | .none => "NoneType"
  | .bool _ => "bool"
  | .int _ => "int"
  | .str _ => "str"
  | .list _ => "list"
  | .tuple _ => "tuple"
  | .dict _ => "dict"
theorem dt_ty {K : PySem.W.Frag} {H : Hp} {S : Addr → Prop} {v : V} {D : PyData} (h : Dt H S v D) : TyX K H v (.type (tyD D)) := by
  cases h with
  | flat e =>
    cases v with
    | non => cases (show D = .none from e); exact .base .non
    | bl b => cases (show D = .bool b from e); exact .base (.bl b)
    | int i => cases (show D = .int i from e); exact .base (.int i)
    | str x => cases (show D = .str x from e); exact .base (.str x)
    | byt b => exact (show False from e).elim
    | flt b => exact (show False from e).elim
    | ref b => exact (show False from e).elim
    | ty b => exact (show False from e).elim
  | lst e _ _ => exact .base (.lst e)
  | tup e _ _ => exact .base (.tup e)
  | dct e _ _ => exact .base (.dK e)
/-- isinstance of such a value, one of four types -/
def isD (n : String) (D : PyData) : Bool := (n == "int" && tyD D == "bool") || tyD D == n
theorem kitTab : ∀ a ∈ ["NoneType", "bool", "int", "str", "list", "tuple", "dict"], ∀ n ∈ ["int", "bool", "str", "tuple"], kitB a n = some ((n == "int" && a == "bool") || a == n) := by decide +kernel
theorem tyD_mem (D : PyData) : tyD D ∈ ["NoneType", "bool", "int", "str", "list", "tuple", "dict"] := by
  cases D <;> simp [tyD]
theorem kit_D {K : PySem.W.Frag} (D : PyData) {n : String} (hn : n = "int" ∨ n = "bool" ∨ n = "str" ∨ n = "tuple") : PySem.W.kitOne K (.type (tyD D)) (.type n) = some (isD n D) :=
  kit_ty (kitTab _ (tyD_mem D) n (by rcases hn with rfl | rfl | rfl | rfl <;> simp))
theorem isD_str (D : PyData) : isD "str" D = strD D := by
  cases D with
  | str x => exact (by decide +kernel : (("str" == "int" && "str" == "bool") || "str" == "str") = true)
  | none => exact (by decide +kernel : (("str" == "int" && "NoneType" == "bool") || "NoneType" == "str") = false)
  | bool b => exact (by decide +kernel : (("str" == "int" && "bool" == "bool") || "bool" == "str") = false)
  | int b => exact (by decide +kernel : (("str" == "int" && "int" == "bool") || "int" == "str") = false)
  | list b => exact (by decide +kernel : (("str" == "int" && "list" == "bool") || "list" == "str") = false)
  | tuple b => exact (by decide +kernel : (("str" == "int" && "tuple" == "bool") || "tuple" == "str") = false)
  | dict b => exact (by decide +kernel : (("str" == "int" && "dict" == "bool") || "dict" == "str") = false)
theorem isD_tup (D : PyData) : isD "tuple" D = true ↔ ∃ ds, D = .tuple ds := by
  cases D with
  | tuple ds => exact ⟨fun _ => ⟨ds, rfl⟩, fun _ => by show (("tuple" == "int" && "tuple" == "bool") || "tuple" == "tuple") = true; decide +kernel⟩
  | none => exact ⟨fun z => absurd z (by show ¬ (("tuple" == "int" && "NoneType" == "bool") || "NoneType" == "tuple") = true; decide +kernel), fun ⟨_, e⟩ => by cases e⟩
  | bool b => exact ⟨fun z => absurd z (by show ¬ (("tuple" == "int" && "bool" == "bool") || "bool" == "tuple") = true; decide +kernel), fun ⟨_, e⟩ => by cases e⟩
  | int b => exact ⟨fun z => absurd z (by show ¬ (("tuple" == "int" && "int" == "bool") || "int" == "tuple") = true; decide +kernel), fun ⟨_, e⟩ => by cases e⟩
  | str b => exact ⟨fun z => absurd z (by show ¬ (("tuple" == "int" && "str" == "bool") || "str" == "tuple") = true; decide +kernel), fun ⟨_, e⟩ => by cases e⟩
  | list b => exact ⟨fun z => absurd z (by show ¬ (("tuple" == "int" && "list" == "bool") || "list" == "tuple") = true; decide +kernel), fun ⟨_, e⟩ => by cases e⟩
  | dict b => exact ⟨fun z => absurd z (by show ¬ (("tuple" == "int" && "dict" == "bool") || "dict" == "tuple") = true; decide +kernel), fun ⟨_, e⟩ => by cases e⟩
def isInt : PyData → Bool
  | .int _ => true
  | _ => false
/-! ### judges, as data -/
def textD (sg : Wd) : PyData → Bool
  | .str x => x.cps.toList.all fun c => decide (c ∈ sg)
  | _ => false
def wordDB (sg : Wd) (n : Int) (d : PyData) : Bool := textD sg d && decide (((wdOf d).length : Int) = n)
/-- each less than the next -/
def riseB {α : Type} (lt : α → α → Bool) (xs : List α) : Bool := (xs.zip (xs.drop 1)).all fun p => lt p.1 p.2
def ltW (x y : Wd) : Bool := decide (x < y)
def wordsB (sg : Wd) (n : Int) : PyData → Bool
  | .tuple ds => ds.all (wordDB sg n) && riseB ltW (ds.map wdOf)
  | _ => false
def ltP (x y : Wd) : Bool := decide (x.length < y.length) || (decide (x.length = y.length) && decide (x < y))
def shorterB (sg : Wd) (k : Int) : PyData → Bool
  | .tuple ds => ds.all (textD sg) && (ds.all (fun d => decide (((wdOf d).length : Int) < k)) && riseB ltP (ds.map wdOf))
  | _ => false
def judgeB (sg : Wd) : PyData → Bool
  | .tuple [.int k, s, f, l, p] => decide (1 ≤ k) && (shorterB sg k s && (wordsB sg (k - 1) f && (wordsB sg (k - 1) l && wordsB sg k p)))
  | _ => false
theorem text_str {sg : Wd} {d : PyData} (h : textD sg d = true) : strD d = true := by
  cases d with
  | str x => rfl
  | _ => exact absurd h (by intro z; cases z)
mutual
def wideD (n : Nat) : PyData → Prop
  | .tuple ds => ds.length ≤ n ∧ wideDs n ds
  | .list ds => ds.length ≤ n ∧ wideDs n ds
  | .str x => x.length ≤ n
  | _ => True
def wideDs (n : Nat) : List PyData → Prop
  | [] => True
  | d :: r => wideD n d ∧ wideDs n r
end
theorem wide_mem {n : Nat} : ∀ {ds : List PyData}, wideDs n ds → ∀ d ∈ ds, wideD n d
  | d :: r, h, e, he => by
    rcases List.mem_cons.mp he with rfl | he
    · exact h.1
    · exact wide_mem h.2 e he
end Vd

set_option Elab.async false
set_option linter.all false
set_option maxRecDepth 100000
set_option maxHeartbeats 4000000
namespace Vd
open PySem PySem.Spec PyProof.Rows L2 L2.Vx Vm
/-! ### x < y of values that are alike -/
def rLtDat (K : PySem.W.Frag) : R2 := fun x y H Q => ∃ d e, Dp K H x d ∧ Dp K H y e ∧ W.alike d e = true ∧ d ≠ .none ∧ d.depth ≤ 60 ∧ Q (.bl (W.dataLt d e)) H
section
variable {X : Cx}
theorem op_ltDat (hu : X.A.units + 64 < cLine) : OpR X (compareOp .Lt) (rLtDat X.K) := by
  intro pins s σ H x y v u Q I rx ry h
  obtain ⟨d, e, hd, he, ha, hn, hdp, q⟩ := h
  obtain ⟨as, r1⟩ := Dp.reads I d x v hd rx
  obtain ⟨bs, r2⟩ := Dp.reads I e y u he ry
  have hk : X.A.units + min d.depth e.depth < cLine := by
    have := Nat.min_le_left d.depth e.depth
    omega
  show wpAny (model X.prog X.w) X.A (richCompare .Lt v u) (EP X pins σ Q) X.xe s
  exact W.rcLt_alike d e X.A s v u as bs r1 r2 ha hn hk X.prog X.w _ _ ⟨.bl _, H, I, rfl, q⟩
theorem ltDat_at {K : PySem.W.Frag} (e : X.K = K) (hu : X.A.units + 64 < cLine) : OpR X (compareOp .Lt) (rLtDat K) := e ▸ op_ltDat hu
end
def pairP (z : Wd) : PyData := .tuple [.int (z.length : Nat), .str (mkS z)]
theorem alike_pair (x y : Wd) : W.alike (pairP x) (pairP y) = true := by
  unfold pairP
  simp [W.alike, W.alikeAll]
theorem lt_pair (x y : Wd) : W.dataLt (pairP x) (pairP y) = ltP x y := by
  unfold pairP ltP
  rw [W.dataLt_tuple]
  have a1 : W.alike (.int (x.length : Nat)) (.int (y.length : Nat)) = true := by simp [W.alike]
  have a2 : W.alike (.str (mkS x)) (.str (mkS y)) = true := by simp [W.alike]
  by_cases c : x.length = y.length
  · rw [W.dataLt_all_yes a1 (by rw [c]; simp [PyData.eqv])]
    rw [decide_eq_true c, Bool.true_and, decide_eq_false (by omega : ¬ x.length < y.length), Bool.false_or]
    by_cases e : x = y
    · subst e
      rw [W.dataLt_all_yes a2 (by simp [PyData.eqv]), decide_eq_false (lt_irr x)]
      rfl
    · rw [W.dataLt_all_no a2 (by
        simp only [PyData.eqv]
        exact beq_eq_false_iff_ne.mpr fun z => e (mkS_inj z)), W.dataLt_str, mkS_cps, mkS_cps]
  · rw [W.dataLt_all_no a1 (by
      simp only [PyData.eqv]
      exact beq_eq_false_iff_ne.mpr fun z => c (Int.ofNat.inj z)), W.dataLt_int, decide_eq_false c, Bool.false_and, Bool.or_false]
    rw [Bool.eq_iff_iff, decide_eq_true_iff, decide_eq_true_iff]
    exact Int.ofNat_lt
end Vd

set_option Elab.async false
set_option linter.all false
set_option maxRecDepth 100000
set_option maxHeartbeats 4000000
namespace Vd
open PySem PySem.Spec PyProof.Rows L2 L2.Vx Vm
/-! ### xs == [], whatever the items -/
section
variable {X : Cx}
theorem op_eqNil (hu : X.A.units + 64 < cLine) : OpR X (compareOp .Eq) (fun x y H Q => ∃ a b xs, x = .ref a ∧ y = .ref b ∧ SqL X.K H a xs ∧ SqL X.K H b [] ∧ Q (.bl xs.isEmpty) H) := by
  intro pins s σ H x y v u Q I rx ry h
  obtain ⟨a, b, xs, rfl, rfl, ha, hb, q⟩ := h
  cases rx
  cases ry
  obtain ⟨is1, r1, p1, _⟩ := I.list ha
  obtain ⟨is2, r2, p2, _⟩ := I.list hb
  cases r2
  have hu' : X.A.units < cLine := by omega
  cases xs with
  | nil =>
    cases r1
    exact SeqAt.eq_listAt (e := fun _ => true) p1.isList p2.isList rfl hu' (fun j h1 _ => absurd h1 (by simp)) ⟨.bl true, H, I, rfl, q⟩
  | cons z zs =>
    cases r1 with
    | cons w ws =>
      exact SeqAt.eq_list_lengthsAt p1.isList p2.isList (by simp) hu' ⟨.bl false, H, I, rfl, q⟩
theorem op_neNil (hu : X.A.units + 64 < cLine) : OpR X (compareOp .NotEq) (fun x y H Q => ∃ a b xs, x = .ref a ∧ y = .ref b ∧ SqL X.K H a xs ∧ SqL X.K H b [] ∧ Q (.bl (!xs.isEmpty)) H) := by
  intro pins s σ H x y v u Q I rx ry h
  obtain ⟨a, b, xs, rfl, rfl, ha, hb, q⟩ := h
  cases rx
  cases ry
  obtain ⟨is1, r1, p1, _⟩ := I.list ha
  obtain ⟨is2, r2, p2, _⟩ := I.list hb
  cases r2
  have hu' : X.A.units < cLine := by omega
  cases xs with
  | nil =>
    cases r1
    exact SeqAt.RcNeAt.lists (e := fun _ => true) p1.isList p2.isList rfl hu' (fun j h1 _ => absurd h1 (by simp)) X.prog X.w _ _ ⟨.bl false, H, I, rfl, q⟩
  | cons z zs =>
    cases r1 with
    | cons w ws =>
      exact SeqAt.RcNeAt.lists_lengths p1.isList p2.isList (by simp) hu' X.prog X.w _ _ ⟨.bl true, H, I, rfl, q⟩
end
end Vd

set_option Elab.async false
set_option linter.all false
set_option maxRecDepth 100000
set_option maxHeartbeats 4000000
namespace Vf
open PySem PySem.Spec PyProof.Rows L2
theorem same_newW {H : Hp} {p : Addr} (h : H p = none) (o : HO) : Same H (upd H p o) := fun b u q => by rw [upd_ne (ne_of_none q h)]; exact q
end Vf
namespace Vd
open PySem PySem.Spec PyProof.Rows L2 L2.Vx Vm
/-! ### how much data is at most shown of data, piece by piece -/
mutual
def wt : PyData → Nat
  | .none => 10
  | .bool _ => 10
  | .int _ => 60
  | .str x => 10 * x.length + 4
  | .list ds => wts ds + 4
  | .tuple ds => wts ds + 4
  | .dict _ => 10
def wts : List PyData → Nat
  | [] => 0
  | d :: r => wt d + 2 + wts r
end
mutual
def okD (N : Nat) : PyData → Prop
  | .none => True
  | .bool _ => True
  | .int n => n.natAbs ≤ N
  | .str x => ∀ c ∈ x.cps.toList, c < 1000
  | .list ds => okDs N ds
  | .tuple ds => okDs N ds
  | .dict kvs => kvs = []
def okDs (N : Nat) : List PyData → Prop
  | [] => True
  | d :: r => okD N d ∧ okDs N r
end
theorem wts_app : ∀ a b : List PyData, wts (a ++ b) = wts a + wts b
  | [], b => by simp [wts]
  | d :: r, b => by
    simp only [List.cons_append, wts, wts_app r b]
    omega
theorem okDs_app {N : Nat} : ∀ a b : List PyData, okDs N (a ++ b) ↔ okDs N a ∧ okDs N b
  | [], b => by simp [okDs]
  | d :: r, b => by
    simp only [List.cons_append, okDs, okDs_app r b, and_assoc]
theorem dep_app : ∀ a b : List PyData, PyData.depthAll (a ++ b) = max (PyData.depthAll a) (PyData.depthAll b)
  | [], b => by simp [PyData.depthAll]
  | d :: r, b => by
    simp only [List.cons_append, PyData.depthAll, dep_app r b]
    omega
theorem okDs_mem {N : Nat} : ∀ {ds : List PyData}, okDs N ds → ∀ d ∈ ds, okD N d
  | d :: r, h, e, he => by
    rcases List.mem_cons.mp he with rfl | he
    · exact h.1
    · exact okDs_mem h.2 e he
theorem wts_mem : ∀ {ds : List PyData}, ∀ d ∈ ds, wt d + 2 ≤ wts ds
  | d :: r, e, he => by
    simp only [wts]
    rcases List.mem_cons.mp he with rfl | he
    · omega
    · have := wts_mem e he
      omega
theorem dep_mem : ∀ {ds : List PyData}, ∀ d ∈ ds, d.depth ≤ PyData.depthAll ds
  | d :: r, e, he => by
    simp only [PyData.depthAll]
    rcases List.mem_cons.mp he with rfl | he
    · omega
    · have := dep_mem e he
      omega
theorem wts_len : ∀ ds : List PyData, 2 * ds.length ≤ wts ds
  | [] => Nat.zero_le _
  | d :: r => by
    have := wts_len r
    simp only [wts, List.length_cons]
    omega
mutual
theorem okD.le {N M : Nat} (h : N ≤ M) : ∀ {d : PyData}, okD N d → okD M d
  | .none, _ => trivial
  | .bool _, _ => trivial
  | .int n, q => Nat.le_trans (show n.natAbs ≤ N from q) h
  | .str _, q => q
  | .list ds, q => okDs.le h (show okDs N ds from q)
  | .tuple ds, q => okDs.le h (show okDs N ds from q)
  | .dict _, q => q
theorem okDs.le {N M : Nat} (h : N ≤ M) : ∀ {ds : List PyData}, okDs N ds → okDs M ds
  | [], _ => trivial
  | _ :: _, q => ⟨okD.le h q.1, okDs.le h q.2⟩
end
theorem shown_int {n : Int} (h : n.natAbs < 10 ^ 48) : (PyData.shown (.int n)).length ≤ 60 ∧ PyData.showable (.int n) = true := by
  constructor
  · show (Str.ofString (toString n)).length ≤ 60
    by_cases c : 0 ≤ n
    · exact Nat.le_trans (toString_length_le (k := 48) c (by decide) (by omega)) (by decide)
    · obtain ⟨m, rfl⟩ : ∃ m : Nat, n = Int.negSucc m := ⟨(-n - 1).toNat, by omega⟩
      have e : toString (Int.negSucc m) = "-" ++ Nat.repr (m + 1) := rfl
      have z := toString_length_le (v := ((m + 1 : Nat) : Int)) (k := 48) (by omega) (by decide) (by
        have : (Int.negSucc m).natAbs = m + 1 := rfl
        rw [this] at h
        omega)
      rw [PyProof.Rows.ofString_length] at z ⊢
      have e2 : toString ((m + 1 : Nat) : Int) = Nat.repr (m + 1) := rfl
      rw [e2] at z
      rw [e, String.toList_append, List.length_append]
      have : ("-" : String).toList.length = 1 := rfl
      omega
  · show decide (n.natAbs.log2 < 1920) = true
    refine decide_eq_true ?_
    by_cases c : n.natAbs = 0
    · rw [c]; decide
    · exact Nat.lt_trans ((Nat.log2_lt (k := 200) c).mpr (Nat.lt_trans h (by decide))) (by decide)
mutual
theorem fit_wt {N : Nat} (hN : N < 10 ^ 48) : ∀ {d : PyData}, okD N d → Fit (wt d) d.depth d
  | .none, _ => ⟨rfl, by show (Str.ofString "None").length ≤ 10; decide, Nat.le_refl _⟩
  | .bool b, _ => ⟨rfl, by cases b <;> decide, Nat.le_refl _⟩
  | .int n, q => by
    have z := shown_int (n := n) (Nat.lt_of_le_of_lt (show n.natAbs ≤ N from q) hN)
    exact ⟨z.2, z.1, Nat.le_refl _⟩
  | .str x, q => by
    have z := fit_str (z := x.cps.toList) (n := x.length) q (by rw [Array.length_toList]; exact Nat.le_refl _)
    rw [mkS_of] at z
    exact z.le (by show _ ≤ 10 * x.length + 4; omega) (Nat.zero_le _)
  | .list ds, q => by
    obtain ⟨a, b, c⟩ := fits_wts hN (show okDs N ds from q)
    refine ⟨by simpa only [PyData.showable] using a, ?_, Nat.le_refl _⟩
    simp only [PyData.shown, wt]
    refine Nat.le_trans (listText_len_le _) ?_
    omega
  | .tuple ds, q => by
    obtain ⟨a, b, c⟩ := fits_wts hN (show okDs N ds from q)
    refine ⟨by simpa only [PyData.showable] using a, ?_, Nat.le_refl _⟩
    simp only [PyData.shown, wt]
    refine Nat.le_trans (tupleText_len_le _) ?_
    omega
  | .dict kvs, q => by
    have e : kvs = [] := q
    subst e
    exact ⟨rfl, by decide, Nat.le_refl _⟩
theorem fits_wts {N : Nat} (hN : N < 10 ^ 48) : ∀ {ds : List PyData}, okDs N ds → PyData.showableAll ds = true ∧ ((PyData.shownAll ds).map (·.length)).sum + 2 * (PyData.shownAll ds).length ≤ wts ds ∧ (PyData.shownAll ds).length = ds.length
  | [], _ => ⟨rfl, by simp [PyData.shownAll, wts], rfl⟩
  | d :: r, q => by
    obtain ⟨a, b, c⟩ := fits_wts hN q.2
    have z := fit_wt hN q.1
    refine ⟨by simp only [PyData.showableAll, z.sh, a, Bool.and_self], ?_, by simp only [PyData.shownAll, List.length_cons, c]⟩
    have := z.len
    simp only [PyData.shownAll, List.map_cons, List.sum_cons, List.length_cons, wts]
    omega
end
mutual
theorem wideD_le {n m : Nat} (h : n ≤ m) : ∀ {d : PyData}, wideD n d → wideD m d
  | .none, _ => trivial
  | .bool _, _ => trivial
  | .int _, _ => trivial
  | .str x, q => Nat.le_trans (show x.length ≤ n from q) h
  | .list ds, q => ⟨Nat.le_trans (show ds.length ≤ n ∧ wideDs n ds from q).1 h, wideDs_le h (show ds.length ≤ n ∧ wideDs n ds from q).2⟩
  | .tuple ds, q => ⟨Nat.le_trans (show ds.length ≤ n ∧ wideDs n ds from q).1 h, wideDs_le h (show ds.length ≤ n ∧ wideDs n ds from q).2⟩
  | .dict _, _ => trivial
theorem wideDs_le {n m : Nat} (h : n ≤ m) : ∀ {ds : List PyData}, wideDs n ds → wideDs m ds
  | [], _ => trivial
  | _ :: _, q => ⟨wideD_le h q.1, wideDs_le h q.2⟩
end
mutual
theorem wide_wt : ∀ {d : PyData}, wideD (wt d / 2) d
  | .none => trivial
  | .bool _ => trivial
  | .int _ => trivial
  | .str x => by show x.length ≤ (10 * x.length + 4) / 2; omega
  | .list ds => ⟨by have := wts_len ds; show _ ≤ (wts ds + 4) / 2; omega, wideDs_le (by show wts ds / 2 ≤ (wts ds + 4) / 2; omega) wides_wts⟩
  | .tuple ds => ⟨by have := wts_len ds; show _ ≤ (wts ds + 4) / 2; omega, wideDs_le (by show wts ds / 2 ≤ (wts ds + 4) / 2; omega) wides_wts⟩
  | .dict _ => trivial
theorem wides_wts : ∀ {ds : List PyData}, wideDs (wts ds / 2) ds
  | [] => trivial
  | d :: r => ⟨wideD_le (by simp only [wts]; omega) wide_wt, wideDs_le (by simp only [wts]; omega) wides_wts⟩
end
/-- bounded data: ints by N, weight by n, depth by e -/
structure Bd (N n e : Nat) (D : PyData) : Prop where
  ok : okD N D
  w : wt D ≤ n
  dep : D.depth ≤ e
theorem Bd.le {N n e N' n' e' : Nat} {D : PyData} (h : Bd N n e D) (h1 : N ≤ N') (h2 : n ≤ n') (h3 : e ≤ e') : Bd N' n' e' D := ⟨okD.le h1 h.ok, Nat.le_trans h.w h2, Nat.le_trans h.dep h3⟩
theorem Bd.wide {N n e m : Nat} {D : PyData} (h : Bd N n e D) (hm : n ≤ 2 * m) : wideD m D := wideD_le (by have := h.w; omega) wide_wt
theorem Bd.shows {N n e : Nat} {D : PyData} (h : Bd N n e D) (h1 : N < 10 ^ 48) (h2 : n ≤ 1000000) (h3 : e ≤ 60) : Shows D := ((fit_wt h1 h.ok).le (Nat.le_trans h.w h2) (Nat.le_trans h.dep h3)).shows (Nat.le_refl _) (Nat.le_refl _)
theorem bd_str {N n : Nat} {z : Wd} (h : ∀ c ∈ z, c < 1000) (hn : 10 * z.length + 4 ≤ n) : Bd N n 0 (.str (mkS z)) := ⟨by show ∀ c ∈ (mkS z).cps.toList, c < 1000; rw [mkS_cps]; exact h, by show 10 * (mkS z).length + 4 ≤ n; rw [mkS_length]; exact hn, Nat.zero_le _⟩
theorem bdI {N n : Nat} {i : Int} (h : i.natAbs ≤ N) (hn : 60 ≤ n) : Bd N n 0 (.int i) := ⟨h, hn, Nat.zero_le _⟩
theorem bd_tup {N n e : Nat} {ds : List PyData} : Bd N n (e + 1) (.tuple ds) ↔ okDs N ds ∧ wts ds + 4 ≤ n ∧ PyData.depthAll ds ≤ e := by
  constructor
  · intro h
    have a := h.dep
    simp only [PyData.depth] at a
    exact ⟨h.ok, h.w, by omega⟩
  · rintro ⟨a, b, c⟩
    exact ⟨a, b, by simp only [PyData.depth]; omega⟩
theorem wts_cut (ds : List PyData) (i : Nat) : wts (ds.take i) + wts (ds.drop i) = wts ds := by rw [← wts_app, List.take_append_drop]
theorem ok_take {N : Nat} {ds : List PyData} (h : okDs N ds) (i : Nat) : okDs N (ds.take i) := by
  rw [← List.take_append_drop i ds, okDs_app] at h
  exact h.1
theorem ok_drop {N : Nat} {ds : List PyData} (h : okDs N ds) (i : Nat) : okDs N (ds.drop i) := by
  rw [← List.take_append_drop i ds, okDs_app] at h
  exact h.2
theorem dep_take {e : Nat} {ds : List PyData} (h : PyData.depthAll ds ≤ e) (i : Nat) : PyData.depthAll (ds.take i) ≤ e := by
  rw [← List.take_append_drop i ds, dep_app] at h
  omega
theorem dep_drop {e : Nat} {ds : List PyData} (h : PyData.depthAll ds ≤ e) (i : Nat) : PyData.depthAll (ds.drop i) ≤ e := by
  rw [← List.take_append_drop i ds, dep_app] at h
  omega
/-! ### slices, sums of tuples of data -/
def cutG {α : Type} (xs : List α) (lo hi : Option Int) : List α := (xs.drop (HT.sIx xs.length 0 lo)).take (HT.sIx xs.length xs.length hi - HT.sIx xs.length 0 lo)
theorem dtA_drop {H : Hp} {S : Addr → Prop} : ∀ {vs : List V} {ds : List PyData} (i : Nat), DtAll H S vs ds → DtAll H S (vs.drop i) (ds.drop i)
  | _, _, 0, h => h
  | _, _, _ + 1, .nil => .nil
  | _, _, i + 1, .cons _ r => dtA_drop i r
theorem dtA_take {H : Hp} {S : Addr → Prop} : ∀ {vs : List V} {ds : List PyData} (i : Nat), DtAll H S vs ds → DtAll H S (vs.take i) (ds.take i)
  | _, _, 0, _ => .nil
  | _, _, _ + 1, .nil => .nil
  | _, _, i + 1, .cons h r => .cons h (dtA_take i r)
theorem dtA_cut {H : Hp} {S : Addr → Prop} {vs : List V} {ds : List PyData} (h : DtAll H S vs ds) (lo hi : Option Int) : DtAll H S (cutV vs lo hi) (cutG ds lo hi) := by
  unfold cutV cutG
  rw [dtA_len h]
  exact dtA_take _ (dtA_drop _ h)
theorem cutG_all {α : Type} {xs : List α} {lo hi : Option Int} (h : HT.sIx xs.length 0 lo = 0 ∧ HT.sIx xs.length xs.length hi = xs.length) : cutG xs lo hi = xs := by
  unfold cutG
  rw [h.1, h.2]
  exact List.take_length
theorem cutG_to {α : Type} {xs : List α} {i : Nat} : cutG xs none (some (i : Int)) = xs.take i := by
  unfold cutG
  rw [show HT.sIx xs.length 0 none = 0 from rfl, show HT.sIx xs.length xs.length (some (i : Int)) = min i xs.length from HT.sIx_nat _ _ i, Nat.sub_zero, List.drop_zero]
  by_cases h : i ≤ xs.length
  · rw [Nat.min_eq_left h]
  · rw [Nat.min_eq_right (by omega), List.take_length, List.take_of_length_le (by omega)]
theorem cutG_from {α : Type} {xs : List α} {i : Nat} : cutG xs (some (i : Int)) none = xs.drop i := by
  unfold cutG
  rw [show HT.sIx xs.length xs.length none = xs.length from rfl, show HT.sIx xs.length 0 (some (i : Int)) = min i xs.length from HT.sIx_nat _ _ i]
  by_cases h : i ≤ xs.length
  · rw [Nat.min_eq_left h]
    exact List.take_of_length_le (by rw [List.length_drop]; exact Nat.le_refl _)
  · rw [Nat.min_eq_right (by omega), List.drop_length, List.drop_eq_nil_of_le (by omega)]
    exact List.take_nil
theorem cutG_mid {α : Type} {xs : List α} {i j : Nat} (h : i ≤ j) : cutG xs (some (i : Int)) (some (j : Int)) = (xs.drop i).take (j - i) := by
  unfold cutG
  rw [show HT.sIx xs.length xs.length (some (j : Int)) = min j xs.length from HT.sIx_nat _ _ j, show HT.sIx xs.length 0 (some (i : Int)) = min i xs.length from HT.sIx_nat _ _ i]
  by_cases h1 : i ≤ xs.length
  · rw [Nat.min_eq_left h1]
    by_cases h2 : j ≤ xs.length
    · rw [Nat.min_eq_left h2]
    · rw [Nat.min_eq_right (by omega), List.take_of_length_le (by rw [List.length_drop]; exact Nat.le_refl _), List.take_of_length_le (by rw [List.length_drop]; omega)]
  · have e1 : min i xs.length = xs.length := by omega
    have e2 : min j xs.length = xs.length := by omega
    rw [e1, e2, List.drop_length, List.drop_eq_nil_of_le (by omega), List.take_nil, List.take_nil]
theorem sl_dt {K : PySem.W.Frag} {H : Hp} {S : Addr → Prop} {a : Addr} {xs : List V} {ds : List PyData} {lo hi : Option Int} {Q : V → Hp → Prop} (ea : H a = some (.tup xs)) (sa : S a) (da : DtAll H S xs ds)
    (hn : ∀ p, H p = none → S p) (q : ∀ v H', Same H H' → Dt H' S v (.tuple (cutG ds lo hi)) → Q v H') : rSlA K (.ref a) lo hi H Q := by
  refine ⟨a, xs, rfl, SqT.of ea, fun h => ?_, fun _ p hp => ?_⟩
  · rw [dtA_len da] at h
    refine q _ H (Same.refl H) ?_
    rw [cutG_all h]
    exact .tup ea sa da
  · have s1 := Vf.same_newW hp (.tup (cutV xs lo hi))
    exact q _ _ s1 (.tup upd_same (hn p hp) (dtA_same (dtA_cut da lo hi) s1))
theorem cat_dt {K : PySem.W.Frag} {H : Hp} {S : Addr → Prop} {u v : V} {ds es : List PyData} {Q : V → Hp → Prop} (hu : Dt H S u (.tuple ds)) (hv : Dt H S v (.tuple es)) (hz : ds.length + es.length ≤ sizeLine)
    (hn : ∀ p, H p = none → S p) (q : ∀ v H', Same H H' → Dt H' S v (.tuple (ds ++ es)) → Q v H') : rCatA K u v H Q := by
  obtain ⟨a, xs, rfl, ea, sa, da⟩ := dt_tup hu
  obtain ⟨b, ys, rfl, eb, sb, db⟩ := dt_tup hv
  refine ⟨a, b, xs, ys, rfl, rfl, SqT.of ea, SqT.of eb, by rw [dtA_len da, dtA_len db]; exact hz, fun h => ?_, fun _ h => ?_, fun _ _ p hp => ?_⟩
  · subst h
    have e : ds = [] := by
      have := dtA_len da
      exact List.length_eq_zero_iff.mp this.symm
    subst e
    exact q _ _ (Same.refl H) hv
  · subst h
    have e : es = [] := by
      have := dtA_len db
      exact List.length_eq_zero_iff.mp this.symm
    subst e
    rw [List.append_nil] at q
    exact q _ _ (Same.refl H) hu
  · have s1 := Vf.same_newW hp (.tup (xs ++ ys))
    exact q _ _ s1 (.tup upd_same (hn p hp) (dtA_same (DtAll.append da db) s1))
theorem go2 {f : V → Hp → Prop} {a : V} {H : Hp} (H' : Hp) (e : H = H') (h : f a H') : f a H := e ▸ h
theorem bdN {N n : Nat} (h : 10 ≤ n) : Bd N n 0 .none := ⟨trivial, h, Nat.zero_le _⟩
theorem bdB {N n : Nat} {b : Bool} (h : 10 ≤ n) : Bd N n 0 (.bool b) := ⟨trivial, h, Nat.zero_le _⟩
theorem bdS {N n : Nat} {x : Str} (h : (x.cps.toList.all fun c => decide (c < 1000)) = true) (hl : 10 * x.length + 4 ≤ n) : Bd N n 0 (.str x) := ⟨fun c hc => of_decide_eq_true (List.all_eq_true.mp h c hc), hl, Nat.zero_le _⟩
theorem bdT0 {N n : Nat} (h : 4 ≤ n) : Bd N n 1 (.tuple []) := bd_tup.2 ⟨trivial, by simp only [wts]; omega, by simp only [PyData.depthAll]; omega⟩
theorem bdT1 {N n m e : Nat} {D : PyData} (h : Bd N n e D) (hm : n + 6 ≤ m) : Bd N m (e + 1) (.tuple [D]) := by
  refine bd_tup.2 ⟨⟨h.ok, trivial⟩, ?_, ?_⟩
  · have := h.w
    simp only [wts]
    omega
  · have := h.dep
    simp only [PyData.depthAll]
    omega
theorem bdL0 {N n : Nat} (h : 4 ≤ n) : Bd N n 1 (.list []) := ⟨trivial, by simp only [wt, wts]; omega, by simp only [PyData.depth, PyData.depthAll]; omega⟩
theorem bdL1 {N n m e : Nat} {D : PyData} (h : Bd N n e D) (hm : n + 6 ≤ m) : Bd N m (e + 1) (.list [D]) := by
  refine ⟨⟨h.ok, trivial⟩, ?_, ?_⟩
  · have := h.w
    simp only [wt, wts]
    omega
  · have := h.dep
    simp only [PyData.depth, PyData.depthAll]
    omega
theorem bdD0 {N n : Nat} (h : 10 ≤ n) : Bd N n 1 (.dict []) := ⟨rfl, h, by simp only [PyData.depth, PyData.depthKv]; omega⟩
section
variable {X : Cx}
/-- t == (), whatever the items -/
theorem op_eqNilT (hu : X.A.units + 64 < cLine) : OpR X (compareOp .Eq) (fun x y H Q => ∃ a b xs, x = .ref a ∧ y = .ref b ∧ SqT X.K H a xs ∧ SqT X.K H b [] ∧ Q (.bl xs.isEmpty) H) := by
  intro pins s σ H x y v u Q I rx ry h
  obtain ⟨a, b, xs, rfl, rfl, ha, hb, q⟩ := h
  cases rx
  cases ry
  obtain ⟨is1, r1, p1, _⟩ := I.tuple ha
  obtain ⟨is2, r2, p2, _⟩ := I.tuple hb
  cases r2
  have hu' : X.A.units < cLine := by omega
  refine SeqAt.eq_tupleAt (e := fun _ => true) p1 p2 hu' (fun j _ h2 => absurd h2 (by simp)) ⟨.bl xs.isEmpty, H, I, ?_, q⟩
  show Value.bool _ = Value.bool _
  cases xs with
  | nil => cases r1; rfl
  | cons z zs => cases r1 with
    | cons w ws => simp
end
end Vd

set_option Elab.async false
set_option linter.all false
set_option maxRecDepth 100000
set_option maxHeartbeats 4000000
namespace Vf
open PySem PySem.Spec PyProof.Rows L2
/-! ### the text by places -/
def top (i : Nat) : Stmt := PySem.Challenge.pw_piecesseen_k20_judges_of_any_value.main.body.getD i (.Pass ⟨0, 0, 0, 0⟩)
abbrev sDeck : Stmt := top 12
abbrev sDraw : Stmt := top 13
abbrev sPick : Stmt := top 14
/-! ### the deck, a dict: what holds of it between draws -/
theorem same_new {H : Hp} {p : Addr} (h : H p = none) (o : HO) : Same H (upd H p o) := fun b u q => by rw [upd_ne (ne_of_none q h)]; exact q
abbrev kI : Key := Sum.inr "cells"
abbrev kT : Key := Sum.inr "mixed"
abbrev kD : Key := Sum.inr "draws"
theorem kIT : ¬ kI = kT := by decide
theorem kID : ¬ kI = kD := by decide
theorem kTI : ¬ kT = kI := by decide
theorem kTD : ¬ kT = kD := by decide
theorem kDI : ¬ kD = kI := by decide
theorem kDT : ¬ kD = kT := by decide
abbrev deckL (g : Addr) (m n : Int) : List (Key × V) := [(kI, .ref g), (kT, .int m), (kD, .int n)]
theorem deck_items {g : Addr} {m n : Int} : valV (deckL g m n) kI = some (.ref g) := valV_pos (p := (kI, V.ref g)) rfl
theorem deck_total {g : Addr} {m n : Int} : valV (deckL g m n) kT = some (.int m) := (valV_neg (p := (kI, V.ref g)) kIT).trans (valV_pos (p := (kT, V.int m)) rfl)
theorem deck_draws {g : Addr} {m n : Int} : valV (deckL g m n) kD = some (.int n) := ((valV_neg (p := (kI, V.ref g)) kID).trans (valV_neg (p := (kT, V.int m)) kTD)).trans (valV_pos (p := (kD, V.int n)) rfl)
theorem get_items {H : Hp} {d g : Addr} {m n : Int} (e : H d = some (.dK (deckL g m n))) : DGet H d (.str "cells") (some (.ref g)) := by
  have z := DGet.k (k := kI) e
  rw [deck_items] at z
  exact z
theorem get_total {H : Hp} {d g : Addr} {m n : Int} (e : H d = some (.dK (deckL g m n))) : DGet H d (.str "mixed") (some (.int m)) := by
  have z := DGet.k (k := kT) e
  rw [deck_total] at z
  exact z
theorem get_draws {H : Hp} {d g : Addr} {m n : Int} (e : H d = some (.dK (deckL g m n))) : DGet H d (.str "draws") (some (.int n)) := by
  have z := DGet.k (k := kD) e
  rw [deck_draws] at z
  exact z
theorem deck_put {g : Addr} {m n j : Int} : putK (deckL g m n) kD (.int j) = deckL g m j := by
  have a : ((deckL g m n).any fun kv => decide (kv.1 = kD)) = true := by rw [valV_any, deck_draws]; rfl
  unfold putK
  rw [if_pos a]
  show [(if kI = kD then (kI, V.int j) else (kI, V.ref g)), (if kT = kD then (kT, V.int j) else (kT, V.int m)), (if kD = kD then (kD, V.int j) else (kD, V.int n))] = _
  rw [if_neg kID, if_neg kTD, if_pos rfl]
theorem deck_merge {g : Addr} {m n : Int} : mergeK [] (deckL g m n) = deckL g m n := by
  show putK (putK (putK [] kI (.ref g)) kT (.int m)) kD (.int n) = _
  rw [putK_new (kvs := []) (.ref g) valV_nil]
  rw [putK_new (kvs := [] ++ [(kI, V.ref g)]) (.int m) (valV_neg (p := (kI, V.ref g)) kIT)]
  rw [putK_new (kvs := [] ++ [(kI, V.ref g)] ++ [(kT, V.int m)]) (.int n) ((valV_neg (p := (kI, V.ref g)) kID).trans (valV_neg (p := (kT, V.int m)) kTD))]
  rfl
/-- a deck at d, its items at g, at most c draws so far -/
def DeckAt (c : Nat) (H : Hp) (d g : Addr) : Prop := ∃ (ns : List Int) (m n : Int), H d = some (.dK (deckL g m n)) ∧ H g = some (.lst (ns.map V.int)) ∧ ns.length ≤ 63 ∧ d ≠ g ∧ 0 ≤ n ∧ n ≤ c
/-- all that was tracked stands, but for d and g -/
def Keeps (d g : Addr) (H H' : Hp) : Prop := ∀ b o, b ≠ d → b ≠ g → H b = some o → H' b = some o
theorem Keeps.refl (d g : Addr) (H : Hp) : Keeps d g H H := fun _ _ _ _ h => h
theorem Keeps.trans {d g : Addr} {H H1 H2 : Hp} (a : Keeps d g H H1) (b : Keeps d g H1 H2) : Keeps d g H H2 := fun c o n1 n2 h => b c o n1 n2 (a c o n1 n2 h)
theorem Keeps.of {d g : Addr} {H H' : Hp} (s : Same H H') : Keeps d g H H' := fun b o _ _ h => s b o h
theorem Keeps.upd_d {d g : Addr} {H H' : Hp} (k : Keeps d g H H') (o : HO) : Keeps d g H (upd H' d o) := fun b u n1 n2 h => by rw [upd_ne n1]; exact k b u n1 n2 h
theorem Keeps.upd_g {d g : Addr} {H H' : Hp} (k : Keeps d g H H') (o : HO) : Keeps d g H (upd H' g o) := fun b u n1 n2 h => by rw [upd_ne n2]; exact k b u n1 n2 h
theorem DeckAt.same {c : Nat} {H H' : Hp} {d g : Addr} (h : DeckAt c H d g) (s : Same H H') : DeckAt c H' d g := by
  obtain ⟨ns, m, n, h1, h2, h3⟩ := h
  exact ⟨ns, m, n, s _ _ h1, s _ _ h2, h3⟩
theorem DeckAt.le {c c' : Nat} {H : Hp} {d g : Addr} (h : DeckAt c H d g) (e : c ≤ c') : DeckAt c' H d g := by
  obtain ⟨ns, m, n, h1, h2, h3, h4, h5, h6⟩ := h
  exact ⟨ns, m, n, h1, h2, h3, h4, h5, by omega⟩
theorem DeckAt.other {c : Nat} {H : Hp} {d g p : Addr} (h : DeckAt c H d g) (n1 : p ≠ d) (n2 : p ≠ g) (o : HO) : DeckAt c (upd H p o) d g := by
  obtain ⟨ns, m, n, h1, h2, h3⟩ := h
  exact ⟨ns, m, n, by rw [upd_ne n1.symm]; exact h1, by rw [upd_ne n2.symm]; exact h2, h3⟩
theorem DeckAt.dn {c : Nat} {H : Hp} {d g p : Addr} (h : DeckAt c H d g) (hp : H p = none) : p ≠ d ∧ p ≠ g := by
  obtain ⟨ns, m, n, h1, h2, _⟩ := h
  exact ⟨(ne_of_none h1 hp).symm, (ne_of_none h2 hp).symm⟩
theorem Keeps.free {d g t : Addr} {H H' : Hp} (k : Keeps d g H H') (n1 : t ≠ d) (n2 : t ≠ g) (e : H' t = none) : H t = none := by
  cases z : H t with
  | none => rfl
  | some u =>
    have y := k t u n1 n2 z
    rw [e] at y
    exact nomatch y
theorem Keeps.seq {K : PySem.W.Frag} {d g a : Addr} {H H' : Hp} {xs : List V} (k : Keeps d g H H') (n1 : a ≠ d) (n2 : a ≠ g) (h : SqL K H a xs) : SqL K H' a xs := by
  rcases h with (h | ⟨o, h⟩) | h
  · exact .inl (.inl (k _ _ n1 n2 h))
  · exact .inl (.inr ⟨o, k _ _ n1 n2 h⟩)
  · exact .inr h
/-- so many draws and no more -/
def most : Nat := 1000000000000
/-! ### promises -/
def spDeck (K : PySem.W.Frag) : Sp := fun vs H Q _ => ∃ (a : Addr) (ns : List Int), vs = [.ref a] ∧ SqL K H a (ns.map V.int) ∧ ns.length ≤ 63 ∧
  ∀ (d g : Addr) (H' : Hp), Same H H' → H d = none → H g = none → DeckAt 0 H' d g → Q (.ref d) H'
def spDraw : Sp := fun vs H Q _ => ∃ (d g : Addr) (b : Int) (c : Nat), vs = [.ref d, .int b] ∧ 0 < b ∧ b < 1073741824 ∧ DeckAt c H d g ∧ c < most ∧
  ∀ (r : Int) (H' : Hp), 0 ≤ r → r < b → DeckAt (c + 1) H' d g → Keeps d g H H' → Q (.int r) H'
def spPick (K : PySem.W.Frag) : Sp := fun vs H Q _ => ∃ (d g p : Addr) (xs : List V) (c : Nat), vs = [.ref d, .ref p] ∧ (SqL K H p xs) ∧ p ≠ d ∧ p ≠ g ∧ xs ≠ [] ∧ xs.length < 1000000 ∧ DeckAt c H d g ∧ c < most ∧
  ∀ (x : V) (H' : Hp), x ∈ xs → DeckAt (c + 1) H' d g → Keeps d g H H' → Q x H'
def spPickS : Sp := fun vs H Q _ => ∃ (d g : Addr) (z : Str) (c : Nat), vs = [.ref d, .str z] ∧ 0 < z.length ∧ z.length < 1000000 ∧ DeckAt c H d g ∧ c < most ∧
  ∀ (x : Nat) (H' : Hp), x ∈ z.cps.toList → DeckAt (c + 1) H' d g → Keeps d g H H' → Q (.str ⟨#[x]⟩) H'
/-- what the top leaves of the names that these defs use -/
structure TxtD (mg : Str → Option Value) (fW : Addr) : Prop where
  list : mg "list" = none
  int : mg "int" = none
  len : mg "len" = none
  draw : mg "_law_draw" = some (.ref fW)
section
variable {P : Program} {w : World} {K : PySem.W.Frag} {mg : Str → Option Value} {base : Heap}
theorem scDeck : FnScope ["_law_script", "_law_cells", "_law_mixed", "_law_cell"] ["_law_script"] (defScope sDeck) := ⟨rfl, rfl, rfl, by decide +kernel, rfl, by decide +kernel, by decide +kernel⟩
theorem int_at {ns : List Int} {i : Nat} {y : V} (h : (ns.map V.int)[i]? = some y) : ∃ z : Int, ns[i]? = some z ∧ y = .int z := by
  rw [List.getElem?_map] at h
  cases e : ns[i]? with
  | none => rw [e] at h; cases h
  | some z => rw [e] at h; exact ⟨z, rfl, (Option.some.inj h).symm⟩
theorem cut63 {xs : List V} (h : xs.length ≤ 63) : cutV xs none (some 63) = xs := by
  unfold cutV
  have e1 : HT.sIx xs.length 0 none = 0 := rfl
  have e2 : HT.sIx xs.length xs.length (some 63) = min 63 xs.length := HT.sIx_nat _ _ 63
  rw [e1, e2, List.drop_zero]
  exact List.take_of_length_le (by omega)
theorem ok_deck {f : Addr} {fd : FuncData} {fW : Addr} (F : Fun K "_law_deck" "_law_deck" sDeck f fd) (T : TxtD mg fW) : FnOk P w K mg base CX0 1 f fd ["_law_script"] (spDeck K) := by
  refine F.ok scDeck (fun vs H Q E h => ?_) (fun cdv A outer s H vs Q E hr h => ?_)
  · obtain ⟨a, ns, rfl, _⟩ := h
    rfl
  obtain ⟨a, ns, rfl, hS, h63, k⟩ := h
  refine ⟨_, pss_cons (ps_par (i := 1) (j := 2) rfl scDeck.nd rfl rfl (by decide) rfl rfl (pa_cons (pe_callTy call_list_of (by rfl) T.list (by decide +kernel) (pa_cons (pe_slice sl_list (pv 0) po_none (po_some pe_int)) pa_nil)) (pa_cons pe_int pa_nil)) (by rfl))
    (pss_cons (ps_for PassesOwn.never rfl (pi_list (pv 1)) (pg_name (i := 3) scDeck.nd rfl (Or.inl rfl))
      (pss_one (ps_set (i := 2) scDeck.nd rfl (Or.inl rfl) (pe_op op_mod (pe_callTy call_int1 (by rfl) T.int (by decide +kernel) (pa_cons (pe_op op_add (pe_op op_add (pe_op op_mul (pv 2) pe_int) (pe_op op_mod (pe_callTy call_int1 (by rfl) T.int (by decide +kernel) (pa_cons (pv 3) pa_nil)) pe_int)) pe_int) pa_nil)) pe_int))))
    (pss_one (ps_ret (pe_disp (pps_cons pe_str (pe_revL (pv 1)) (pps_cons pe_str (pv 2) (pps_cons pe_str pe_int pps_nil))) (by rfl) (by rfl) (fun z => by cases z) (by decide))))), ?_⟩
  have hlm : (ns.map V.int).length = ns.length := List.length_map _
  refine ⟨_, rfl, _, rfl, a, _, rfl, hS, fun p hp => ?_⟩
  rw [cut63 (by rw [hlm]; exact h63)]
  refine ⟨p, _, rfl, .inl (SqL.of upd_same), fun l hl => ?_⟩
  refine ⟨_, _, rfl, ?_⟩
  have s1 : Same H (upd (upd H p (.lst (ns.map V.int))) l (.lst (ns.map V.int))) := (same_new hp _).trans (same_new hl _)
  have hl0 : H l = none := (same_new hp _).free hl
  refine ⟨_, rfl, l, rfl, ⟨_, SqL.of upd_same⟩, for_list (K := K) (a := l) (xs := ns.map V.int) (fun i σ H' => ∃ (m : Int) (v : Option V), σ = [some (.ref a), some (.ref l), some (.int m), v] ∧ -4294967296 < m ∧ m < 4294967296 ∧ H' = upd (upd H p (.lst (ns.map V.int))) l (.lst (ns.map V.int)))
    ⟨_, none, rfl, by decide, by decide, rfl⟩ (fun i σ H' _ ⟨_, _, _, _, _, e⟩ => e ▸ SqL.of upd_same) ?_ ?_⟩
  · rintro i y σ H' hi ⟨m, v, rfl, hm0, hm1, rfl⟩
    obtain ⟨z, _, rfl⟩ := int_at hi
    refine ⟨_, rfl, _, _, rfl, rfl, .inr ⟨by decide, by decide⟩, _, rfl, .inl ⟨_, rfl, _, _, rfl, rfl, (by show (0 : Int) < _; decide), _, _, rfl, rfl, _, _, rfl, rfl, .inl ⟨_, rfl, _, _, rfl, rfl, (by show (0 : Int) < _; decide), ?_⟩⟩⟩
    refine ⟨_, some (.int z), rfl, ?_, ?_, rfl⟩
    · exact Int.lt_of_lt_of_le (by decide) (Int.emod_nonneg _ (by decide))
    · exact Int.lt_trans (Int.emod_lt_of_pos _ (by decide)) (by decide)
  · rintro σ H' ⟨m, v, rfl, hm0, hm1, rfl⟩
    intro d hd
    have s2 := s1.trans (same_new hd (.dK []))
    have e1 := same_new hd (.dK []) _ _ (upd_same (H := upd H p (.lst (ns.map V.int))) (a := l) (o := .lst (ns.map V.int)))
    refine ⟨_, rfl, l, _, rfl, SqL.of e1, fun g hg => ?_⟩
    have gd : g ≠ d := (ne_of_none upd_same hg).symm
    refine ⟨_, rfl, ?_⟩
    refine ⟨by rw [upd_ne gd.symm]; exact upd_same, deckL g m 0, rfl, (by show 3 ≤ 15; decide), ?_⟩
    rw [deck_merge]
    refine k d g _ (fun b o e => ?_) (s1.free hd) (s2.free hg) ⟨ns.reverse, m, 0, upd_same, ?_, by rw [List.length_reverse]; exact h63, gd.symm, Int.le_refl _, Int.le_refl _⟩
    · rw [upd_ne (ne_of_none e (s1.free hd))]
      exact (same_new hg _) _ _ (s2 _ _ e)
    · rw [upd_ne gd, upd_same, List.map_reverse]
/-! ### a draw -/
theorem scDraw : FnScope ["_law_deck_here", "_law_many", "_law_turn", "_law_cell", "_law_found"] ["_law_deck_here", "_law_many"] (defScope sDraw) := ⟨rfl, rfl, rfl, by decide +kernel, rfl, by decide +kernel, by decide +kernel⟩
theorem canLay_ints : ∀ ns : List Int, PyData.canLayAll0 (ns.map .int) = true
  | [] => rfl
  | n :: r => by simp only [List.map, PyData.canLayAll0, PyData.canLay0, canLay_ints r, Bool.and_self]
theorem depth_ints : ∀ ns : List Int, PyData.depthAll (ns.map .int) = 0
  | [] => rfl
  | n :: r => by simp only [List.map, PyData.depthAll, PyData.depth, depth_ints r, Nat.max_self]
theorem shaped_ints (ns : List Int) : SeqAt.shaped (.list (ns.map .int)) = true := by
  simp [SeqAt.shaped, PyData.canLay0, canLay_ints, PyData.depth, depth_ints]
theorem eqv_nil (ns : List Int) : PyData.eqv (.list (ns.map .int)) (.list []) = ns.isEmpty := by
  cases ns <;> simp [PyData.eqv, PyData.eqvAll]
theorem dpAll_ints {H : Hp} : ∀ ns : List Int, DpAll K H (ns.map V.int) (ns.map .int)
  | [] => .nil
  | n :: r => .cons (.int n) (dpAll_ints r)
theorem dp_ints {H : Hp} {a : Addr} {ns : List Int} (h : SqL K H a (ns.map V.int)) : Dp K H (.ref a) (.list (ns.map .int)) := .lst h (dpAll_ints ns)
theorem ok_draw {f : Addr} {fd : FuncData} {fW : Addr} (F : Fun K "_law_draw" "_law_draw" sDraw f fd) (T : TxtD mg fW) : FnOk P w K mg base CX0 1 f fd ["_law_deck_here", "_law_many"] spDraw := by
  refine F.ok scDraw (fun vs H Q E h => ?_) (fun cdv A outer s H vs Q E hr h => ?_)
  · obtain ⟨d, g, b, c, rfl, _⟩ := h
    rfl
  obtain ⟨d, g, b, c, rfl, hb0, hb1, ⟨ns, m, n, h1, h2, h63, hdg, hn0, hn1⟩, hc, k⟩ := h
  unfold most at hc
  refine ⟨_, pss_cons (ps_dput (hu_of hr) (pv 0) pe_str (pe_op op_add (pe_dget (hu_of hr) (pv 0) pe_str (fun _ _ => rfl)) pe_int) rfl)
    (pss_cons (ps_par (i := 2) (j := 3) rfl scDraw.nd rfl rfl (by decide) rfl rfl (pa_cons (pe_dget (hu_of hr) (pv 0) pe_str (fun _ _ => rfl)) (pa_cons (pe_dget (hu_of hr) (pv 0) pe_str (fun _ _ => rfl)) pa_nil)) (by rfl))
    (C8.pss_cut (ps_if (pt_cmpR (op_neD hr.units) (pe_dget (hu_of hr) (pv 0) pe_str (fun _ _ => rfl)) (pe_lst pa_nil) (nomark _))
        (pss_cons (ps_set (i := 3) scDraw.nd rfl (Or.inl rfl) (pe_bm0 PySem.F.plainAttrs_list PySem.F.slot_list_pop PySem.F.type_list_pop mt_pop (pe_dget (hu_of hr) (pv 0) pe_str (fun _ _ => rfl))))
        (pss_cons (ps_if (pt_cmpR op_ge (pv 3) (pe_op op_pow pe_int pe_int) (nomark _))
            (pss_cons (ps_expr (pe_bm PySem.F.plainAttrs_list PySem.F.slot_list_append PySem.F.type_list_append mt_append (pe_dget (hu_of hr) (pv 0) pe_str (fun _ _ => rfl)) (pa_cons (pe_op op_fdivN (pv 3) (pv 1)) pa_nil)))
            (pss_one (ps_ret (pe_op op_modN (pe_callTy call_int1 (by rfl) T.int (by decide +kernel) (pa_cons (pv 3) pa_nil)) (pv 1))))) pss_nil)
        (pss_one (ps_set (i := 3) scDraw.nd rfl (Or.inl rfl) (pe_op op_add (pv 3) (pe_dget (hu_of hr) (pv 0) pe_str (fun _ _ => rfl))))))) pss_nil)
    (pss_cons (ps_set (i := 4) scDraw.nd rfl (Or.inl rfl) (pe_op op_mod (pe_op op_mul (pe_callTy call_int1 (by rfl) T.int (by decide +kernel) (pa_cons (pe_op op_add (pe_op op_add (pe_op op_mod (pe_callTy call_int1 (by rfl) T.int (by decide +kernel) (pa_cons (pv 3) pa_nil)) pe_int) (pe_op op_mul (pe_op op_mul pe_int (pv 2)) (pv 2))) pe_int) pa_nil)) pe_int) pe_int))
    (pss_cons (ps_set (i := 4) scDraw.nd rfl (Or.inl rfl) (pe_op op_mod (pe_callTy call_int1 (by rfl) T.int (by decide +kernel) (pa_cons (pe_op op_add (pe_op op_add (pe_op op_mul (pv 4) (pv 4)) (pe_op op_mul pe_int (pv 2))) pe_int) pa_nil)) pe_int))
    (pss_one (ps_ret (pe_op op_modN (pe_op op_fdiv (pe_op op_mod (pe_callTy call_int1 (by rfl) T.int (by decide +kernel) (pa_cons (pe_op op_mul (pv 4) pe_int) pa_nil)) pe_int) pe_int) (pv 1)))))))), ?_⟩
  -- one draw more
  refine ⟨_, rfl, d, _, rfl, get_draws h1, _, _, rfl, rfl, _, rfl, d, _, rfl, DPut.k (k := kD) h1 (by show 3 < sizeLine; decide), ?_⟩
  rw [deck_put]
  have hgd : g ≠ d := hdg.symm
  have e1 : upd H d (.dK (deckL g m (n + 1))) d = some (.dK (deckL g m (n + 1))) := upd_same
  have e2 : upd H d (.dK (deckL g m (n + 1))) g = some (.lst (ns.map V.int)) := by rw [upd_ne hgd]; exact h2
  have kp : Keeps d g H (upd H d (.dK (deckL g m (n + 1)))) := (Keeps.refl d g H).upd_d _
  generalize upd H d (.dK (deckL g m (n + 1))) = H1 at e1 e2 kp ⊢
  refine ⟨_, rfl, d, _, rfl, get_draws e1, _, rfl, d, .int m, rfl, get_total e1, _, _, rfl, ?_⟩
  -- what stands behind the if
  refine ⟨fun σ H' => ∃ (x : Int) (v : Option V), σ = [some (.ref d), some (.int b), some (.int (n + 1)), some (.int x), v] ∧ DeckAt (c + 1) H' d g ∧ Keeps d g H H', ?_, ?_⟩
  · refine ⟨_, rfl, d, .ref g, rfl, get_items e1, Nat.zero_le _, fun p hp => ?_⟩
    have hpd : p ≠ d := (ne_of_none e1 hp).symm
    have hpg : p ≠ g := (ne_of_none e2 hp).symm
    have e3 : upd H1 p (.lst []) d = some (.dK (deckL g m (n + 1))) := by rw [upd_ne hpd.symm]; exact e1
    have e4 : upd H1 p (.lst []) g = some (.lst (ns.map V.int)) := by rw [upd_ne hpg.symm]; exact e2
    have kp1 : Keeps d g H (upd H1 p (.lst [])) := kp.trans (.of (same_new hp _))
    refine ⟨_, _, dp_ints (SqL.of e4), .lst (SqL.of upd_same) .nil, shaped_ints ns, rfl, _, rfl, ?_⟩
    rw [eqv_nil]
    generalize upd H1 p (.lst []) = H2 at e3 e4 kp1
    rcases List.eq_nil_or_concat ns with rfl | ⟨ms, z, rfl⟩
    · rw [if_neg (by simp)]
      exact ⟨_, none, rfl, ⟨[], m, n + 1, e3, e4, Nat.zero_le _, hdg, by omega, by omega⟩, kp1⟩
    · rw [if_pos (by simp)]
      rw [List.concat_eq_append, List.map_append] at e4
      rw [List.concat_eq_append] at h63
      have e4' : H2 g = some (.lst (ms.map V.int ++ [V.int z])) := e4
      have hlast : (ms.map V.int ++ [V.int z])[(ms.map V.int ++ [V.int z]).length - 1]? = some (V.int z) := by simp
      have hms : ms.length + 1 ≤ 63 := by rw [List.length_append, List.length_singleton] at h63; exact h63
      refine ⟨_, rfl, d, .ref g, rfl, get_items e3, .inl ⟨rfl, _, SqL.of e4'⟩, g, _, _, rfl, rfl, e4', hlast, ?_⟩
      have e5 : upd H2 g (.lst (ms.map V.int ++ [V.int z]).dropLast) d = some (.dK (deckL g m (n + 1))) := by rw [upd_ne hdg]; exact e3
      have e6 : upd H2 g (.lst (ms.map V.int ++ [V.int z]).dropLast) g = some (.lst (ms.map V.int)) := by rw [upd_same, List.dropLast_concat]
      have kp3 : Keeps d g H (upd H2 g (.lst (ms.map V.int ++ [V.int z]).dropLast)) := kp1.upd_g _
      generalize upd H2 g (.lst (ms.map V.int ++ [V.int z]).dropLast) = H3 at e5 e6 kp3
      refine ⟨_, rfl, _, _, rfl, rfl, ⟨by decide, by decide, by decide⟩, _, _, rfl, rfl, _, rfl, ?_⟩
      refine ite2 (fun _ => ?_) (fun _ => ?_)
      · refine ⟨_, rfl, d, .ref g, rfl, get_items e5, .inl ⟨rfl, _, SqL.of e6⟩, _, rfl, _, rfl, _, _, rfl, rfl, ⟨by omega, by omega⟩, g, _, _, rfl, rfl, e6, ?_, ?_⟩
        · rw [List.length_map]
          exact small1000 (by omega)
        · refine ⟨_, rfl, .inl ⟨_, rfl, _, rfl, _, _, rfl, rfl, (by show b ≠ 0; omega), ?_⟩⟩
          refine k _ _ (Int.fmod_nonneg_of_pos _ hb0) (Int.fmod_lt_of_pos _ hb0) ⟨ms ++ [z.fdiv b], m, n + 1, ?_, ?_, ?_, hdg, by omega, by omega⟩ (kp3.upd_g _)
          · rw [upd_ne hdg]; exact e5
          · rw [upd_same, List.map_append]; rfl
          · rw [List.length_append, List.length_singleton]; exact hms
      · refine ⟨_, rfl, _, rfl, d, .int m, rfl, get_total e5, _, _, rfl, rfl, ?_⟩
        exact ⟨_, _, rfl, ⟨ms, m, n + 1, e5, e6, by omega, hdg, by omega, by omega⟩, kp3⟩
  · rintro σ H2 ⟨x, v, rfl, hD2, kp2⟩
    have hm0 : -18446744073709551616 < n + 1 := by omega
    have hm1 : n + 1 < 18446744073709551616 := by omega
    refine ⟨_, rfl, .inl ⟨_, rfl, _, _, rfl, rfl, (by show (0 : Int) < _; decide), _, rfl, _, _, rfl, rfl, .inl ⟨by decide, by decide⟩, _, rfl, _, _, rfl, rfl, .inr ⟨hm0, hm1⟩, _, _, rfl, rfl, _, _, rfl, rfl, .inl ⟨_, rfl, _, _, rfl, rfl, .inr ⟨by decide, by decide⟩, _, _, rfl, rfl, (by show (0 : Int) < _; decide), ?_⟩⟩⟩
    refine ⟨_, rfl, _, rfl, _, _, rfl, rfl, .inl ⟨?b1, ?b2⟩, ?_⟩
    case b1 => exact Int.lt_of_lt_of_le (by decide) (Int.emod_nonneg _ (by decide))
    case b2 => exact Int.lt_trans (Int.emod_lt_of_pos _ (by decide)) (by decide)
    refine ⟨_, rfl, _, _, rfl, rfl, .inl ⟨by decide, by decide⟩, _, _, rfl, rfl, _, _, rfl, rfl, .inl ⟨_, rfl, _, _, rfl, rfl, (by show (0 : Int) < _; decide), ?_⟩⟩
    refine ⟨_, rfl, _, _, rfl, rfl, .inr ⟨by decide, by decide⟩, .inl ⟨_, rfl, _, _, rfl, rfl, (by show (0 : Int) < _; decide), _, _, rfl, rfl, ⟨by decide, by decide⟩, _, rfl, _, _, rfl, rfl, (by show b ≠ 0; omega), ?_⟩⟩
    exact k _ H2 (Int.fmod_nonneg_of_pos _ hb0) (Int.fmod_lt_of_pos _ hb0) hD2 kp2
/-! ### a pick -/
theorem scPick : FnScope ["_law_deck_here", "_law_some_here"] ["_law_deck_here", "_law_some_here"] (defScope sPick) := ⟨rfl, rfl, rfl, by decide +kernel, rfl, by decide +kernel, by decide +kernel⟩
theorem ok_pick {f : Addr} {fd : FuncData} {fW : Addr} {fdW : FuncData} (F : Fun K "_law_pick" "_law_pick" sPick f fd) (FW : Fun K "_law_draw" "_law_draw" sDraw fW fdW) (bW : Binds K fdW ["_law_deck_here", "_law_many"] []) (T : TxtD mg fW) : FnOk P w K mg base CX0 2 f fd ["_law_deck_here", "_law_some_here"] (spPick K) := by
  have GW : FnOk P w K mg base CX0 1 fW fdW ["_law_deck_here", "_law_many"] spDraw := ok_draw FW T
  refine F.ok scPick (fun vs H Q E h => ?_) (fun cdv A outer s H vs Q E hr h => ?_)
  · obtain ⟨d, g, p, xs, c, rfl, _⟩ := h
    rfl
  obtain ⟨d, g, p, xs, c, rfl, hS, n1, n2, hne, hlen, hD, hc, k⟩ := h
  refine ⟨_, pss_one (ps_ret (pe_ix ix_list (pv 1) (pe_call GW hr rfl T.draw FW.kp bW .nil pass0 (pa_cons (pv 0) (pa_cons (pe_callB call_len_seq (by rfl) T.len PySem.boot_len (pa_cons (pv 1) pa_nil)) pa_nil))) (fun _ _ => rfl))), ?_⟩
  have hpos : 0 < xs.length := List.length_pos_iff.mpr hne
  refine ⟨_, rfl, _, rfl, _, rfl, p, _, rfl, .inl hS, d, g, _, c, rfl, by omega, by omega, hD, hc, fun r H' h0 h1 hD' kp => ?_⟩
  have hr : r.toNat < xs.length := by omega
  have er : r = ((r.toNat : Nat) : Int) := by omega
  have hx : atI xs r = some xs[r.toNat] := at_of er (List.getElem?_eq_getElem hr)
  exact ⟨p, _, r, _, rfl, rfl, kp.seq n1 n2 hS, hx, k _ H' (List.getElem_mem hr) hD' kp⟩
theorem ok_pickS {f : Addr} {fd : FuncData} {fW : Addr} {fdW : FuncData} (F : Fun K "_law_pick" "_law_pick" sPick f fd) (FW : Fun K "_law_draw" "_law_draw" sDraw fW fdW) (bW : Binds K fdW ["_law_deck_here", "_law_many"] []) (T : TxtD mg fW) : FnOk P w K mg base CX0 2 f fd ["_law_deck_here", "_law_some_here"] spPickS := by
  have GW : FnOk P w K mg base CX0 1 fW fdW ["_law_deck_here", "_law_many"] spDraw := ok_draw FW T
  refine F.ok scPick (fun vs H Q E h => ?_) (fun cdv A outer s H vs Q E hr h => ?_)
  · obtain ⟨d, g, z, c, rfl, _⟩ := h
    rfl
  obtain ⟨d, g, z, c, rfl, hpos, hlen, hD, hc, k⟩ := h
  refine ⟨_, pss_one (ps_ret (pe_ix ix_str (pv 1) (pe_call GW hr rfl T.draw FW.kp bW .nil pass0 (pa_cons (pv 0) (pa_cons (pe_callB call_len_str (by rfl) T.len PySem.boot_len (pa_cons (pv 1) pa_nil)) pa_nil))) (fun _ _ => rfl))), ?_⟩
  have hz : z.length ≤ sizeLine := Nat.le_trans (Nat.le_of_lt hlen) (by decide)
  refine ⟨_, rfl, _, rfl, _, rfl, _, rfl, hz, d, g, _, c, rfl, by omega, by omega, hD, hc, fun r H' h0 h1 hD' kp => ?_⟩
  have hl : z.cps.toList.length = z.length := by rw [Array.length_toList]; rfl
  have hr : r.toNat < z.cps.toList.length := by omega
  have er : r = ((r.toNat : Nat) : Int) := by omega
  have hx : atI z.cps.toList r = some z.cps.toList[r.toNat] := by
    rw [show atI z.cps.toList r = atI z.cps.toList ((r.toNat : Nat) : Int) from congrArg _ er]
    exact atI_nat (List.getElem?_eq_getElem hr)
  exact ⟨z, r, _, rfl, rfl, hz, hx, k _ H' (List.getElem_mem hr) hD' kp⟩
end
end Vf

set_option Elab.async false
set_option linter.all false
set_option maxRecDepth 100000
set_option maxHeartbeats 4000000
namespace Vf
open PySem PySem.Spec PyProof.Rows L2 L2.Vx Vs Vm Vd
abbrev sWhole : Stmt := top 1
abbrev sAsc : Stmt := top 2
abbrev sText : Stmt := top 4
abbrev sWordQ : Stmt := top 6
abbrev sWordsQ : Stmt := top 8
/-! ### what a value is, by the program -/
def spAsk (g : PyData → Bool) : Sp := fun vs H Q _ => ∃ (v : V) (D : PyData) (S : Addr → Prop), vs = [v] ∧ Dt H S v D ∧ ∀ H', Same H H' → Q (.bl (g D)) H'
def spText : Sp := fun vs H Q _ => ∃ (sg : Wd) (v : V) (D : PyData) (S : Addr → Prop), vs = [.str (mkS sg), v] ∧ Dt H S v D ∧ wideD 100000 D ∧ ∀ H', Same H H' → Q (.bl (textD sg D)) H'
def spWordQ : Sp := fun vs H Q _ => ∃ (sg : Wd) (n : Int) (v : V) (D : PyData) (S : Addr → Prop), vs = [.str (mkS sg), .int n, v] ∧ Dt H S v D ∧ wideD 100000 D ∧ ∀ H', Same H H' → Q (.bl (wordDB sg n D)) H'
def spAscW : Sp := fun vs H Q _ => ∃ (a : Addr) (xs : List Wd), vs = [.ref a] ∧ H a = some (.tup ((xs.map mkS).map .str)) ∧ xs.length ≤ 100000 ∧ ∀ H', Same H H' → Q (.bl (riseB ltW xs)) H'
structure TxtI (mg : Str → Option Value) : Prop where
  isi : mg "isinstance" = none
  int : mg "int" = none
  bool : mg "bool" = none
  str : mg "str" = none
  tuple : mg "tuple" = none
  len : mg "len" = none
  all : mg "all" = none
  zip : mg "zip" = none
theorem walk_zipT {K : PySem.W.Frag} {a b : Addr} {xs ys : List V} {n : Nat} (hn : n = min xs.length ys.length) : Walk (RZ.ItzT K a b) n (fun H => SqT K H a xs ∧ SqT K H b ys) (YPair (fun i => xs[i]?) (fun i => ys[i]?)) := by
  refine ⟨fun i _ hi q => ⟨xs, ys, xs[i]'(by omega), ys[i]'(by omega), q.1, q.2, List.getElem?_eq_getElem _, List.getElem?_eq_getElem _⟩, fun _ q => ⟨xs, ys, q.1, q.2, by omega⟩, fun i H v H' _ q z => ?_⟩
  obtain ⟨T, x, y, h1, h2, h3, h4, h5⟩ := z
  exact ⟨T, x, y, h1, h2, h3, h4 xs q.1, h5 ys q.2⟩
theorem cutV1 (xs : List V) : cutV xs (some 1) none = xs.drop 1 := by
  unfold cutV
  rw [show HT.sIx xs.length 0 (some 1) = min 1 xs.length from HT.sIx_nat xs.length 0 1, HT.sIx_none]
  cases xs with
  | nil => rfl
  | cons x r =>
    rw [show min 1 (x :: r).length = 1 by rw [List.length_cons]; omega]
    exact List.take_of_length_le (by rw [List.length_drop]; exact Nat.le_refl _)
theorem str_atW {ks : List Wd} {i : Nat} {y : V} (h : ((ks.map mkS).map V.str)[i]? = some y) : ∃ p, ks[i]? = some p ∧ y = .str (mkS p) := by
  rw [List.getElem?_map, List.getElem?_map] at h
  cases e : ks[i]? with
  | none => rw [e] at h; cases h
  | some p => rw [e] at h; exact ⟨p, rfl, (Option.some.inj h).symm⟩
/-- the neighbours so far -/
def risen {α : Type} (lt : α → α → Bool) (xs : List α) (i : Nat) : List Bool := ((xs.zip (xs.drop 1)).take i).map fun p => lt p.1 p.2
theorem risen_next {α : Type} {lt : α → α → Bool} {xs : List α} {i : Nat} {p q : α} (hp : xs[i]? = some p) (hq : xs[i + 1]? = some q) : risen lt xs (i + 1) = risen lt xs i ++ [lt p q] := by
  unfold risen
  have e : (xs.zip (xs.drop 1))[i]? = some (p, q) := by
    rw [List.getElem?_zip_eq_some]
    refine ⟨hp, ?_⟩
    rw [List.getElem?_drop, Nat.add_comm]
    exact hq
  rw [List.take_add_one, e, List.map_append]
  rfl
theorem risen_all {α : Type} {lt : α → α → Bool} {xs : List α} : (risen lt xs (xs.length - 1)).all id = riseB lt xs := by
  unfold risen riseB
  rw [List.take_of_length_le (by rw [List.length_zip, List.length_drop]; omega), List.all_map]
  rfl
theorem risen_len {α : Type} {lt : α → α → Bool} {xs : List α} {i : Nat} : (risen lt xs i).length ≤ i := by
  unfold risen
  rw [List.length_map, List.length_take]
  omega
section
variable {P : Program} {w : World} {K : PySem.W.Frag} {mg : Str → Option Value} {base : Heap}
theorem scWhole : FnScope ["thing"] ["thing"] (defScope sWhole) := ⟨rfl, rfl, rfl, by decide +kernel, rfl, by decide +kernel, by decide +kernel⟩
theorem ok_whole {f : Addr} {fd : FuncData} (F : Fun K "is_whole" "is_whole" sWhole f fd) (T : TxtI mg) : FnOk P w K mg base CX0 1 f fd ["thing"] (spAsk isInt) := by
  refine F.ok scWhole (fun vs H Q E h => ?_) (fun cdv A outer s H vs Q E hr h => ?_)
  · obtain ⟨v, D, S, rfl, _⟩ := h
    rfl
  obtain ⟨v, D, S, rfl, hd, q⟩ := h
  refine ⟨_, pss_one (ps_ret (pe_and (pe_callB call_isi (by rfl) T.isi (by decide +kernel) (pa_cons (pv 0) (pa_cons (pe_bltn (v := .ty "int") (u := .type "int") (by rfl) T.int (by decide +kernel) rfl) pa_nil)))
      (pe_one (pe_not (pe_callB call_isi (by rfl) T.isi (by decide +kernel) (pa_cons (pv 0) (pa_cons (pe_bltn (v := .ty "bool") (u := .type "bool") (by rfl) T.bool (by decide +kernel) rfl) pa_nil))))))), ?_⟩
  have t := dt_ty (K := K) hd
  have q' := q H (Same.refl H)
  refine ⟨_, rfl, _, _, _, _, _, rfl, .ty _, t, kit_D D (.inl rfl), _, rfl, ?_⟩
  cases D <;> first
    | exact q'
    | exact ⟨_, rfl, _, _, _, _, _, rfl, .ty _, t, kit_D _ (.inr (.inl rfl)), _, rfl, q'⟩
theorem scText : FnScope ["letters", "thing"] ["letters", "thing"] (defScope sText) := ⟨rfl, rfl, rfl, by decide +kernel, rfl, by decide +kernel, by decide +kernel⟩
theorem ok_text {f : Addr} {fd : FuncData} (F : Fun K "is_text" "is_text" sText f fd) (T : TxtI mg) : FnOk P w K mg base CX0 1 f fd ["letters", "thing"] spText := by
  refine F.ok scText (fun vs H Q E h => ?_) (fun cdv A outer s H vs Q E hr h => ?_)
  · obtain ⟨sg, v, D, S, rfl, _⟩ := h
    rfl
  obtain ⟨sg, v, D, S, rfl, hd, hw, q⟩ := h
  refine ⟨_, pss_one (ps_ret (pe_and (pe_callB call_isi (by rfl) T.isi (by decide +kernel) (pa_cons (pv 1) (pa_cons (pe_bltn (v := .ty "str") (u := .type "str") (by rfl) T.str (by decide +kernel) rfl) pa_nil)))
      (pe_one (pe_cmpR op_eq (pe_bm PySem.F.plainAttrs_str PySem.F.slot_str_strip PySem.F.type_str_strip mt_stripChars (pv 1) (pa_cons (pv 0) pa_nil)) pe_str (nomark _))))), ?_⟩
  refine ⟨_, rfl, _, _, _, _, _, rfl, .ty _, dt_ty hd, kit_D D (.inr (.inr (.inl rfl))), _, rfl, ?_⟩
  rw [isD_str]
  have q' := q H (Same.refl H)
  cases D with
  | str x =>
    obtain rfl := dt_str hd
    have hx : x.length ≤ 100000 := hw
    refine ⟨_, rfl, rfl, _, rfl, _, _, rfl, rfl, Nat.le_trans hx (by decide), rfl, ?_⟩
    have e : decide (V.str (Txt.stripChars x (mkS sg)) = V.str "") = textD sg (.str x) := by
      rw [strip_dec, mkS_cps]
      rfl
    show Q (.bl (decide (V.str (Txt.stripChars x (mkS sg)) = V.str ""))) H
    rw [e]
    exact q'
  | none => exact q'
  | bool _ => exact q'
  | int _ => exact q'
  | list _ => exact q'
  | tuple _ => exact q'
  | dict _ => exact q'
theorem scAsc : FnScope ["things", "one", "other"] ["things"] (defScope sAsc) := ⟨rfl, rfl, rfl, by decide +kernel, rfl, by decide +kernel, by decide +kernel⟩
theorem ok_ascW {f : Addr} {fd : FuncData} (F : Fun K "is_ascending" "is_ascending" sAsc f fd) (T : TxtI mg) : FnOk P w K mg base CX0 1 f fd ["things"] spAscW := by
  refine F.ok scAsc (fun vs H Q E h => ?_) (fun cdv A outer s H vs Q E hr h => ?_)
  · obtain ⟨a, xs, rfl, _⟩ := h
    rfl
  obtain ⟨a, xs, rfl, hx, hn, q⟩ := h
  refine ⟨_, pss_one (ps_ret (pe_callB (cr_all rfl) (by rfl) T.all (by decide +kernel) (pa_cons (pe_lc (own := [("one", 1), ("other", 2)]) (g := gTup K 2 (gCons (gName 1) (gCons (gName 2) gNil))) (tt := tYes) rfl scAsc.nd
      (RZ.pi_zipA (by rfl) T.zip (pa_cons (pv 0) (pa_cons (pe_slice sl_tupA (pv 0) (po_some pe_int) po_none) pa_nil)))
      (blkOk_by (N := ["things", "one", "other"]) (sc := defScope sAsc) (by decide +kernel)) (fun _ _ _ _ _ => pg_tup rfl (pgs_cons (pg_name (i := 1) scAsc.nd rfl (Or.inl rfl)) (pgs_cons (pg_name (i := 2) scAsc.nd rfl (Or.inl rfl)) pgs_nil))) (fun _ _ _ _ _ => pts_nil)
      (fun _ _ _ _ _ => pe_cmpR op_lt_str (pv 1) (pv 2) (nomark _))) pa_nil))), ?_⟩
  have key : ∀ (H1 : Hp) (b : Addr), Same H H1 → H1 b = some (.tup (((xs.map mkS).map V.str).drop 1)) → ∀ D, H1 D = none →
      ∀ (i : Nat) (v : V) (H2 H3 : Hp), i < xs.length - 1 → H2 D = some (.lst ((risen ltW xs i).map V.bl)) → Same H1 H2 → YPair (fun i => ((xs.map mkS).map V.str)[i]?) (fun i => (((xs.map mkS).map V.str).drop 1)[i]?) i H2 v H3 →
      ∃ T p q, v = .ref T ∧ H2 T = none ∧ H3 = upd H2 T (.tup [.str (mkS p), .str (mkS q)]) ∧ xs[i]? = some p ∧ xs[i + 1]? = some q := by
    rintro H1 b s1 hb D hD i v H2 H3 hi hv sm ⟨T, x, y, rfl, hT, rfl, hc, hd⟩
    have hd' : (((xs.map mkS).map V.str).drop 1)[i]? = some y := hd
    rw [List.getElem?_drop, Nat.add_comm] at hd'
    obtain ⟨p, hp, rfl⟩ := str_atW hc
    obtain ⟨q, hq, rfl⟩ := str_atW hd'
    exact ⟨T, p, q, rfl, hT, rfl, hp, hq⟩
  refine ⟨_, rfl, _, rfl, _, rfl, a, (xs.map mkS).map V.str, rfl, SqT.of hx, fun hw => ?_, fun hw p hp => ?_⟩
  · have hz : (xs.map mkS).map V.str = ((xs.map mkS).map V.str).drop 1 := by
      have z := hw.1
      rw [show HT.sIx ((xs.map mkS).map V.str).length 0 (some 1) = min 1 ((xs.map mkS).map V.str).length from HT.sIx_nat _ 0 1] at z
      cases xs with
      | nil => rfl
      | cons x r => rw [List.length_map, List.length_map, List.length_cons] at z; omega
    have hy := hx
    rw [hz] at hy
    refine ⟨a, a, _, _, rfl, .inr ⟨SqT.of hx, SqT.of hy, fun D hD => ?_⟩⟩
    refine lc_it (walk_zipT (n := xs.length - 1) (by rw [List.length_drop, List.length_map, List.length_map]; omega)) (fun i H' => H' D = some (.lst ((risen ltW xs i).map V.bl)) ∧ Same H H') ⟨upd_same, same_new hD _⟩ (fun i H' _ ⟨_, s'⟩ => ⟨SqT.of (s' _ _ hx), SqT.of (s' _ _ hy)⟩) ?_ ?_
    · rintro i v H2 H3 hi ⟨hv, sm⟩ hY
      obtain ⟨T, p, q, rfl, hT, rfl, hp, hq⟩ := key H a (Same.refl H) hy D hD i v H2 H3 hi hv sm hY
      refine ⟨T, _, rfl, SqT.of upd_same, rfl, _, _, rfl, _, _, rfl, rfl, rfl, _, rfl, _, rfl, _, _, rfl, rfl, _, (upd_ne (ne_of_none hv hT)).trans hv, ?_, ?_, fun b o e => ?_⟩
      · rw [List.length_map, sizeLine_eq]
        have := risen_len (lt := ltW) (xs := xs) (i := i)
        omega
      · rw [upd_same, risen_next hp hq, List.map_append, mkS_cps, mkS_cps]
        rfl
      · rw [upd_ne (ne_of_none e hD)]
        exact (sm.trans (same_new hT _)) b o e
    · rintro H2 ⟨hv, sm⟩
      refine ⟨_, _, rfl, SqL.of hv, ?_⟩
      rw [risen_all]
      exact q _ sm
  · have hy : upd H p (.tup (cutV ((xs.map mkS).map V.str) (some 1) none)) p = some (.tup (((xs.map mkS).map V.str).drop 1)) := by rw [upd_same, cutV1]
    have sm0 := same_new hp (.tup (cutV ((xs.map mkS).map V.str) (some 1) none))
    have hx' := sm0 _ _ hx
    generalize upd H p (.tup (cutV ((xs.map mkS).map V.str) (some 1) none)) = H1 at hy sm0 hx' ⊢
    refine ⟨a, p, _, _, rfl, .inr ⟨SqT.of hx', SqT.of hy, fun D hD => ?_⟩⟩
    refine lc_it (walk_zipT (n := xs.length - 1) (by rw [List.length_drop, List.length_map, List.length_map]; omega)) (fun i H' => H' D = some (.lst ((risen ltW xs i).map V.bl)) ∧ Same H1 H') ⟨upd_same, same_new hD _⟩ (fun i H' _ ⟨_, s'⟩ => ⟨SqT.of (s' _ _ hx'), SqT.of (s' _ _ hy)⟩) ?_ ?_
    · rintro i v H2 H3 hi ⟨hv, sm⟩ hY
      obtain ⟨T, p, q, rfl, hT, rfl, hp, hq⟩ := key H1 p sm0 hy D hD i v H2 H3 hi hv sm hY
      refine ⟨T, _, rfl, SqT.of upd_same, rfl, _, _, rfl, _, _, rfl, rfl, rfl, _, rfl, _, rfl, _, _, rfl, rfl, _, (upd_ne (ne_of_none hv hT)).trans hv, ?_, ?_, fun b o e => ?_⟩
      · rw [List.length_map, sizeLine_eq]
        have := risen_len (lt := ltW) (xs := xs) (i := i)
        omega
      · rw [upd_same, risen_next hp hq, List.map_append, mkS_cps, mkS_cps]
        rfl
      · rw [upd_ne (ne_of_none e hD)]
        exact (sm.trans (same_new hT _)) b o e
    · rintro H2 ⟨hv, sm⟩
      refine ⟨_, _, rfl, SqL.of hv, ?_⟩
      rw [risen_all]
      exact q _ (sm0.trans sm)
end
end Vf

set_option Elab.async false
set_option linter.all false
set_option maxRecDepth 100000
set_option maxHeartbeats 4000000
namespace Vf
open PySem PySem.Spec PyProof.Rows L2 L2.Vx Vs Vm Vd
/-! ### words of a length, ascending -/
def spWordsQ : Sp := fun vs H Q _ => ∃ (sg : Wd) (n : Int) (v : V) (D : PyData) (S : Addr → Prop), vs = [.str (mkS sg), .int n, v] ∧ Dt H S v D ∧ wideD 100000 D ∧ ∀ H', Same H H' → Q (.bl (wordsB sg n D)) H'
theorem words_strs {sg : Wd} {n : Int} {ds : List PyData} (h : ds.all (wordDB sg n) = true) : ds.all strD = true := by
  rw [List.all_eq_true] at h ⊢
  intro d hd
  have e := h d hd
  unfold wordDB at e
  rw [Bool.and_eq_true] at e
  exact text_str e.1
section
variable {P : Program} {w : World} {K : PySem.W.Frag} {mg : Str → Option Value} {base : Heap}
theorem scWordQ : FnScope ["letters", "length", "thing"] ["letters", "length", "thing"] (defScope sWordQ) := ⟨rfl, rfl, rfl, by decide +kernel, rfl, by decide +kernel, by decide +kernel⟩
theorem ok_wordQ {f fT : Addr} {fd fdT : FuncData} (F : Fun K "is_word" "is_word" sWordQ f fd) (T : TxtI mg)
    (GT : FnOk P w K mg base CX0 1 fT fdT ["letters", "thing"] spText) (bT : Binds K fdT ["letters", "thing"] []) (kT : PySem.W.keepIn K (.ref fT) = true) (mT : mg "is_text" = some (.ref fT)) :
    FnOk P w K mg base CX0 2 f fd ["letters", "length", "thing"] spWordQ := by
  refine F.ok scWordQ (fun vs H Q E h => ?_) (fun cdv A outer s H vs Q E hr h => ?_)
  · obtain ⟨sg, n, v, D, S, rfl, _⟩ := h
    rfl
  obtain ⟨sg, n, v, D, S, rfl, hd, hw, q⟩ := h
  refine ⟨_, pss_one (ps_ret (pe_and (pe_call GT hr rfl mT kT bT .nil pass0 (pa_cons (pv 0) (pa_cons (pv 2) pa_nil))) (pe_one (pe_cmpR op_eq (pe_callB call_len_str (by rfl) T.len PySem.boot_len (pa_cons (pv 2) pa_nil)) (pv 1) (by rfl))))), ?_⟩
  refine ⟨_, rfl, _, rfl, sg, v, D, S, rfl, hd, hw, fun H1 s1 => ⟨_, rfl, ?_⟩⟩
  have q' := q H1 s1
  refine ite2 (fun c => ?_) (fun c => ?_)
  · cases D with
    | str x =>
      obtain rfl := dt_str hd
      have hx : x.length ≤ 100000 := hw
      refine ⟨_, rfl, x, rfl, by rw [sizeLine_eq]; omega, _, rfl, rfl, ?_⟩
      have e : wordDB sg n (.str x) = decide (V.int (x.length : Nat) = V.int n) := by
        unfold wordDB
        rw [c, Bool.true_and, Bool.eq_iff_iff, decide_eq_true_iff, decide_eq_true_iff]
        show ((x.cps.toList.length : Nat) : Int) = n ↔ _
        rw [Array.length_toList]
        exact ⟨fun z => congrArg V.int z, fun z => V.int.inj z⟩
      rw [← e]
      exact q'
    | _ => exact absurd c (by intro z; cases z)
  · have e : wordDB sg n D = false := by
      unfold wordDB
      cases z : textD sg D with
      | false => rfl
      | true => exact absurd z c
    rw [e] at q'
    exact q'
abbrev nWordsQ : List Str := ["letters", "length", "thing", "word"]
theorem scWordsQ : FnScope nWordsQ ["letters", "length", "thing"] (defScope sWordsQ) := ⟨rfl, rfl, rfl, by decide +kernel, rfl, by decide +kernel, by decide +kernel⟩
theorem ok_wordsQ {f fW fA : Addr} {fd fdW fdA : FuncData} (F : Fun K "is_words" "is_words" sWordsQ f fd) (T : TxtI mg)
    (GW : FnOk P w K mg base CX0 2 fW fdW ["letters", "length", "thing"] spWordQ) (bW : Binds K fdW ["letters", "length", "thing"] []) (kW : PySem.W.keepIn K (.ref fW) = true) (mW : mg "is_word" = some (.ref fW))
    (GA : FnOk P w K mg base CX0 1 fA fdA ["things"] spAscW) (bA : Binds K fdA ["things"] []) (kA : PySem.W.keepIn K (.ref fA) = true) (mA : mg "is_ascending" = some (.ref fA)) :
    FnOk P w K mg base CX0 3 f fd ["letters", "length", "thing"] spWordsQ := by
  refine F.ok scWordsQ (fun vs H Q E h => ?_) (fun cdv A outer s H vs Q E hr h => ?_)
  · obtain ⟨sg, n, v, D, S, rfl, _⟩ := h
    rfl
  obtain ⟨sg, n, v, D, S, rfl, hd, hw, q⟩ := h
  have hr1 : Room 1 _ := hr.mono (by decide)
  refine ⟨_, pss_one (ps_ret (pe_and (pe_callB call_isi (by rfl) T.isi (by decide +kernel) (pa_cons (pv 2) (pa_cons (pe_bltn (v := .ty "tuple") (u := .type "tuple") (by rfl) T.tuple (by decide +kernel) rfl) pa_nil)))
      (pe_and (pe_callB (cr_all rfl) (by rfl) T.all (by decide +kernel) (pa_cons (pe_lc (own := [("word", 3)]) (g := gName 3) (tt := tYes) rfl scWordsQ.nd (pi_tup (pv 2))
        (blkOk_by (N := nWordsQ) (sc := defScope sWordsQ) (by decide +kernel)) (fun _ _ _ _ _ => pg_name (i := 3) scWordsQ.nd rfl (Or.inl rfl)) (fun _ _ _ _ _ => pts_nil)
        (fun _ _ _ _ _ => by exact pe_call GW hr rfl mW kW bW .nil pass0 (pa_cons (pv 0) (pa_cons (pv 1) (pa_cons (pv 3) pa_nil))))) pa_nil))
      (pe_one (pe_call GA hr1 rfl mA kA bA .nil pass0 (pa_cons (pv 2) pa_nil)))))), ?_⟩
  refine ⟨_, rfl, _, _, _, _, _, rfl, .ty _, dt_ty hd, kit_D D (.inr (.inr (.inr rfl))), _, rfl, ?_⟩
  have q' := q H (Same.refl H)
  refine ite2 (fun c => ?_) (fun c => ?_)
  rotate_left
  · have e : wordsB sg n D = false := by
      cases D with
      | tuple ds => exact absurd ((isD_tup _).mpr ⟨ds, rfl⟩) c
      | _ => rfl
    rw [e] at q'
    exact q'
  obtain ⟨ds, rfl⟩ := (isD_tup D).mp c
  obtain ⟨a, xs, rfl, ea, _, da⟩ := dt_tup hd
  have hl := dtA_len da
  obtain ⟨wl, wr⟩ : ds.length ≤ 100000 ∧ wideDs 100000 ds := by
    unfold wideD at hw
    exact hw
  refine ⟨_, rfl, a, rfl, ⟨xs, SqT.of ea⟩, fun D hD => ?_⟩
  refine lc_it walk_tup (fun i H' => H' D = some (.lst (((ds.take i).map (wordDB sg n)).map V.bl)) ∧ Same H H') ⟨upd_same, same_new hD _⟩ (fun i H' _ ⟨_, s'⟩ => SqT.of (s' _ _ ea)) ?_ ?_
  · rintro i v H1 H2 hi ⟨hv, sm⟩ ⟨rfl, hx⟩
    obtain ⟨d, hdd, dd⟩ := dtA_at da hx
    refine ⟨rfl, _, rfl, _, rfl, _, rfl, sg, n, v, d, S, rfl, dt_same dd sm, wide_mem wr d (List.mem_of_getElem? hdd), fun H' s' => ⟨_, s' _ _ hv, ?_, ?_, fun b o e => ?_⟩⟩
    · rw [List.length_map, List.length_map, List.length_take, sizeLine_eq]
      omega
    · rw [upd_same, List.take_add_one, hdd, List.map_append, List.map_append]
      rfl
    · rw [upd_ne (ne_of_none e hD)]
      exact s' _ _ (sm b o e)
  · rintro H1 ⟨hv, sm⟩
    rw [hl, List.take_length] at hv
    refine ⟨D, _, rfl, SqL.of hv, _, rfl, ?_⟩
    have eall : (ds.map (wordDB sg n)).all id = ds.all (wordDB sg n) := by rw [List.all_map]; rfl
    rw [eall]
    have g := q H1 sm
    refine ite2 (fun e => ?_) (fun e => ?_)
    · have ex := dtA_strs da (words_strs e)
      rw [ex] at ea
      refine ⟨_, rfl, a, ds.map wdOf, rfl, sm _ _ ea, by rw [List.length_map]; exact wl, fun H' s' => ?_⟩
      have g' := q H' (sm.trans s')
      have ew : wordsB sg n (.tuple ds) = riseB ltW (ds.map wdOf) := by
        show (ds.all (wordDB sg n) && _) = _
        rw [e, Bool.true_and]
      rw [ew] at g'
      exact g'
    · have ew : wordsB sg n (.tuple ds) = false := by
        show (ds.all (wordDB sg n) && _) = _
        cases z : ds.all (wordDB sg n) with
        | false => rfl
        | true => exact absurd z e
      rw [ew] at g
      exact g
end
end Vf

set_option Elab.async false
set_option linter.all false
set_option maxRecDepth 100000
set_option maxHeartbeats 4000000
namespace Vf
open PySem PySem.Spec PyProof.Rows L2 L2.Vx Vs Vm Vd
abbrev sShort : Stmt := top 9
/-! ### shorter ones, by length and text -/
def PairsAt (H : Hp) (vs : List V) (xs : List Wd) : Prop := vs.length = xs.length ∧ ∀ (i : Nat) (v : V), vs[i]? = some v → ∃ (t : Addr) (p : Wd), v = .ref t ∧ xs[i]? = some p ∧ H t = some (.tup [.int (p.length : Nat), .str (mkS p)])
def spAscP : Sp := fun vs H Q _ => ∃ (a : Addr) (us : List V) (xs : List Wd), vs = [.ref a] ∧ H a = some (.lst us) ∧ PairsAt H us xs ∧ xs.length ≤ 100000 ∧ ∀ H', Same H H' → Q (.bl (riseB ltP xs)) H'
def spShortQ : Sp := fun vs H Q _ => ∃ (sg : Wd) (n : Int) (v : V) (D : PyData) (S : Addr → Prop), vs = [.str (mkS sg), .int n, v] ∧ Dt H S v D ∧ wideD 100000 D ∧ ∀ H', Same H H' → Q (.bl (shorterB sg n D)) H'
theorem if_fl {A B : Prop} {c : Bool} (e : c = false) (h : B) : if c = true then A else B := by
  rw [e]
  exact h
theorem texts_strs {sg : Wd} {ds : List PyData} (h : ds.all (textD sg) = true) : ds.all strD = true := by
  rw [List.all_eq_true] at h ⊢
  exact fun d hd => text_str (h d hd)
section
variable {P : Program} {w : World} {K : PySem.W.Frag} {mg : Str → Option Value} {base : Heap}
theorem ok_ascP {f : Addr} {fd : FuncData} (F : Fun K "is_ascending" "is_ascending" sAsc f fd) (T : TxtI mg) : FnOk P w K mg base CX0 1 f fd ["things"] spAscP := by
  refine F.ok scAsc (fun vs H Q E h => ?_) (fun cdv A outer s H vs Q E hr h => ?_)
  · obtain ⟨a, us, xs, rfl, _⟩ := h
    rfl
  obtain ⟨a, us, xs, rfl, hx, ⟨hl, hp⟩, hn, q⟩ := h
  refine ⟨_, pss_one (ps_ret (pe_callB (cr_all rfl) (by rfl) T.all (by decide +kernel) (pa_cons (pe_lc (own := [("one", 1), ("other", 2)]) (g := gTup K 2 (gCons (gName 1) (gCons (gName 2) gNil))) (tt := tYes) rfl scAsc.nd
      (pi_zip (by rfl) T.zip (pa_cons (pv 0) (pa_cons (pe_slice sl_list (pv 0) (po_some pe_int) po_none) pa_nil)))
      (blkOk_by (N := ["things", "one", "other"]) (sc := defScope sAsc) (by decide +kernel)) (fun _ _ _ _ _ => pg_tup rfl (pgs_cons (pg_name (i := 1) scAsc.nd rfl (Or.inl rfl)) (pgs_cons (pg_name (i := 2) scAsc.nd rfl (Or.inl rfl)) pgs_nil))) (fun _ _ _ _ _ => pts_nil)
      (fun _ _ _ _ _ => by exact pe_cmpR (ltDat_at rfl hr.units) (pv 1) (pv 2) (nomark _))) pa_nil))), ?_⟩
  refine ⟨_, rfl, _, rfl, _, rfl, a, us, rfl, SqL.of hx, fun p2 hp2 => ?_⟩
  rw [cutV1]
  have s0 := same_new hp2 (.lst (us.drop 1))
  have e2 : upd H p2 (.lst (us.drop 1)) p2 = some (.lst (us.drop 1)) := upd_same
  have hx' := s0 _ _ hx
  generalize upd H p2 (.lst (us.drop 1)) = H1 at s0 e2 hx' ⊢
  refine ⟨a, p2, _, _, rfl, SqL.of hx', SqL.of e2, fun D hD => ?_⟩
  refine lc_it (walk_zip (n := xs.length - 1) (xs := us) (ys := us.drop 1) (by rw [List.length_drop, hl]; omega)) (fun i H' => H' D = some (.lst ((risen ltP xs i).map V.bl)) ∧ Same H1 H') ⟨upd_same, same_new hD _⟩ (fun i H' _ ⟨_, s'⟩ => ⟨SqL.of (s' _ _ hx'), SqL.of (s' _ _ e2)⟩) ?_ ?_
  · rintro i v H2 H3 hi ⟨hv, sm⟩ ⟨T', x, y, rfl, hT, rfl, hc, hd⟩
    have hd' : (us.drop 1)[i]? = some y := hd
    rw [List.getElem?_drop, Nat.add_comm] at hd'
    obtain ⟨t1, p, rfl, hp1, ep⟩ := hp i x hc
    obtain ⟨t2, q2, rfl, hq1, eq⟩ := hp (i + 1) y hd'
    have sT := same_new hT (.tup [V.ref t1, V.ref t2])
    have ep' := sT _ _ (sm _ _ (s0 _ _ ep))
    have eq' := sT _ _ (sm _ _ (s0 _ _ eq))
    refine ⟨T', _, rfl, SqT.of upd_same, rfl, _, _, rfl, _, _, rfl, rfl, rfl, _, rfl, _, rfl, pairP p, pairP q2, .tup (SqT.of ep') (.cons (.int _) (.cons (.str _) .nil)), .tup (SqT.of eq') (.cons (.int _) (.cons (.str _) .nil)), alike_pair p q2, (by intro z; cases z), ?_, ?_⟩
    · unfold pairP
      simp [PyData.depth, PyData.depthAll]
    rw [lt_pair]
    refine ⟨_, (upd_ne (ne_of_none hv hT)).trans hv, ?_, ?_, fun b o e => ?_⟩
    · rw [List.length_map, sizeLine_eq]
      have := risen_len (lt := ltP) (xs := xs) (i := i)
      omega
    · rw [upd_same, risen_next hp1 hq1, List.map_append]
      rfl
    · rw [upd_ne (ne_of_none e hD)]
      exact (sm.trans sT) b o e
  · rintro H2 ⟨hv, sm⟩
    refine ⟨_, _, rfl, SqL.of hv, ?_⟩
    rw [risen_all]
    exact q _ (s0.trans sm)
abbrev nShort : List Str := ["letters", "width", "thing", "text"]
theorem scShort : FnScope nShort ["letters", "width", "thing"] (defScope sShort) := ⟨rfl, rfl, rfl, by decide +kernel, rfl, by decide +kernel, by decide +kernel⟩
theorem ok_shortQ {f fT fA : Addr} {fd fdT fdA : FuncData} (F : Fun K "is_shorter_ones" "is_shorter_ones" sShort f fd) (T : TxtI mg)
    (GT : FnOk P w K mg base CX0 1 fT fdT ["letters", "thing"] spText) (bT : Binds K fdT ["letters", "thing"] []) (kT : PySem.W.keepIn K (.ref fT) = true) (mT : mg "is_text" = some (.ref fT))
    (GA : FnOk P w K mg base CX0 1 fA fdA ["things"] spAscP) (bA : Binds K fdA ["things"] []) (kA : PySem.W.keepIn K (.ref fA) = true) (mA : mg "is_ascending" = some (.ref fA)) :
    FnOk P w K mg base CX0 2 f fd ["letters", "width", "thing"] spShortQ := by
  refine F.ok scShort (fun vs H Q E h => ?_) (fun cdv A outer s H vs Q E hr h => ?_)
  · obtain ⟨sg, n, v, D, S, rfl, _⟩ := h
    rfl
  obtain ⟨sg, n, v, D, S, rfl, hd, hw, q⟩ := h
  refine ⟨_, pss_cons (ps_if (PW.pt (pw_or (pt_not (pt_val (pe_callB call_isi (by rfl) T.isi (by decide +kernel) (pa_cons (pv 2) (pa_cons (pe_bltn (v := .ty "tuple") (u := .type "tuple") (by rfl) T.tuple (by decide +kernel) rfl) pa_nil)))))
        (pw_or1 (pt_not (pt_val (pe_callB (cr_all rfl) (by rfl) T.all (by decide +kernel) (pa_cons (pe_lc (own := [("text", 3)]) (g := gName 3) (tt := tYes) rfl scShort.nd (pi_tup (pv 2))
          (blkOk_by (N := nShort) (sc := defScope sShort) (by decide +kernel)) (fun _ _ _ _ _ => pg_name (i := 3) scShort.nd rfl (Or.inl rfl)) (fun _ _ _ _ _ => pts_nil)
          (fun _ _ _ _ _ => by exact pe_call GT hr rfl mT kT bT .nil pass0 (pa_cons (pv 0) (pa_cons (pv 3) pa_nil)))) pa_nil))))))) (pss_one (ps_ret pe_bl)) pss_nil)
    (pss_one (ps_ret (pe_and (pe_callB (cr_all rfl) (by rfl) T.all (by decide +kernel) (pa_cons (pe_lc (own := [("text", 3)]) (g := gName 3) (tt := tYes) rfl scShort.nd (pi_tup (pv 2))
          (blkOk_by (N := nShort) (sc := defScope sShort) (by decide +kernel)) (fun _ _ _ _ _ => pg_name (i := 3) scShort.nd rfl (Or.inl rfl)) (fun _ _ _ _ _ => pts_nil)
          (fun _ _ _ _ _ => by exact pe_cmpR op_lt (pe_callB call_len_str (by rfl) T.len PySem.boot_len (pa_cons (pv 3) pa_nil)) (pv 1) (nomark _))) pa_nil))
      (pe_one (pe_call GA hr rfl mA kA bA .nil pass0 (pa_cons (pe_lc (own := [("text", 3)]) (g := gName 3) (tt := tYes) rfl scShort.nd (pi_tup (pv 2))
          (blkOk_by (N := nShort) (sc := defScope sShort) (by decide +kernel)) (fun _ _ _ _ _ => pg_name (i := 3) scShort.nd rfl (Or.inl rfl)) (fun _ _ _ _ _ => pts_nil)
          (fun _ _ _ _ _ => by exact pe_tup (pa_cons (pe_callB call_len_str (by rfl) T.len PySem.boot_len (pa_cons (pv 3) pa_nil)) (pa_cons (pv 3) pa_nil)))) pa_nil)))))), ?_⟩
  have q' := q H (Same.refl H)
  refine ⟨_, rfl, _, _, _, _, _, rfl, .ty _, dt_ty hd, kit_D D (.inr (.inr (.inr rfl))), _, rfl, ?_⟩
  by_cases c : isD "tuple" D = true
  rotate_left
  · have e : shorterB sg n D = false := by
      cases D with
      | tuple ds => exact absurd ((isD_tup _).mpr ⟨ds, rfl⟩) c
      | _ => rfl
    rw [e] at q'
    rw [show isD "tuple" D = false from Bool.eq_false_iff.mpr c]
    exact q'
  obtain ⟨ds, rfl⟩ := (isD_tup D).mp c
  rw [c]
  obtain ⟨a, xs, rfl, ea, _, da⟩ := dt_tup hd
  have hl := dtA_len da
  obtain ⟨wl, wr⟩ : ds.length ≤ 100000 ∧ wideDs 100000 ds := by
    unfold wideD at hw
    exact hw
  refine if_fl rfl ?_
  refine ⟨_, rfl, a, rfl, ⟨xs, SqT.of ea⟩, fun D hD => ?_⟩
  refine lc_it walk_tup (fun i H' => H' D = some (.lst (((ds.take i).map (textD sg)).map V.bl)) ∧ Same H H') ⟨upd_same, same_new hD _⟩ (fun i H' _ ⟨_, s'⟩ => SqT.of (s' _ _ ea)) ?_ ?_
  · rintro i v H1 H2 hi ⟨hv, sm⟩ ⟨rfl, hx⟩
    obtain ⟨d, hdd, dd⟩ := dtA_at da hx
    refine ⟨rfl, _, rfl, _, rfl, sg, v, d, S, rfl, dt_same dd sm, wide_mem wr d (List.mem_of_getElem? hdd), fun H' s' => ⟨_, s' _ _ hv, ?_, ?_, fun b o e => ?_⟩⟩
    · rw [List.length_map, List.length_map, List.length_take, sizeLine_eq]
      omega
    · rw [upd_same, List.take_add_one, hdd, List.map_append, List.map_append]
      rfl
    · rw [upd_ne (ne_of_none e hD)]
      exact s' _ _ (sm b o e)
  rintro H1 ⟨hv, sm⟩
  rw [hl, List.take_length] at hv
  have eall : (ds.map (textD sg)).all id = ds.all (textD sg) := by rw [List.all_map]; rfl
  refine ⟨D, _, rfl, SqL.of hv, _, rfl, ?_⟩
  rw [eall]
  by_cases c1 : ds.all (textD sg) = true
  rotate_left
  · have e1 : ds.all (textD sg) = false := Bool.eq_false_iff.mpr c1
    have ew : shorterB sg n (.tuple ds) = false := by
      show (ds.all (textD sg) && _) = _
      rw [e1, Bool.false_and]
    have g := q H1 sm
    rw [ew] at g
    rw [e1]
    exact g
  rw [c1]
  refine if_fl rfl ?_
  have ex := dtA_strs da (texts_strs c1)
  have hlen : ∀ w ∈ ds.map wdOf, w.length ≤ 100000 := by
    intro w hw'
    obtain ⟨d, hd', rfl⟩ := List.mem_map.mp hw'
    have z := wide_mem wr d hd'
    cases d with
    | str x =>
      show x.cps.toList.length ≤ _
      rw [Array.length_toList]
      exact z
    | _ => exact Nat.zero_le _
  have elt : ds.all (fun d => decide (((wdOf d).length : Int) < n)) = (ds.map wdOf).all fun w => decide ((w.length : Int) < n) := by rw [List.all_map]; rfl
  have esh : shorterB sg n (.tuple ds) = ((ds.map wdOf).all (fun w => decide ((w.length : Int) < n)) && riseB ltP (ds.map wdOf)) := by
    show (ds.all (textD sg) && _) = _
    rw [c1, Bool.true_and, elt]
  have wl' : (ds.map wdOf).length ≤ 100000 := by rw [List.length_map]; exact wl
  rw [ex] at ea
  rw [esh] at q
  generalize ds.map wdOf = ws at ea hlen q wl'
  have ea1 := sm _ _ ea
  refine ⟨_, rfl, a, rfl, ⟨_, SqT.of ea1⟩, fun D2 hD2 => ?_⟩
  refine lc_it (walk_tup (xs := (ws.map mkS).map V.str)) (fun i H' => H' D2 = some (.lst (((ws.take i).map fun w => decide ((w.length : Int) < n)).map V.bl)) ∧ Same H1 H') ⟨upd_same, same_new hD2 _⟩ (fun i H' _ ⟨_, s'⟩ => SqT.of (s' _ _ ea1)) ?_ ?_
  · rintro i v H2 H3 hi ⟨hv2, sm2⟩ ⟨rfl, hx⟩
    obtain ⟨z, hz, rfl⟩ := str_atW hx
    have hzl := hlen z (List.mem_of_getElem? hz)
    have hil : i < ws.length := (List.getElem?_eq_some_iff.mp hz).1
    refine ⟨rfl, _, rfl, _, rfl, by rw [mkS_length, sizeLine_eq]; omega, _, rfl, _, _, rfl, rfl, ?_⟩
    rw [mkS_length]
    refine ⟨_, hv2, ?_, ?_, fun b o e => ?_⟩
    · rw [List.length_map, List.length_map, List.length_take, sizeLine_eq]
      omega
    · rw [upd_same, List.take_add_one, hz, List.map_append, List.map_append]
      rfl
    · rw [upd_ne (ne_of_none e hD2)]
      exact sm2 b o e
  rintro H2 ⟨hv2, sm2⟩
  rw [List.length_map, List.length_map, List.take_length] at hv2
  refine ⟨D2, _, rfl, SqL.of hv2, _, rfl, ?_⟩
  have ea2 : (ws.map fun w => decide ((w.length : Int) < n)).all id = ws.all fun w => decide ((w.length : Int) < n) := by rw [List.all_map]; rfl
  rw [ea2]
  have s12 := sm.trans sm2
  refine ite2 (fun c2 => ?_) (fun c2 => ?_)
  rotate_left
  · have g := q H2 s12
    rw [Bool.eq_false_iff.mpr c2, Bool.false_and] at g
    exact g
  have ea3 := sm2 _ _ ea1
  refine ⟨_, rfl, a, rfl, ⟨_, SqT.of ea3⟩, fun D3 hD3 => ?_⟩
  refine lc_it (walk_tup (xs := (ws.map mkS).map V.str)) (fun i H' => ∃ us : List V, H' D3 = some (.lst us) ∧ us.length = i ∧ (∀ (j : Nat) (v : V), us[j]? = some v → ∃ (t : Addr) (p : Wd), v = .ref t ∧ t ≠ D3 ∧ ws[j]? = some p ∧ H' t = some (.tup [.int (p.length : Nat), .str (mkS p)])) ∧ Same H2 H') ⟨[], upd_same, rfl, (fun j v h => by simp at h), same_new hD3 _⟩ (fun i H' _ ⟨_, _, _, _, s'⟩ => SqT.of (s' _ _ ea3)) ?_ ?_
  · rintro i v H3 H4 hi ⟨us, u1, u2, u3, sm3⟩ ⟨rfl, hx⟩
    obtain ⟨z, hz, rfl⟩ := str_atW hx
    have hzl := hlen z (List.mem_of_getElem? hz)
    have hil : i < ws.length := (List.getElem?_eq_some_iff.mp hz).1
    refine ⟨rfl, _, rfl, _, rfl, by rw [mkS_length, sizeLine_eq]; omega, _, rfl, (by show 2 ≤ sizeLine; decide), fun t ht => ?_⟩
    rw [mkS_length]
    have htD : t ≠ D3 := (ne_of_none u1 ht).symm
    have st := same_new ht (.tup [.int (z.length : Nat), .str (mkS z)])
    refine ⟨us, st _ _ u1, by rw [u2, sizeLine_eq]; omega, us ++ [.ref t], upd_same, by rw [List.length_append, u2]; rfl, fun j v hj => ?_, fun b o e => ?_⟩
    · by_cases hjl : j < us.length
      · rw [List.getElem?_append_left hjl] at hj
        obtain ⟨t', p, rfl, h1, h2, h3⟩ := u3 j v hj
        exact ⟨t', p, rfl, h1, h2, by rw [upd_ne h1]; exact st _ _ h3⟩
      · rw [List.getElem?_append_right (by omega)] at hj
        have ej : j - us.length = 0 := by
          have := (List.getElem?_eq_some_iff.mp hj).1
          have h1 : [V.ref t].length = 1 := rfl
          omega
        rw [ej] at hj
        have ev : V.ref t = v := Option.some.inj hj
        refine ⟨t, z, ev.symm, htD, by rw [show j = i by omega]; exact hz, ?_⟩
        rw [upd_ne htD, upd_same]
    · rw [upd_ne (ne_of_none e hD3)]
      exact st _ _ (sm3 b o e)
  rintro H3 ⟨us, u1, u2, u3, sm3⟩
  rw [List.length_map, List.length_map] at u2
  refine ⟨D3, us, ws, rfl, u1, ⟨u2, fun i v hv => ?_⟩, wl', fun H' s' => ?_⟩
  · obtain ⟨t, p, e1, _, e2, e3⟩ := u3 i v hv
    exact ⟨t, p, e1, e2, e3⟩
  · have g := q H' ((s12.trans sm3).trans s')
    rw [c2, Bool.true_and] at g
    exact g
end
end Vf

set_option Elab.async false
set_option linter.all false
set_option maxRecDepth 100000
set_option maxHeartbeats 4000000
namespace Vf
open PySem PySem.Spec PyProof.Rows L2 L2.Vx Vs Vm Vd
abbrev sJudge : Stmt := top 10
/-! ### judges -/
def spJudgeQ : Sp := fun vs H Q _ => ∃ (sg : Wd) (v : V) (D : PyData) (S : Addr → Prop), vs = [.str (mkS sg), v] ∧ Dt H S v D ∧ wideD 100000 D ∧ ∀ H', Same H H' → Q (.bl (judgeB sg D)) H'
theorem judge_len {sg : Wd} {ds : List PyData} (h : ds.length ≠ 5) : judgeB sg (.tuple ds) = false := by
  match ds, h with
  | [], _ => rfl
  | [x], _ => cases x <;> rfl
  | [x, _], _ => cases x <;> rfl
  | [x, _, _], _ => cases x <;> rfl
  | [x, _, _, _], _ => cases x <;> rfl
  | [_, _, _, _, _], h => exact absurd rfl h
  | x :: _ :: _ :: _ :: _ :: _ :: _, _ => cases x <;> rfl
section
variable {P : Program} {w : World} {K : PySem.W.Frag} {mg : Str → Option Value} {base : Heap}
abbrev nJudge : List Str := ["letters", "thing", "width", "short", "firsts", "lasts", "pieces"]
theorem scJudge : FnScope nJudge ["letters", "thing"] (defScope sJudge) := ⟨rfl, rfl, rfl, by decide +kernel, rfl, by decide +kernel, by decide +kernel⟩
theorem ok_judgeQ {f fH fS fW : Addr} {fd fdH fdS fdW : FuncData} (F : Fun K "is_judge" "is_judge" sJudge f fd) (T : TxtI mg)
    (GH : FnOk P w K mg base CX0 1 fH fdH ["thing"] (spAsk isInt)) (bH : Binds K fdH ["thing"] []) (kH : PySem.W.keepIn K (.ref fH) = true) (mH : mg "is_whole" = some (.ref fH))
    (GS : FnOk P w K mg base CX0 2 fS fdS ["letters", "width", "thing"] spShortQ) (bS : Binds K fdS ["letters", "width", "thing"] []) (kS' : PySem.W.keepIn K (.ref fS) = true) (mS : mg "is_shorter_ones" = some (.ref fS))
    (GW : FnOk P w K mg base CX0 3 fW fdW ["letters", "length", "thing"] spWordsQ) (bW : Binds K fdW ["letters", "length", "thing"] []) (kW : PySem.W.keepIn K (.ref fW) = true) (mW : mg "is_words" = some (.ref fW)) :
    FnOk P w K mg base CX0 4 f fd ["letters", "thing"] spJudgeQ := by
  refine F.ok scJudge (fun vs H Q E h => ?_) (fun cdv A outer s H vs Q E hr h => ?_)
  · obtain ⟨sg, v, D, S, rfl, _⟩ := h
    rfl
  obtain ⟨sg, v, D, S, rfl, hd, hw, q⟩ := h
  have hr1 : Room 1 _ := hr.mono (by decide)
  have hr2 : Room 2 _ := hr.mono (by decide)
  refine ⟨_, pss_cons (ps_if (PW.pt (pw_or (pt_not (pt_val (pe_callB call_isi (by rfl) T.isi (by decide +kernel) (pa_cons (pv 1) (pa_cons (pe_bltn (v := .ty "tuple") (u := .type "tuple") (by rfl) T.tuple (by decide +kernel) rfl) pa_nil)))))
        (pw_or1 (pt_cmpR op_ne (pe_callB call_len_seq (by rfl) T.len PySem.boot_len (pa_cons (pv 1) pa_nil)) pe_int (nomark _))))) (pss_one (ps_ret pe_bl)) pss_nil)
    (pss_cons (ps_asg (pv 1) (pg_tup rfl (pgs_cons (pg_name (i := 2) scJudge.nd rfl (Or.inl rfl)) (pgs_cons (pg_name (i := 3) scJudge.nd rfl (Or.inl rfl)) (pgs_cons (pg_name (i := 4) scJudge.nd rfl (Or.inl rfl)) (pgs_cons (pg_name (i := 5) scJudge.nd rfl (Or.inl rfl)) (pgs_cons (pg_name (i := 6) scJudge.nd rfl (Or.inl rfl)) pgs_nil)))))))
    (pss_cons (ps_if (PW.pt (pw_or (pt_not (pt_val (pe_call GH hr1 rfl mH kH bH .nil pass0 (pa_cons (pv 2) pa_nil)))) (pw_or (pt_cmpR op_lt (pv 2) pe_int (nomark _)) (pw_or1 (pt_not (pt_val (pe_call GS hr2 rfl mS kS' bS .nil pass0 (pa_cons (pv 0) (pa_cons (pv 2) (pa_cons (pv 3) pa_nil)))))))))) (pss_one (ps_ret pe_bl)) pss_nil)
    (pss_one (ps_ret (pe_and (pe_call GW hr rfl mW kW bW .nil pass0 (pa_cons (pv 0) (pa_cons (pe_op op_sub (pv 2) pe_int) (pa_cons (pv 4) pa_nil))))
      (pe_and (pe_call GW hr rfl mW kW bW .nil pass0 (pa_cons (pv 0) (pa_cons (pe_op op_sub (pv 2) pe_int) (pa_cons (pv 5) pa_nil))))
        (pe_one (pe_call GW hr rfl mW kW bW .nil pass0 (pa_cons (pv 0) (pa_cons (pv 2) (pa_cons (pv 6) pa_nil))))))))))), ?_⟩
  have q' := q H (Same.refl H)
  refine ⟨_, rfl, _, _, _, _, _, rfl, .ty _, dt_ty hd, kit_D D (.inr (.inr (.inr rfl))), _, rfl, ?_⟩
  by_cases c : isD "tuple" D = true
  rotate_left
  · have e : judgeB sg D = false := by
      cases D with
      | tuple ds => exact absurd ((isD_tup _).mpr ⟨ds, rfl⟩) c
      | _ => rfl
    rw [e] at q'
    rw [show isD "tuple" D = false from Bool.eq_false_iff.mpr c]
    exact q'
  obtain ⟨ds, rfl⟩ := (isD_tup D).mp c
  rw [c]
  obtain ⟨a, xs, rfl, ea, _, da⟩ := dt_tup hd
  have hl := dtA_len da
  obtain ⟨wl, wr⟩ : ds.length ≤ 100000 ∧ wideDs 100000 ds := by
    unfold wideD at hw
    exact hw
  refine if_fl rfl ?_
  refine ⟨_, rfl, a, xs, rfl, .inr (SqT.of ea), rfl, _, rfl, ?_⟩
  by_cases h5 : ds.length = 5
  rotate_left
  · rw [judge_len h5] at q'
    have e : decide (V.int (xs.length : Nat) = V.int 5) = false := decide_eq_false fun z => h5 (by
      have z2 := V.int.inj z
      omega)
    rw [e]
    exact q'
  have e5 : decide (V.int (xs.length : Nat) = V.int 5) = true := decide_eq_true (by rw [hl, h5]; rfl)
  rw [e5]
  refine if_fl rfl ?_
  match ds, h5, da, wr, q with
  | [d1, d2, d3, d4, d5], _, da, wr, q =>
    obtain ⟨v1, r1, rfl, h1, r⟩ := dtA_one da
    obtain ⟨v2, r2, rfl, h2, r⟩ := dtA_one r
    obtain ⟨v3, r3, rfl, h3, r⟩ := dtA_one r
    obtain ⟨v4, r4, rfl, h4, r⟩ := dtA_one r
    obtain ⟨v5, r5, rfl, h5, r⟩ := dtA_one r
    obtain rfl := dtA_nil r
    have w2 := wide_mem wr d2 (by simp)
    have w3 := wide_mem wr d3 (by simp)
    have w4 := wide_mem wr d4 (by simp)
    have w5 := wide_mem wr d5 (by simp)
    refine ⟨_, rfl, a, _, rfl, SqT.of ea, rfl, _, _, rfl, _, _, rfl, _, _, rfl, _, _, rfl, _, _, rfl, rfl, ?_⟩
    refine ⟨_, rfl, v1, d1, S, rfl, h1, fun H1 s1 => ⟨_, rfl, ?_⟩⟩
    cases d1 with
    | int k =>
      obtain rfl := dt_int h1
      have ej : judgeB sg (.tuple [.int k, d2, d3, d4, d5]) = (decide (1 ≤ k) && (shorterB sg k d2 && (wordsB sg (k - 1) d3 && (wordsB sg (k - 1) d4 && wordsB sg k d5)))) := rfl
      rw [ej] at q
      refine if_fl rfl ?_
      refine ⟨_, rfl, _, _, rfl, rfl, _, rfl, ?_⟩
      refine ite2 (fun c1 => ?_) (fun c1 => ?_)
      · have g := q H1 s1
        rw [decide_eq_false (by have := of_decide_eq_true c1; omega : ¬ 1 ≤ k), Bool.false_and] at g
        exact g
      have k1 : decide (1 ≤ k) = true := decide_eq_true (by
        have : ¬ k < 1 := fun z => c1 (decide_eq_true z)
        omega)
      refine ⟨_, rfl, _, rfl, _, rfl, sg, k, v2, d2, S, rfl, dt_same h2 s1, w2, fun H2 s2 => ⟨_, rfl, ?_⟩⟩
      have s12 := s1.trans s2
      by_cases c2 : shorterB sg k d2 = true
      rotate_left
      · have g := q H2 s12
        rw [k1, Bool.eq_false_iff.mpr c2, Bool.false_and] at g
        rw [Bool.eq_false_iff.mpr c2]
        exact g
      rw [c2]
      refine if_fl rfl ?_
      refine ⟨_, rfl, _, rfl, _, _, rfl, rfl, _, rfl, sg, k - 1, v3, d3, S, rfl, dt_same h3 s12, w3, fun H3 s3 => ⟨_, rfl, ?_⟩⟩
      have s13 := s12.trans s3
      refine ite2 (fun c3 => ?_) (fun c3 => ?_)
      rotate_left
      · have g := q H3 s13
        rw [k1, c2, Bool.eq_false_iff.mpr c3] at g
        exact g
      refine ⟨_, rfl, _, rfl, _, _, rfl, rfl, _, rfl, sg, k - 1, v4, d4, S, rfl, dt_same h4 s13, w4, fun H4 s4 => ⟨_, rfl, ?_⟩⟩
      have s14 := s13.trans s4
      refine ite2 (fun c4 => ?_) (fun c4 => ?_)
      rotate_left
      · have g := q H4 s14
        rw [k1, c2, c3, Bool.eq_false_iff.mpr c4] at g
        exact g
      refine ⟨_, rfl, _, rfl, _, rfl, sg, k, v5, d5, S, rfl, dt_same h5 s14, w5, fun H5 s5 => ?_⟩
      have g := q H5 (s14.trans s5)
      rw [k1, c2, c3, c4] at g
      exact g
    | _ => exact q H1 s1
end
end Vf

set_option Elab.async false
set_option linter.all false
set_option maxRecDepth 100000
set_option maxHeartbeats 4000000
namespace Vf
open PySem PySem.Spec PyProof.Rows L2 L2.Vx Vs Vm Vd
abbrev sRises : Stmt := top 19
/-! ### the law's own look at what ascends -/
def spRisesW : Sp := fun vs H Q _ => ∃ (a : Addr) (xs : List Wd), vs = [.ref a] ∧ H a = some (.tup ((xs.map mkS).map .str)) ∧ xs.length ≤ 100000 ∧ ∀ H', Same H H' → Q (.bl (riseB ltW xs)) H'
def spRisesP : Sp := fun vs H Q _ => ∃ (a : Addr) (us : List V) (xs : List Wd), vs = [.ref a] ∧ H a = some (.lst us) ∧ PairsAt H us xs ∧ xs.length ≤ 100000 ∧ ∀ H', Same H H' → Q (.bl (riseB ltP xs)) H'
theorem ixT_at {K : PySem.W.Frag} {X : Cx} (e : X.K = K) : IxR X (rIxT K) := e ▸ ix_tup
theorem ixL_at {K : PySem.W.Frag} {X : Cx} (e : X.K = K) : IxR X (rIxL K) := e ▸ ix_list
section
variable {P : Program} {w : World} {K : PySem.W.Frag} {mg : Str → Option Value} {base : Heap}
theorem scRises : FnScope ["_law_items", "_law_k"] ["_law_items"] (defScope sRises) := ⟨rfl, rfl, rfl, by decide +kernel, rfl, by decide +kernel, by decide +kernel⟩
theorem ok_risesW {f : Addr} {fd : FuncData} (F : Fun K "_law_rises" "_law_rises" sRises f fd) (T : TxtI mg) (hrng : mg "range" = none) : FnOk P w K mg base CX0 1 f fd ["_law_items"] spRisesW := by
  refine F.ok scRises (fun vs H Q E h => ?_) (fun cdv A outer s H vs Q E hr h => ?_)
  · obtain ⟨a, xs, rfl, _⟩ := h
    rfl
  obtain ⟨a, xs, rfl, hx, hn, q⟩ := h
  refine ⟨_, pss_one (ps_ret (pe_cmpR (op_eqD hr.units) (pe_lc (own := [("_law_k", 1)]) (g := gName 1) (tt := _) rfl scRises.nd (pi_range2 (by rfl) hrng (pa_cons pe_int (pa_cons (pe_callB call_len_seq (by rfl) T.len PySem.boot_len (pa_cons (pv 0) pa_nil)) pa_nil)))
      (blkOk_by (N := ["_law_items", "_law_k"]) (sc := defScope sRises) (by decide +kernel)) (fun _ _ _ _ _ => pg_name (i := 1) scRises.nd rfl (Or.inl rfl))
      (fun _ _ _ _ _ => pts_one (pt_not (pt_cmpR op_lt_str (pe_ix (ixT_at rfl) (pv 0) (pe_op op_sub (pv 1) pe_int) (fun _ _ => rfl)) (pe_ix (ixT_at rfl) (pv 0) (pv 1) (fun _ _ => rfl)) (nomark _))))
      (fun _ _ _ _ _ => by exact pv 1)) (pe_lst pa_nil) (nomark _))), ?_⟩
  have hl : ((xs.map mkS).map V.str).length = xs.length := by rw [List.length_map, List.length_map]
  refine ⟨_, rfl, a, _, rfl, .inr (SqT.of hx), 1, _, rfl, ?_⟩
  refine ⟨⟨by decide, by decide, by omega, by omega⟩, fun D hD => ?_⟩
  rw [show ((((xs.map mkS).map V.str).length : Nat) - 1 : Int).toNat = xs.length - 1 by omega]
  refine lc_it (walk_range (lo := 1) (n := xs.length - 1)) (fun i H' => ∃ ns : List Int, H' D = some (.lst (ns.map V.int)) ∧ ns.length ≤ i ∧ ns.isEmpty = (risen ltW xs i).all id ∧ Same H H')
    ⟨[], upd_same, Nat.le_refl _, (by unfold risen; simp), same_new hD _⟩ (fun _ _ _ _ => trivial) ?_ ?_
  · rintro i x H1 H2 hi ⟨ns, m1, m2, m3, s1⟩ ⟨rfl, rfl⟩
    obtain ⟨p, hp⟩ : ∃ p, xs[i]? = some p := ⟨_, List.getElem?_eq_getElem (by omega)⟩
    obtain ⟨p2, hp2⟩ : ∃ p, xs[i + 1]? = some p := ⟨_, List.getElem?_eq_getElem (by omega)⟩
    have a1 : atI ((xs.map mkS).map V.str) (1 + ((i : Nat) : Int) - 1) = some (.str (mkS p)) := by
      rw [show 1 + ((i : Nat) : Int) - 1 = ((i : Nat) : Int) by omega]
      exact atI_nat (by rw [List.getElem?_map, List.getElem?_map, hp]; rfl)
    have a2 : atI ((xs.map mkS).map V.str) (1 + ((i : Nat) : Int)) = some (.str (mkS p2)) := by
      rw [show 1 + ((i : Nat) : Int) = ((i + 1 : Nat) : Int) by omega]
      exact atI_nat (by rw [List.getElem?_map, List.getElem?_map, hp2]; rfl)
    refine ⟨rfl, _, rfl, _, rfl, _, _, rfl, rfl, a, _, _, .str (mkS p), rfl, rfl, SqT.of (s1 _ _ hx), a1, _, rfl, _, rfl, a, _, _, .str (mkS p2), rfl, rfl, SqT.of (s1 _ _ hx), a2, _, _, rfl, rfl, _, rfl, ?_⟩
    rw [mkS_cps, mkS_cps]
    show if (!(ltW p p2)) = true then _ else _
    have eR : (risen ltW xs (i + 1)).all id = (ns.isEmpty && ltW p p2) := by
      rw [risen_next hp hp2, List.all_append, ← m3]
      simp
    by_cases c : ltW p p2 = true
    · rw [c]
      refine if_fl rfl ⟨ns, m1, by omega, ?_, s1⟩
      rw [eR, c, Bool.and_true]
    · rw [Bool.eq_false_iff.mpr c]
      refine ⟨_, rfl, _, m1, by rw [List.length_map, sizeLine_eq]; omega, ns ++ [1 + (i : Int)], ?_, ?_, ?_, fun b o e => ?_⟩
      · rw [upd_same, List.map_append]
        rfl
      · rw [List.length_append]
        show ns.length + 1 ≤ _
        omega
      · rw [eR, Bool.eq_false_iff.mpr c, Bool.and_false]
        simp
      · rw [upd_ne (ne_of_none e hD)]
        exact s1 b o e
  · rintro H1 ⟨ns, m1, m2, m3, s1⟩
    refine ⟨(by show 0 ≤ sizeLine; decide), fun pe hpe => ?_⟩
    have s2 := same_new hpe (.lst [])
    refine ⟨_, _, dp_ints (SqL.of (s2 _ _ m1)), .lst (SqL.of upd_same) .nil, shaped_ints ns, rfl, ?_⟩
    rw [eqv_nil, m3, risen_all]
    exact q _ (s1.trans s2)
theorem ok_risesP {f : Addr} {fd : FuncData} (F : Fun K "_law_rises" "_law_rises" sRises f fd) (T : TxtI mg) (hrng : mg "range" = none) : FnOk P w K mg base CX0 1 f fd ["_law_items"] spRisesP := by
  refine F.ok scRises (fun vs H Q E h => ?_) (fun cdv A outer s H vs Q E hr h => ?_)
  · obtain ⟨a, us, xs, rfl, _⟩ := h
    rfl
  obtain ⟨a, us, xs, rfl, hx, ⟨hl, hpa⟩, hn, q⟩ := h
  refine ⟨_, pss_one (ps_ret (pe_cmpR (op_eqD hr.units) (pe_lc (own := [("_law_k", 1)]) (g := gName 1) (tt := _) rfl scRises.nd (pi_range2 (by rfl) hrng (pa_cons pe_int (pa_cons (pe_callB call_len_seq (by rfl) T.len PySem.boot_len (pa_cons (pv 0) pa_nil)) pa_nil)))
      (blkOk_by (N := ["_law_items", "_law_k"]) (sc := defScope sRises) (by decide +kernel)) (fun _ _ _ _ _ => pg_name (i := 1) scRises.nd rfl (Or.inl rfl))
      (fun _ _ _ _ _ => pts_one (pt_not (pt_cmpR (ltDat_at rfl hr.units) (pe_ix (ixL_at rfl) (pv 0) (pe_op op_sub (pv 1) pe_int) (fun _ _ => rfl)) (pe_ix (ixL_at rfl) (pv 0) (pv 1) (fun _ _ => rfl)) (nomark _))))
      (fun _ _ _ _ _ => by exact pv 1)) (pe_lst pa_nil) (nomark _))), ?_⟩
  refine ⟨_, rfl, a, _, rfl, .inl (SqL.of hx), 1, _, rfl, ?_⟩
  refine ⟨⟨by decide, by decide, by omega, by omega⟩, fun D hD => ?_⟩
  rw [show ((us.length : Nat) - 1 : Int).toNat = xs.length - 1 by omega]
  refine lc_it (walk_range (lo := 1) (n := xs.length - 1)) (fun i H' => ∃ ns : List Int, H' D = some (.lst (ns.map V.int)) ∧ ns.length ≤ i ∧ ns.isEmpty = (risen ltP xs i).all id ∧ Same H H')
    ⟨[], upd_same, Nat.le_refl _, (by unfold risen; simp), same_new hD _⟩ (fun _ _ _ _ => trivial) ?_ ?_
  · rintro i x H1 H2 hi ⟨ns, m1, m2, m3, s1⟩ ⟨rfl, rfl⟩
    obtain ⟨p, hp⟩ : ∃ p, xs[i]? = some p := ⟨_, List.getElem?_eq_getElem (by omega)⟩
    obtain ⟨p2, hp2⟩ : ∃ p, xs[i + 1]? = some p := ⟨_, List.getElem?_eq_getElem (by omega)⟩
    obtain ⟨v1, hv1⟩ : ∃ v, us[i]? = some v := ⟨_, List.getElem?_eq_getElem (by omega)⟩
    obtain ⟨v2, hv2⟩ : ∃ v, us[i + 1]? = some v := ⟨_, List.getElem?_eq_getElem (by omega)⟩
    obtain ⟨t1, p', rfl, e1, f1⟩ := hpa _ _ hv1
    obtain ⟨t2, p2', rfl, e2, f2⟩ := hpa _ _ hv2
    obtain rfl : p = p' := Option.some.inj (hp.symm.trans e1)
    obtain rfl : p2 = p2' := Option.some.inj (hp2.symm.trans e2)
    have a1 : atI us (1 + ((i : Nat) : Int) - 1) = some (.ref t1) := by
      rw [show 1 + ((i : Nat) : Int) - 1 = ((i : Nat) : Int) by omega]
      exact atI_nat hv1
    have a2 : atI us (1 + ((i : Nat) : Int)) = some (.ref t2) := by
      rw [show 1 + ((i : Nat) : Int) = ((i + 1 : Nat) : Int) by omega]
      exact atI_nat hv2
    refine ⟨rfl, _, rfl, _, rfl, _, _, rfl, rfl, a, _, _, .ref t1, rfl, rfl, SqL.of (s1 _ _ hx), a1, _, rfl, _, rfl, a, _, _, .ref t2, rfl, rfl, SqL.of (s1 _ _ hx), a2, pairP p, pairP p2, .tup (SqT.of (s1 _ _ f1)) (.cons (.int _) (.cons (.str _) .nil)), .tup (SqT.of (s1 _ _ f2)) (.cons (.int _) (.cons (.str _) .nil)), alike_pair p p2, (by intro z; cases z), ?_, _, rfl, ?_⟩
    · unfold pairP
      simp [PyData.depth, PyData.depthAll]
    rw [lt_pair]
    have eR : (risen ltP xs (i + 1)).all id = (ns.isEmpty && ltP p p2) := by
      rw [risen_next hp hp2, List.all_append, ← m3]
      simp
    by_cases c : ltP p p2 = true
    · rw [c]
      refine if_fl rfl ⟨ns, m1, by omega, ?_, s1⟩
      rw [eR, c, Bool.and_true]
    · rw [Bool.eq_false_iff.mpr c]
      refine ⟨_, rfl, _, m1, by rw [List.length_map, sizeLine_eq]; omega, ns ++ [1 + (i : Int)], ?_, ?_, ?_, fun b o e => ?_⟩
      · rw [upd_same, List.map_append]
        rfl
      · rw [List.length_append]
        show ns.length + 1 ≤ _
        omega
      · rw [eR, Bool.eq_false_iff.mpr c, Bool.and_false]
        simp
      · rw [upd_ne (ne_of_none e hD)]
        exact s1 b o e
  · rintro H1 ⟨ns, m1, m2, m3, s1⟩
    refine ⟨(by show 0 ≤ sizeLine; decide), fun pe hpe => ?_⟩
    have s2 := same_new hpe (.lst [])
    refine ⟨_, _, dp_ints (SqL.of (s2 _ _ m1)), .lst (SqL.of upd_same) .nil, shaped_ints ns, rfl, ?_⟩
    rw [eqv_nil, m3, risen_all]
    exact q _ (s1.trans s2)
end
end Vf

set_option Elab.async false
set_option linter.all false
set_option maxRecDepth 100000
set_option maxHeartbeats 4000000
namespace Vf
open PySem PySem.Spec PyProof.Rows L2 L2.Vx Vs Vm Vd
abbrev sAreW : Stmt := top 20
/-! ### the law's own look at words -/
def areB (sg : Wd) (lo hi : Int) : PyData → Bool
  | .tuple ds => ds.all fun d => textD sg d && (decide (lo ≤ ((wdOf d).length : Int)) && decide (((wdOf d).length : Int) ≤ hi))
  | _ => false
def spAreW : Sp := fun vs H Q _ => ∃ (sg : Wd) (lo hi : Int) (v : V) (D : PyData) (S : Addr → Prop), vs = [.str (mkS sg), .int lo, .int hi, v] ∧ Dt H S v D ∧ wideD 100000 D ∧ ∀ H', Same H H' → Q (.bl (areB sg lo hi D)) H'
def okW (sg : Wd) (lo hi : Int) (w : Wd) : Bool := (w.all fun c => decide (c ∈ sg)) && (decide (lo ≤ (w.length : Int)) && decide ((w.length : Int) ≤ hi))
theorem are_words {sg : Wd} {lo hi : Int} : ∀ {ds : List PyData}, ds.all strD = true → areB sg lo hi (.tuple ds) = (ds.map wdOf).all (okW sg lo hi)
  | [], _ => rfl
  | d :: r, h => by
    rw [List.all_cons, Bool.and_eq_true] at h
    have ih := are_words (sg := sg) (lo := lo) (hi := hi) h.2
    have e : areB sg lo hi (.tuple (d :: r)) = ((textD sg d && (decide (lo ≤ ((wdOf d).length : Int)) && decide (((wdOf d).length : Int) ≤ hi))) && areB sg lo hi (.tuple r)) := rfl
    rw [e, ih, List.map_cons, List.all_cons]
    congr 1
    cases d with
    | str x => rfl
    | _ => exact absurd h.1 (by intro z; cases z)
theorem isi_at {K : PySem.W.Frag} {X : Cx} (e : X.K = K) : CallR X (.builtin "isinstance") (rIsi K) := e ▸ call_isi
section
variable {P : Program} {w : World} {K : PySem.W.Frag} {mg : Str → Option Value} {base : Heap}
theorem neNil_at {K : PySem.W.Frag} {X : Cx} (e : X.K = K) (hu : X.A.units + 64 < cLine) : OpR X (compareOp .NotEq) (fun x y H Q => ∃ a b xs, x = .ref a ∧ y = .ref b ∧ SqL K H a xs ∧ SqL K H b [] ∧ Q (.bl (!xs.isEmpty)) H) := e ▸ op_neNil hu
abbrev scIn : Scope := { kind := .function, names := [(".0", .local), ("_law_it", .local), ("len", .globalImplicit), ("_law_abc", .cell), ("_law_high", .cell), ("_law_low", .cell)], isGenerator := false, isCoroutine := false, more := [] }
abbrev nAreW : List Str := ["_law_abc", "_law_low", "_law_high", "_law_some_here", "_law_it", "_law_sign"]
theorem scAreW : FnScope nAreW ["_law_abc", "_law_low", "_law_high", "_law_some_here"] (defScope sAreW) := ⟨rfl, rfl, rfl, by decide +kernel, rfl, by decide +kernel, by decide +kernel⟩
theorem ok_areW {f : Addr} {fd : FuncData} (F : Fun K "_law_are_words" "_law_are_words" sAreW f fd) (T : TxtI mg) : FnOk P w K mg base CX0 1 f fd ["_law_abc", "_law_low", "_law_high", "_law_some_here"] spAreW := by
  refine F.ok scAreW (fun vs H Q E h => ?_) (fun cdv A outer s H vs Q E hr h => ?_)
  · obtain ⟨sg, lo, hi, v, D, S, rfl, _⟩ := h
    rfl
  obtain ⟨sg, lo, hi, v, D, S, rfl, hd, hw, q⟩ := h
  refine ⟨_, pss_cons (ps_if (PW.pt (pw_or (pt_not (pt_val (pe_callB call_isi (by rfl) T.isi (by decide +kernel) (pa_cons (pv 3) (pa_cons (pe_bltn (v := .ty "tuple") (u := .type "tuple") (by rfl) T.tuple (by decide +kernel) rfl) pa_nil)))))
        (pw_or1 (pt_cmpR (op_neNil hr.units) (pe_lc (own := [("_law_it", 4)]) (g := gName 4) (tt := _) rfl scAreW.nd (pi_tup (pv 3))
          (blkOk_by (N := nAreW) (sc := defScope sAreW) (by decide +kernel)) (fun _ _ _ _ _ => pg_name (i := 4) scAreW.nd rfl (Or.inl rfl))
          (fun _ _ _ _ _ => pts_one (pt_not (pt_val (pe_callB (isi_at rfl) (by rfl) T.isi (by decide +kernel) (pa_cons (pv 4) (pa_cons (pe_bltn (v := .ty "str") (u := .type "str") (by rfl) T.str (by decide +kernel) rfl) pa_nil))))))
          (fun _ _ _ _ _ => by exact pv 4)) (pe_lst pa_nil) (nomark _))))) (pss_one (ps_ret pe_bl)) pss_nil)
    (pss_one (ps_ret (pe_cmpR (op_eqNil hr.units) (pe_lc (own := [("_law_it", 4)]) (g := gName 4) (tt := _) rfl scAreW.nd (pi_tup (pv 3))
        (blkOk_by (N := nAreW) (sc := defScope sAreW) (by decide +kernel)) (fun _ _ _ _ _ => pg_name (i := 4) scAreW.nd rfl (Or.inl rfl))
        (fun _ _ _ _ _ => pts_one (PW.pt (pw_or (pt_not (pt_chain op_le op_le (pv 1) (pe_callB call_len_str (by rfl) T.len PySem.boot_len (pa_cons (pv 4) pa_nil)) (pv 2)))
          (pw_or1 (pt_cmpR (neNil_at rfl hr.units) (pe_lc (own := [("_law_sign", 5)]) (g := gName 5) (tt := _) rfl scAreW.nd (pi_str (pv 4))
            (blkOk_by (N := nAreW) (sc := scIn) (by decide +kernel)) (fun _ _ _ _ _ => pg_name (i := 5) scAreW.nd rfl (Or.inl rfl))
            (fun _ _ _ _ _ => pts_one (pt_cmpR op_notIn_sign (pv 5) (pv 0) (by rfl))) (fun _ _ _ _ _ => by exact pv 5)) (pe_lst pa_nil) (nomark _))))))
        (fun _ _ _ _ _ => by exact pv 4)) (pe_lst pa_nil) (nomark _)))), ?_⟩
  have q' := q H (Same.refl H)
  refine ⟨_, rfl, _, _, _, _, _, rfl, .ty _, dt_ty hd, kit_D D (.inr (.inr (.inr rfl))), _, rfl, ?_⟩
  by_cases c : isD "tuple" D = true
  rotate_left
  · have e : areB sg lo hi D = false := by
      cases D with
      | tuple ds => exact absurd ((isD_tup _).mpr ⟨ds, rfl⟩) c
      | _ => rfl
    rw [e] at q'
    rw [show isD "tuple" D = false from Bool.eq_false_iff.mpr c]
    exact q'
  obtain ⟨ds, rfl⟩ := (isD_tup D).mp c
  rw [c]
  obtain ⟨a, xs, rfl, ea, _, da⟩ := dt_tup hd
  have hl := dtA_len da
  obtain ⟨wl, wr⟩ : ds.length ≤ 100000 ∧ wideDs 100000 ds := by
    unfold wideD at hw
    exact hw
  refine if_fl rfl ?_
  refine ⟨_, rfl, a, rfl, ⟨xs, SqT.of ea⟩, fun D hD => ?_⟩
  refine lc_it walk_tup (fun i H' => ∃ us : List V, H' D = some (.lst us) ∧ us.length ≤ i ∧ us.isEmpty = (ds.take i).all strD ∧ Same H H') ⟨[], upd_same, Nat.le_refl _, (by simp), same_new hD _⟩ (fun i H' _ ⟨_, _, _, _, s'⟩ => SqT.of (s' _ _ ea)) ?_ ?_
  · rintro i v H1 H2 hi' ⟨us, m1, m2, m3, sm⟩ ⟨rfl, hx⟩
    obtain ⟨d, hdd, dd⟩ := dtA_at da hx
    refine ⟨rfl, _, rfl, _, _, _, _, _, rfl, .ty _, dt_ty (dt_same dd sm), kit_D d (.inr (.inr (.inl rfl))), _, rfl, ?_⟩
    rw [isD_str]
    have et : (ds.take (i + 1)).all strD = (us.isEmpty && strD d) := by
      rw [List.take_add_one, hdd, List.all_append, ← m3]
      simp
    by_cases c1 : strD d = true
    · rw [c1]
      refine if_fl rfl ⟨us, m1, by omega, ?_, sm⟩
      rw [et, c1, Bool.and_true]
    · rw [Bool.eq_false_iff.mpr c1]
      refine ⟨_, rfl, _, m1, by rw [sizeLine_eq]; omega, us ++ [v], upd_same, ?_, ?_, fun b o e => ?_⟩
      · rw [List.length_append]
        show us.length + 1 ≤ _
        omega
      · rw [et, Bool.eq_false_iff.mpr c1, Bool.and_false]
        simp
      · rw [upd_ne (ne_of_none e hD)]
        exact sm b o e
  rintro H1 ⟨us, m1, m2, m3, sm⟩
  rw [hl, List.take_length] at m3
  refine ⟨(by show 0 ≤ sizeLine; decide), fun pe hpe => ?_⟩
  have s2 := same_new hpe (.lst [])
  refine ⟨D, pe, us, rfl, rfl, SqL.of (s2 _ _ m1), SqL.of upd_same, _, rfl, ?_⟩
  rw [m3]
  have s12 := sm.trans s2
  generalize upd H1 pe (.lst []) = H2 at s12 ⊢
  by_cases c1 : ds.all strD = true
  rotate_left
  · have e1 : areB sg lo hi (.tuple ds) = false := by
      show (ds.all _) = false
      rw [Bool.eq_false_iff]
      intro z
      apply c1
      rw [List.all_eq_true] at z ⊢
      intro d hd'
      have := z d hd'
      rw [Bool.and_eq_true] at this
      exact text_str this.1
    have g := q H2 s12
    rw [e1] at g
    rw [Bool.eq_false_iff.mpr c1]
    exact g
  rw [c1]
  refine if_fl rfl ?_
  have ex := dtA_strs da c1
  have hlen : ∀ w ∈ ds.map wdOf, w.length ≤ 100000 := by
    intro w hw'
    obtain ⟨d, hd', rfl⟩ := List.mem_map.mp hw'
    have z := wide_mem wr d hd'
    cases d with
    | str x =>
      show x.cps.toList.length ≤ _
      rw [Array.length_toList]
      exact z
    | _ => exact Nat.zero_le _
  have wl' : (ds.map wdOf).length ≤ 100000 := by rw [List.length_map]; exact wl
  rw [ex] at ea
  rw [are_words c1] at q
  generalize ds.map wdOf = ws at ea hlen q wl'
  have ea2 := s12 _ _ ea
  refine ⟨_, rfl, a, rfl, ⟨_, SqT.of ea2⟩, fun D2 hD2 => ?_⟩
  refine lc_it (walk_tup (xs := (ws.map mkS).map V.str)) (fun i H' => ∃ us : List V, H' D2 = some (.lst us) ∧ us.length ≤ i ∧ us.isEmpty = (ws.take i).all (okW sg lo hi) ∧ Same H2 H') ⟨[], upd_same, Nat.le_refl _, (by simp), same_new hD2 _⟩ (fun i H' _ ⟨_, _, _, _, s'⟩ => SqT.of (s' _ _ ea2)) ?_ ?_
  · rintro i v H3 H4 hi' ⟨us, m1, m2, m3, sm⟩ ⟨rfl, hx⟩
    obtain ⟨z, hz, rfl⟩ := str_atW hx
    have hzl := hlen z (List.mem_of_getElem? hz)
    have hil : i < ws.length := (List.getElem?_eq_some_iff.mp hz).1
    have hz16 : (mkS z).length ≤ sizeLine := by rw [mkS_length, sizeLine_eq]; omega
    have et : (ws.take (i + 1)).all (okW sg lo hi) = (us.isEmpty && okW sg lo hi z) := by
      rw [List.take_add_one, hz, List.all_append, ← m3]
      simp
    have bad : ∀ H' : Hp, H' D2 = some (.lst us) → Same H2 H' → okW sg lo hi z = false → ∃ acc, H' D2 = some (.lst acc) ∧ acc.length < sizeLine ∧ ∃ us : List V, (upd H' D2 (.lst (acc ++ [V.str (mkS z)]))) D2 = some (.lst us) ∧ us.length ≤ i + 1 ∧ us.isEmpty = (ws.take (i + 1)).all (okW sg lo hi) ∧ Same H2 (upd H' D2 (.lst (acc ++ [V.str (mkS z)]))) := by
      intro H' e1 e2 e3
      refine ⟨_, e1, by rw [sizeLine_eq]; omega, us ++ [.str (mkS z)], upd_same, ?_, ?_, fun b o e => ?_⟩
      · rw [List.length_append]
        show us.length + 1 ≤ _
        omega
      · rw [et, e3, Bool.and_false]
        simp
      · rw [upd_ne (ne_of_none e hD2)]
        exact e2 b o e
    refine ⟨rfl, _, rfl, _, rfl, _, rfl, hz16, _, _, rfl, rfl, _, rfl, ?_⟩
    rw [mkS_length]
    refine ite2 (fun c2 => ?_) (fun c2 => ?_)
    rotate_left
    · exact ⟨_, rfl, _, rfl, bad _ m1 sm (by unfold okW; rw [Bool.eq_false_iff.mpr c2]; simp)⟩
    refine ⟨_, rfl, _, _, rfl, rfl, _, rfl, ?_⟩
    by_cases c3 : decide ((z.length : Int) ≤ hi) = true
    rotate_left
    · rw [Bool.eq_false_iff.mpr c3]
      exact ⟨_, rfl, bad _ m1 sm (by unfold okW; rw [Bool.eq_false_iff.mpr c3]; simp)⟩
    rw [c3]
    refine if_fl rfl ?_
    refine ⟨_, rfl, _, rfl, fun D3 hD3 => ?_⟩
    have nD : D2 ≠ D3 := ne_of_none m1 hD3
    refine lc_it walk_str (fun i' H' => ∃ cs : List Nat, H' D3 = some (.lst (cs.map fun c => V.str (mkS [c]))) ∧ cs.length ≤ i' ∧ cs.isEmpty = ((z.take i').all fun c => decide (c ∈ sg)) ∧ Same H4 H') ⟨[], upd_same, Nat.le_refl _, (by simp), same_new hD3 _⟩ (fun _ _ _ _ => trivial) ?_ ?_
    · rintro i' x H5 H6 hi'' ⟨cs, n1, n2, n3, n4⟩ ⟨rfl, cc, hcc, rfl⟩
      have hc2 : z[i']? = some cc := by
        rw [← Array.getElem?_toList, mkS_cps] at hcc
        exact hcc
      have hi2 : i' < z.length := (List.getElem?_eq_some_iff.mp hc2).1
      have et2 : ((z.take (i' + 1)).all fun c => decide (c ∈ sg)) = (cs.isEmpty && decide (cc ∈ sg)) := by
        rw [List.take_add_one, hc2, List.all_append, ← n3]
        simp
      refine ⟨rfl, _, rfl, _, rfl, cc, mkS sg, rfl, rfl, _, rfl, ?_⟩
      rw [mkS_cps]
      by_cases c4 : decide (cc ∈ sg) = true
      · rw [c4]
        refine if_fl rfl ⟨cs, n1, by omega, ?_, n4⟩
        rw [et2, c4, Bool.and_true]
      · rw [Bool.eq_false_iff.mpr c4]
        refine ⟨_, rfl, _, n1, by rw [List.length_map, sizeLine_eq]; omega, cs ++ [cc], ?_, ?_, ?_, fun b o e => ?_⟩
        · rw [upd_same, List.map_append]
          rfl
        · rw [List.length_append]
          show cs.length + 1 ≤ _
          omega
        · rw [et2, Bool.eq_false_iff.mpr c4, Bool.and_false]
          simp
        · rw [upd_ne (ne_of_none e hD3)]
          exact n4 b o e
    rintro H5 ⟨cs, n1, n2, n3, n4⟩
    have esz : (mkS z).cps.size = z.length := mkS_length z
    rw [esz, List.take_length] at n3
    refine ⟨(by show 0 ≤ sizeLine; decide), fun pe hpe => ?_⟩
    have s4 := same_new hpe (.lst [])
    refine ⟨D3, pe, _, rfl, rfl, SqL.of (s4 _ _ n1), SqL.of upd_same, _, rfl, ?_⟩
    have ee : (cs.map fun c => V.str (mkS [c])).isEmpty = cs.isEmpty := by cases cs <;> rfl
    rw [ee, n3]
    have m1' := s4 _ _ (n4 _ _ m1)
    have sm' := sm.trans (n4.trans s4)
    by_cases c5 : (z.all fun c => decide (c ∈ sg)) = true
    · rw [c5]
      refine if_fl rfl ⟨us, m1', by omega, ?_, sm'⟩
      rw [et]
      unfold okW
      rw [c5, c2, c3]
      simp
    · rw [Bool.eq_false_iff.mpr c5]
      exact ⟨_, rfl, bad _ m1' sm' (by unfold okW; rw [Bool.eq_false_iff.mpr c5, Bool.false_and])⟩
  · rintro H3 ⟨us, m1, m2, m3, sm⟩
    rw [List.length_map, List.length_map, List.take_length] at m3
    refine ⟨(by show 0 ≤ sizeLine; decide), fun pe hpe => ?_⟩
    have s3 := same_new hpe (.lst [])
    refine ⟨D2, pe, us, rfl, rfl, SqL.of (s3 _ _ m1), SqL.of upd_same, ?_⟩
    rw [m3]
    exact q _ ((s12.trans sm).trans s3)
end
end Vf

set_option Elab.async false
set_option linter.all false
set_option maxRecDepth 100000
set_option maxHeartbeats 4000000
namespace Vf
open PySem PySem.Spec PyProof.Rows L2 L2.Vx Vs Vm Vd
abbrev sIsJ : Stmt := top 21
/-! ### the law's own judge -/
theorem shorter_are {sg : Wd} {k : Int} (D : PyData) : (∃ ds, D = .tuple ds ∧ shorterB sg k D = (areB sg 0 (k - 1) D && riseB ltP (ds.map wdOf))) ∨ (shorterB sg k D = false ∧ areB sg 0 (k - 1) D = false) := by
  cases D with
  | tuple ds =>
    refine .inl ⟨ds, rfl, ?_⟩
    show (ds.all (textD sg) && (ds.all (fun d => decide (((wdOf d).length : Int) < k)) && riseB ltP (ds.map wdOf))) = _
    rw [← Bool.and_assoc]
    congr 1
    show _ = ds.all _
    rw [Bool.eq_iff_iff, Bool.and_eq_true, List.all_eq_true, List.all_eq_true, List.all_eq_true]
    constructor
    · rintro ⟨h1, h2⟩ d hd
      rw [h1 d hd, Bool.true_and, Bool.and_eq_true, decide_eq_true_iff, decide_eq_true_iff]
      have := of_decide_eq_true (h2 d hd)
      omega
    · intro h
      refine ⟨fun d hd => ?_, fun d hd => ?_⟩
      · have z := h d hd
        rw [Bool.and_eq_true] at z
        exact z.1
      · have z := h d hd
        rw [Bool.and_eq_true, Bool.and_eq_true, decide_eq_true_iff, decide_eq_true_iff] at z
        rw [decide_eq_true_iff]
        omega
  | _ => exact .inr ⟨rfl, rfl⟩
theorem words_are {sg : Wd} {n : Int} (D : PyData) : (∃ ds, D = .tuple ds ∧ wordsB sg n D = (areB sg n n D && riseB ltW (ds.map wdOf))) ∨ (wordsB sg n D = false ∧ areB sg n n D = false) := by
  cases D with
  | tuple ds =>
    refine .inl ⟨ds, rfl, ?_⟩
    show (ds.all (wordDB sg n) && riseB ltW (ds.map wdOf)) = _
    congr 1
    show _ = ds.all _
    rw [Bool.eq_iff_iff, List.all_eq_true, List.all_eq_true]
    constructor
    · intro h d hd
      have z := h d hd
      unfold wordDB at z
      rw [Bool.and_eq_true, decide_eq_true_iff] at z
      rw [z.1, Bool.true_and, Bool.and_eq_true, decide_eq_true_iff, decide_eq_true_iff]
      omega
    · intro h d hd
      have z := h d hd
      rw [Bool.and_eq_true, Bool.and_eq_true, decide_eq_true_iff, decide_eq_true_iff] at z
      unfold wordDB
      rw [Bool.and_eq_true, decide_eq_true_iff]
      exact ⟨z.1, by omega⟩
  | _ => exact .inr ⟨rfl, rfl⟩
theorem are_strs {sg : Wd} {lo hi : Int} {ds : List PyData} (h : areB sg lo hi (.tuple ds) = true) : ds.all strD = true := by
  have h' : (ds.all fun d => textD sg d && (decide (lo ≤ ((wdOf d).length : Int)) && decide (((wdOf d).length : Int) ≤ hi))) = true := h
  rw [List.all_eq_true] at h' ⊢
  intro d hd
  have z := h' d hd
  rw [Bool.and_eq_true] at z
  exact text_str z.1
end Vf

set_option Elab.async false
set_option linter.all false
set_option maxRecDepth 100000
set_option maxHeartbeats 4000000
namespace Vf
open PySem PySem.Spec PyProof.Rows L2 L2.Vx Vs Vm Vd
section
variable {P : Program} {w : World} {K : PySem.W.Frag} {mg : Str → Option Value} {base : Heap}
abbrev nIsJ : List Str := ["_law_abc", "_law_it", "_law_wide", "_law_some_here", "_law_size", "_law_word"]
theorem scIsJ : FnScope nIsJ ["_law_abc", "_law_it"] (defScope sIsJ) := ⟨rfl, rfl, rfl, by decide +kernel, rfl, by decide +kernel, by decide +kernel⟩
theorem ok_isJ {f fA fR : Addr} {fd fdA fdR : FuncData} (F : Fun K "_law_is_judge" "_law_is_judge" sIsJ f fd) (T : TxtI mg)
    (GA : FnOk P w K mg base CX0 1 fA fdA ["_law_abc", "_law_low", "_law_high", "_law_some_here"] spAreW) (bA : Binds K fdA ["_law_abc", "_law_low", "_law_high", "_law_some_here"] []) (kA : PySem.W.keepIn K (.ref fA) = true) (mA : mg "_law_are_words" = some (.ref fA))
    (GP : FnOk P w K mg base CX0 1 fR fdR ["_law_items"] spRisesP) (GW : FnOk P w K mg base CX0 1 fR fdR ["_law_items"] spRisesW) (bR : Binds K fdR ["_law_items"] []) (kR : PySem.W.keepIn K (.ref fR) = true) (mR : mg "_law_rises" = some (.ref fR)) :
    FnOk P w K mg base CX0 2 f fd ["_law_abc", "_law_it"] spJudgeQ := by
  refine F.ok scIsJ (fun vs H Q E h => ?_) (fun cdv A outer s H vs Q E hr h => ?_)
  · obtain ⟨sg, v, D, S, rfl, _⟩ := h
    rfl
  obtain ⟨sg, v, D, S, rfl, hd, hw, q⟩ := h
  refine ⟨_, pss_cons (ps_if (PW.pt (pw_or (pt_not (pt_val (pe_callB call_isi (by rfl) T.isi (by decide +kernel) (pa_cons (pv 1) (pa_cons (pe_bltn (v := .ty "tuple") (u := .type "tuple") (by rfl) T.tuple (by decide +kernel) rfl) pa_nil)))))
        (pw_or1 (pt_cmpR op_ne (pe_callB call_len_seq (by rfl) T.len PySem.boot_len (pa_cons (pv 1) pa_nil)) pe_int (nomark _))))) (pss_one (ps_ret pe_bl)) pss_nil)
    (pss_cons (ps_set (i := 2) scIsJ.nd rfl (Or.inl rfl) (pe_ix ix_tup (pv 1) pe_int (fun _ _ => rfl)))
    (pss_cons (ps_if (PW.pt (pw_or (pt_not (pt_val (pe_callB call_isi (by rfl) T.isi (by decide +kernel) (pa_cons (pv 2) (pa_cons (pe_bltn (v := .ty "int") (u := .type "int") (by rfl) T.int (by decide +kernel) rfl) pa_nil)))))
        (pw_or (pt_val (pe_callB call_isi (by rfl) T.isi (by decide +kernel) (pa_cons (pv 2) (pa_cons (pe_bltn (v := .ty "bool") (u := .type "bool") (by rfl) T.bool (by decide +kernel) rfl) pa_nil))))
        (pw_or1 (pt_cmpR op_lt (pv 2) pe_int (nomark _)))))) (pss_one (ps_ret pe_bl)) pss_nil)
    (pss_cons (ps_if (PW.pt (pw_or (pt_not (pt_val (pe_call GA hr rfl mA kA bA .nil pass0 (pa_cons (pv 0) (pa_cons pe_int (pa_cons (pe_op op_sub (pv 2) pe_int) (pa_cons (pe_ix ix_tup (pv 1) pe_int (fun _ _ => rfl)) pa_nil)))))))
        (pw_or1 (pt_not (pt_val (pe_call GP hr rfl mR kR bR .nil pass0 (pa_cons (pe_lc (own := [("_law_word", 5)]) (g := gName 5) (tt := tYes) rfl scIsJ.nd (pi_tup (pe_ix ix_tup (pv 1) pe_int (fun _ _ => rfl)))
          (blkOk_by (N := nIsJ) (sc := defScope sIsJ) (by decide +kernel)) (fun _ _ _ _ _ => pg_name (i := 5) scIsJ.nd rfl (Or.inl rfl)) (fun _ _ _ _ _ => pts_nil)
          (fun _ _ _ _ _ => by exact pe_tup (pa_cons (pe_callB call_len_str (by rfl) T.len PySem.boot_len (pa_cons (pv 5) pa_nil)) (pa_cons (pv 5) pa_nil)))) pa_nil))))))) (pss_one (ps_ret pe_bl)) pss_nil)
    (pss_cons (ps_for PassesOwn.never rfl (pi_list (pe_lst (pa_cons (pe_tup (pa_cons (pe_ix ix_tup (pv 1) pe_int (fun _ _ => rfl)) (pa_cons (pe_op op_sub (pv 2) pe_int) pa_nil))) (pa_cons (pe_tup (pa_cons (pe_ix ix_tup (pv 1) pe_int (fun _ _ => rfl)) (pa_cons (pe_op op_sub (pv 2) pe_int) pa_nil))) (pa_cons (pe_tup (pa_cons (pe_ix ix_tup (pv 1) pe_int (fun _ _ => rfl)) (pa_cons (pv 2) pa_nil))) pa_nil))))) (pg_tup rfl (pgs_cons (pg_name (i := 3) scIsJ.nd rfl (Or.inl rfl)) (pgs_cons (pg_name (i := 4) scIsJ.nd rfl (Or.inl rfl)) pgs_nil)))
        (pss_one (ps_if (PW.pt (pw_or (pt_not (pt_val (pe_call GA hr rfl mA kA bA .nil pass0 (pa_cons (pv 0) (pa_cons (pv 4) (pa_cons (pv 4) (pa_cons (pv 3) pa_nil)))))))
          (pw_or1 (pt_not (pt_val (pe_call GW hr rfl mR kR bR .nil pass0 (pa_cons (pv 3) pa_nil))))))) (pss_one (ps_ret pe_bl)) pss_nil)))
    (pss_one (ps_ret pe_bl)))))), ?_⟩
  have q' := q H (Same.refl H)
  refine ⟨_, rfl, _, _, _, _, _, rfl, .ty _, dt_ty hd, kit_D D (.inr (.inr (.inr rfl))), _, rfl, ?_⟩
  by_cases c : isD "tuple" D = true
  rotate_left
  · have e : judgeB sg D = false := by
      cases D with
      | tuple ds => exact absurd ((isD_tup _).mpr ⟨ds, rfl⟩) c
      | _ => rfl
    rw [e] at q'
    rw [show isD "tuple" D = false from Bool.eq_false_iff.mpr c]
    exact q'
  obtain ⟨ds, rfl⟩ := (isD_tup D).mp c
  rw [c]
  obtain ⟨a, xs, rfl, ea, _, da⟩ := dt_tup hd
  have hl := dtA_len da
  obtain ⟨wl, wr⟩ : ds.length ≤ 100000 ∧ wideDs 100000 ds := by
    unfold wideD at hw
    exact hw
  refine if_fl rfl ?_
  refine ⟨_, rfl, a, xs, rfl, .inr (SqT.of ea), rfl, _, rfl, ?_⟩
  by_cases h5 : ds.length = 5
  rotate_left
  · rw [judge_len h5] at q'
    have e : decide (V.int (xs.length : Nat) = V.int 5) = false := decide_eq_false fun z => h5 (by
      have z2 := V.int.inj z
      omega)
    rw [e]
    exact q'
  have e5 : decide (V.int (xs.length : Nat) = V.int 5) = true := decide_eq_true (by rw [hl, h5]; rfl)
  rw [e5]
  refine if_fl rfl ?_
  match ds, h5, da, wr, q, q' with
  | [d1, d2, d3, d4, d5], _, da, wr, q, q' =>
    obtain ⟨v1, r1, rfl, h1, r⟩ := dtA_one da
    obtain ⟨v2, r2, rfl, h2, r⟩ := dtA_one r
    obtain ⟨v3, r3, rfl, h3, r⟩ := dtA_one r
    obtain ⟨v4, r4, rfl, h4, r⟩ := dtA_one r
    obtain ⟨v5, r5, rfl, h5, r⟩ := dtA_one r
    obtain rfl := dtA_nil r
    have w2 := wide_mem wr d2 (by simp)
    have w3 := wide_mem wr d3 (by simp)
    have w4 := wide_mem wr d4 (by simp)
    have w5 := wide_mem wr d5 (by simp)
    refine ⟨_, rfl, a, _, _, v1, rfl, rfl, SqT.of ea, atI_nat (j := 0) rfl, ?_⟩
    refine ⟨_, rfl, _, _, _, _, _, rfl, .ty _, dt_ty h1, kit_D d1 (.inl rfl), _, rfl, ?_⟩
    cases d1 with
    | bool b => exact if_fl rfl ⟨_, rfl, _, _, _, _, _, rfl, .ty _, dt_ty h1, kit_D _ (.inr (.inl rfl)), _, rfl, q'⟩
    | int k =>
      obtain rfl := dt_int h1
      have ej : judgeB sg (.tuple [.int k, d2, d3, d4, d5]) = (decide (1 ≤ k) && (shorterB sg k d2 && (wordsB sg (k - 1) d3 && (wordsB sg (k - 1) d4 && wordsB sg k d5)))) := rfl
      rw [ej] at q
      refine if_fl rfl ⟨_, rfl, _, _, _, _, _, rfl, .ty _, dt_ty h1, kit_D _ (.inr (.inl rfl)), _, rfl, if_fl rfl ⟨_, rfl, _, _, rfl, rfl, _, rfl, ?_⟩⟩
      refine ite2 (fun c1 => ?_) (fun c1 => ?_)
      · have g := q H (Same.refl H)
        rw [decide_eq_false (by have := of_decide_eq_true c1; omega : ¬ 1 ≤ k), Bool.false_and] at g
        exact g
      have k1 : decide (1 ≤ k) = true := decide_eq_true (by
        have : ¬ k < 1 := fun z => c1 (decide_eq_true z)
        omega)
      rw [k1, Bool.true_and] at q
      refine ⟨_, rfl, _, rfl, _, _, rfl, rfl, _, rfl, a, _, _, v2, rfl, rfl, SqT.of ea, atI_nat (j := 1) rfl, sg, 0, k - 1, v2, d2, S, rfl, h2, w2, fun H1 s1 => ⟨_, rfl, ?_⟩⟩
      have ea1 := s1 _ _ ea
      rcases shorter_are (sg := sg) (k := k) d2 with ⟨ds2, rfl, e2⟩ | ⟨e2, e3⟩
      rotate_left
      · have g := q H1 s1
        rw [e2, Bool.false_and] at g
        rw [e3]
        exact g
      by_cases c2 : areB sg 0 (k - 1) (.tuple ds2) = true
      rotate_left
      · have g := q H1 s1
        rw [e2, Bool.eq_false_iff.mpr c2, Bool.false_and, Bool.false_and] at g
        rw [Bool.eq_false_iff.mpr c2]
        exact g
      rw [e2, c2, Bool.true_and] at q
      rw [c2]
      refine if_fl rfl ?_
      obtain ⟨a2, xs2, rfl, ea2, _, da2⟩ := dt_tup h2
      have ex2 := dtA_strs da2 (are_strs c2)
      obtain ⟨wl2, wr2⟩ : ds2.length ≤ 100000 ∧ wideDs 100000 ds2 := by
        unfold wideD at w2
        exact w2
      have hlen : ∀ w ∈ ds2.map wdOf, w.length ≤ 100000 := by
        intro w hw'
        obtain ⟨d, hd', rfl⟩ := List.mem_map.mp hw'
        have z := wide_mem wr2 d hd'
        cases d with
        | str x =>
          show x.cps.toList.length ≤ _
          rw [Array.length_toList]
          exact z
        | _ => exact Nat.zero_le _
      have wl' : (ds2.map wdOf).length ≤ 100000 := by rw [List.length_map]; exact wl2
      rw [ex2] at ea2
      generalize ds2.map wdOf = ws at ea2 hlen wl' q
      have ea3 := s1 _ _ ea2
      refine ⟨_, rfl, a, _, _, .ref a2, rfl, rfl, SqT.of ea1, atI_nat (j := 1) rfl, a2, rfl, ⟨_, SqT.of ea3⟩, fun D3 hD3 => ?_⟩
      refine lc_it (walk_tup (xs := (ws.map mkS).map V.str)) (fun i H' => ∃ us : List V, H' D3 = some (.lst us) ∧ us.length = i ∧ (∀ (j : Nat) (v : V), us[j]? = some v → ∃ (t : Addr) (p : Wd), v = .ref t ∧ t ≠ D3 ∧ ws[j]? = some p ∧ H' t = some (.tup [.int (p.length : Nat), .str (mkS p)])) ∧ Same H1 H') ⟨[], upd_same, rfl, (fun _ _ e => absurd e (by simp)), same_new hD3 _⟩ (fun i H' _ ⟨_, _, _, _, s'⟩ => SqT.of (s' _ _ ea3)) ?_ ?_
      · rintro i v H3 H4 hi ⟨us, u1, u2, u3, sm3⟩ ⟨rfl, hx⟩
        obtain ⟨z, hz, rfl⟩ := str_atW hx
        have hzl := hlen z (List.mem_of_getElem? hz)
        have hil : i < ws.length := (List.getElem?_eq_some_iff.mp hz).1
        refine ⟨rfl, _, rfl, _, rfl, by rw [mkS_length, sizeLine_eq]; omega, _, rfl, (by show 2 ≤ sizeLine; decide), fun t ht => ?_⟩
        rw [mkS_length]
        have htD : t ≠ D3 := (ne_of_none u1 ht).symm
        have st := same_new ht (.tup [.int (z.length : Nat), .str (mkS z)])
        refine ⟨us, st _ _ u1, by rw [u2, sizeLine_eq]; omega, us ++ [.ref t], upd_same, by rw [List.length_append, u2]; rfl, fun j v hj => ?_, fun b o e => ?_⟩
        · by_cases hjl : j < us.length
          · rw [List.getElem?_append_left hjl] at hj
            obtain ⟨t', p, rfl, h1, h2, h3⟩ := u3 j v hj
            exact ⟨t', p, rfl, h1, h2, by rw [upd_ne h1]; exact st _ _ h3⟩
          · rw [List.getElem?_append_right (by omega)] at hj
            have ej : j - us.length = 0 := by
              have := (List.getElem?_eq_some_iff.mp hj).1
              have h1 : [V.ref t].length = 1 := rfl
              omega
            rw [ej] at hj
            have ev : V.ref t = v := Option.some.inj hj
            refine ⟨t, z, ev.symm, htD, by rw [show j = i by omega]; exact hz, ?_⟩
            rw [upd_ne htD, upd_same]
        · rw [upd_ne (ne_of_none e hD3)]
          exact st _ _ (sm3 b o e)
      rintro H3 ⟨us, u1, u2, u3, sm3⟩
      rw [List.length_map, List.length_map] at u2
      refine ⟨D3, us, ws, rfl, u1, ⟨u2, fun i v hv => ?_⟩, wl', fun H4 s4 => ⟨_, rfl, ?_⟩⟩
      · obtain ⟨t, p, e1, _, e2, e3⟩ := u3 i v hv
        exact ⟨t, p, e1, e2, e3⟩
      have s14 : Same H H4 := (s1.trans sm3).trans s4
      by_cases c3 : riseB ltP ws = true
      rotate_left
      · have g := q H4 s14
        rw [Bool.eq_false_iff.mpr c3, Bool.false_and] at g
        rw [Bool.eq_false_iff.mpr c3]
        exact g
      rw [c3, Bool.true_and] at q
      rw [c3]
      refine if_fl rfl ?_
      have ea4 := s14 _ _ ea
      refine ⟨_, rfl, a, _, _, v3, rfl, rfl, SqT.of ea4, atI_nat (j := 2) rfl, _, rfl, _, _, rfl, rfl, (by show 2 ≤ sizeLine; decide), fun t3 ht3 => ?_⟩
      have st3 := same_new ht3 (.tup [v3, .int (k - 1)])
      have f3 : upd H4 t3 (.tup [v3, .int (k - 1)]) t3 = some (.tup [v3, .int (k - 1)]) := upd_same
      generalize upd H4 t3 (.tup [v3, .int (k - 1)]) = H5 at st3 f3 ⊢
      have ea5 := st3 _ _ ea4
      refine ⟨_, rfl, a, _, _, v4, rfl, rfl, SqT.of ea5, atI_nat (j := 3) rfl, _, rfl, _, _, rfl, rfl, (by show 2 ≤ sizeLine; decide), fun t4 ht4 => ?_⟩
      have st4 := same_new ht4 (.tup [v4, .int (k - 1)])
      have f4 : upd H5 t4 (.tup [v4, .int (k - 1)]) t4 = some (.tup [v4, .int (k - 1)]) := upd_same
      generalize upd H5 t4 (.tup [v4, .int (k - 1)]) = H6 at st4 f4 ⊢
      have ea6 := st4 _ _ ea5
      refine ⟨_, rfl, a, _, _, v5, rfl, rfl, SqT.of ea6, atI_nat (j := 4) rfl, _, rfl, (by show 2 ≤ sizeLine; decide), fun t5 ht5 => ?_⟩
      have st5 := same_new ht5 (.tup [v5, .int k])
      have f5 : upd H6 t5 (.tup [v5, .int k]) t5 = some (.tup [v5, .int k]) := upd_same
      generalize upd H6 t5 (.tup [v5, .int k]) = H7 at st5 f5 ⊢
      refine ⟨(by show 3 ≤ sizeLine; decide), fun l hl => ?_⟩
      have stl := same_new hl (.lst [V.ref t3, V.ref t4, V.ref t5])
      have fl : upd H7 l (.lst [V.ref t3, V.ref t4, V.ref t5]) l = some (.lst [V.ref t3, V.ref t4, V.ref t5]) := upd_same
      generalize upd H7 l (.lst [V.ref t3, V.ref t4, V.ref t5]) = H8 at stl fl ⊢
      have f3' := stl _ _ (st5 _ _ (st4 _ _ f3))
      have f4' := stl _ _ (st5 _ _ f4)
      have f5' := stl _ _ f5
      have s18 : Same H H8 := (((s14.trans st3).trans st4).trans st5).trans stl
      have item : ∀ (i : Nat) (x : V), [V.ref t3, V.ref t4, V.ref t5][i]? = some x → ∃ (t : Addr) (v : V) (n : Int) (d : PyData), x = .ref t ∧ H8 t = some (.tup [v, .int n]) ∧ Dt H8 S v d ∧ wideD 100000 d ∧ [wordsB sg (k - 1) d3, wordsB sg (k - 1) d4, wordsB sg k d5][i]? = some (wordsB sg n d) := by
        intro i x hx
        match i, hx with
        | 0, hx => exact ⟨t3, v3, k - 1, d3, (Option.some.inj hx).symm, f3', dt_same h3 s18, w3, rfl⟩
        | 1, hx => exact ⟨t4, v4, k - 1, d4, (Option.some.inj hx).symm, f4', dt_same h4 s18, w4, rfl⟩
        | 2, hx => exact ⟨t5, v5, k, d5, (Option.some.inj hx).symm, f5', dt_same h5 s18, w5, rfl⟩
      refine ⟨l, rfl, ⟨_, SqL.of fl⟩, for_list (K := K) (a := l) (xs := [V.ref t3, V.ref t4, V.ref t5]) (fun i σ H' => ∃ w3 w4 w5, σ = [some (.str (mkS sg)), some (.ref a), some (.int k), w3, w4, w5] ∧ ([wordsB sg (k - 1) d3, wordsB sg (k - 1) d4, wordsB sg k d5].take i).all id = true ∧ Same H8 H')
        ⟨_, _, _, rfl, rfl, Same.refl _⟩ (fun i σ H' _ ⟨_, _, _, _, _, s'⟩ => SqL.of (s' _ _ fl)) ?_ ?_⟩
      · rintro i x σ H9 hx ⟨w3', w4', w5', rfl, hall, s9⟩
        obtain ⟨t, v, n, d, rfl, ft, dv, wv, ht⟩ := item i x hx
        refine ⟨t, _, rfl, SqT.of (s9 _ _ ft), rfl, _, _, rfl, _, _, rfl, rfl, ?_⟩
        refine ⟨_, rfl, _, rfl, _, rfl, _, rfl, sg, n, n, v, d, S, rfl, dt_same dv s9, wv, fun Ha sa => ⟨_, rfl, ?_⟩⟩
        have bad : ∀ H', Same H8 H' → wordsB sg n d = false → Q (.bl false) H' := fun H' s' e => by
          have g := q H' (s18.trans s')
          have z : (wordsB sg (k - 1) d3 && (wordsB sg (k - 1) d4 && wordsB sg k d5)) = false := by
            rw [e] at ht
            match i, ht with
            | 0, ht => rw [Option.some.inj ht, Bool.false_and]
            | 1, ht => rw [show wordsB sg (k - 1) d4 = false from Option.some.inj ht, Bool.false_and, Bool.and_false]
            | 2, ht => rw [show wordsB sg k d5 = false from Option.some.inj ht, Bool.and_false, Bool.and_false]
          rw [z] at g
          exact g
        have sa9 := s9.trans sa
        rcases words_are (sg := sg) (n := n) d with ⟨dsx, rfl, e2⟩ | ⟨e2, e3⟩
        rotate_left
        · rw [e3]
          exact bad Ha sa9 e2
        by_cases c4 : areB sg n n (.tuple dsx) = true
        rotate_left
        · rw [Bool.eq_false_iff.mpr c4]
          refine bad Ha sa9 ?_
          rw [e2, Bool.eq_false_iff.mpr c4, Bool.false_and]
        rw [c4, Bool.true_and] at e2
        rw [c4]
        refine if_fl rfl ?_
        obtain ⟨ax, xsx, rfl, eax, _, dax⟩ := dt_tup dv
        rw [dtA_strs dax (are_strs c4)] at eax
        obtain ⟨wlx, _⟩ : dsx.length ≤ 100000 ∧ wideDs 100000 dsx := by
          unfold wideD at wv
          exact wv
        refine ⟨_, rfl, ax, dsx.map wdOf, rfl, sa9 _ _ eax, by rw [List.length_map]; exact wlx, fun Hb sb => ⟨_, rfl, ?_⟩⟩
        by_cases c5 : riseB ltW (dsx.map wdOf) = true
        rotate_left
        · rw [Bool.eq_false_iff.mpr c5]
          exact bad Hb (sa9.trans sb) (by rw [e2, Bool.eq_false_iff.mpr c5])
        rw [c5]
        refine if_fl rfl ⟨_, _, _, rfl, ?_, sa9.trans sb⟩
        rw [List.take_add_one, ht, List.all_append, hall, e2, c5]
        rfl
      · rintro σ H9 ⟨w3', w4', w5', rfl, hall, s9⟩
        have g := q H9 (s18.trans s9)
        have hall' : (wordsB sg (k - 1) d3 && (wordsB sg (k - 1) d4 && (wordsB sg k d5 && true))) = true := hall
        rw [Bool.and_true] at hall'
        rw [hall'] at g
        exact g
    | _ => exact q'
end
end Vf

set_option Elab.async false
set_option linter.all false
set_option maxRecDepth 100000
set_option maxHeartbeats 4000000
namespace Vf
open PySem PySem.Spec PyProof.Rows L2 L2.Vx Vs Vm Vd
theorem mkS_append (a b : Wd) : mkS a ++ mkS b = mkS (a ++ b) := by
  show Str.mk _ = Str.mk _
  congr 1
  simp [mkS]
theorem str_at {ks : List Wd} {i : Nat} {y : V} (h : ((ks.map mkS).map V.str)[i]? = some y) : ∃ p, ks[i]? = some p ∧ y = .str (mkS p) := str_atW h
def wordsD (L : List Wd) : PyData := .tuple (L.map fun z => .str (mkS z))
def judgeD (k : Nat) (S F L P : List Wd) : PyData := .tuple [.int k, wordsD S, wordsD F, wordsD L, wordsD P]
end Vf

set_option Elab.async false
set_option linter.all false
set_option maxRecDepth 100000
set_option maxHeartbeats 4000000
namespace Vf
open PySem PySem.Spec PyProof.Rows L2 L2.Vx Vs Vm
abbrev sWords : Stmt := top 15
abbrev sSizes : Stmt := top 16
abbrev sSome : Stmt := top 17
/-! ### all words of a length -/
structure WordsOf (sg : Wd) (n : Nat) (ws : List Wd) : Prop where
  len : ws.length ≤ 4 ^ n
  all : ∀ w ∈ ws, w.length = n ∧ ∀ c ∈ w, c ∈ sg
def spWords : Sp := fun vs H Q _ => ∃ (sg : Wd) (n : Nat), vs = [.str (mkS sg), .int n] ∧ sg.length ≤ 4 ∧ n ≤ 4 ∧ ∀ (ws : List Wd) (p : Addr) (H' : Hp), WordsOf sg n ws → Same H H' → H p = none → H' p = some (.lst ((ws.map mkS).map .str)) → Q (.ref p) H'
theorem mkS_append' (a b : Wd) : mkS a ++ mkS b = mkS (a ++ b) := mkS_append a b
structure TxtW (mg : Str → Option Value) (fW fP : Addr) : Prop extends TxtD mg fW where
  pick : mg "_law_pick" = some (.ref fP)
  range : mg "range" = none
  tuple : mg "tuple" = none
section
variable {P : Program} {w : World} {K : PySem.W.Frag} {mg : Str → Option Value} {base : Heap}
abbrev nWords : List Str := ["_law_abc", "_law_size", "_law_found", "_law_k", "_law_longer", "_law_word", "_law_sign"]
theorem scWords : FnScope nWords ["_law_abc", "_law_size"] (defScope sWords) := ⟨rfl, rfl, rfl, by decide +kernel, rfl, by decide +kernel, by decide +kernel⟩
theorem ok_words {f fW fP : Addr} {fd : FuncData} (F : Fun K "_law_words" "_law_words" sWords f fd) (T : TxtW mg fW fP) : FnOk P w K mg base CX0 1 f fd ["_law_abc", "_law_size"] spWords := by
  refine F.ok scWords (fun vs H Q E h => ?_) (fun cdv A outer s H vs Q E hr h => ?_)
  · obtain ⟨sg, n, rfl, _⟩ := h
    rfl
  obtain ⟨sg, n, rfl, hsg, hn, q⟩ := h
  refine ⟨_, pss_cons (ps_set (i := 2) scWords.nd rfl (Or.inl rfl) (pe_lst (pa_cons pe_str pa_nil)))
    (pss_cons (ps_for PassesOwn.never rfl (pi_range1 rfl T.range (pa_cons (pv 1) pa_nil)) (pg_name (i := 3) scWords.nd rfl (Or.inl rfl))
      (pss_cons (ps_set (i := 4) scWords.nd rfl (Or.inl rfl) (pe_lst pa_nil))
      (pss_cons (ps_for PassesOwn.never rfl (pi_list (pv 2)) (pg_name (i := 5) scWords.nd rfl (Or.inr rfl))
        (pss_one (ps_expr (pe_bm PySem.F.plainAttrs_list PySem.F.slot_list_extend PySem.F.type_list_extend mt_extend (pv 4) (pa_cons (pe_lc (own := [("_law_sign", 6)]) (g := gName 6) (tt := tYes) rfl scWords.nd (pi_str (pv 0))
          (blkOk_by (N := nWords) (sc := defScope sWords) (by decide +kernel)) (fun _ _ _ _ _ => pg_name (i := 6) scWords.nd rfl (Or.inl rfl)) (fun _ _ _ _ _ => pts_nil) (fun _ _ _ _ _ => by exact pe_op op_add_str (pv 5) (pv 6))) pa_nil)))))
      (pss_one (ps_set (i := 2) scWords.nd rfl (Or.inl rfl) (pv 4))))))
    (pss_one (ps_ret (pv 2)))), ?_⟩
  refine ⟨(by show 1 ≤ sizeLine; decide), fun p0 hp0 => ?_⟩
  refine ⟨_, rfl, _, rfl, by omega, by omega, ?_⟩
  rw [show ((n : Int)).toNat = n by omega]
  have e00 : mkS [] = ("" : Str) := by decide +kernel
  refine for_range (lo := 0) (n := n) (fun i σ H' => ∃ (p : Addr) (v3 v4 v5 : Option V) (ws : List Wd), σ = [some (.str (mkS sg)), some (.int n), some (.ref p), v3, v4, v5, none] ∧ WordsOf sg i ws ∧ Same H H' ∧ H p = none ∧ H' p = some (.lst ((ws.map mkS).map .str)))
    ⟨p0, none, none, none, [[]], rfl, ⟨by simp, fun w hw => by rw [List.mem_singleton.mp hw]; exact ⟨rfl, fun c h => nomatch h⟩⟩, same_new hp0 _, hp0, by rw [upd_same, ← e00]; rfl⟩ ?_ ?_
  · rintro i σ H1 hi ⟨p, v3, v4, v5, ws, rfl, hw, s1, np, ep⟩
    have hwl := hw.len
    have h4 : 4 ^ i ≤ 64 := Nat.le_trans (Nat.pow_le_pow_right (by decide) (show i ≤ 3 by omega)) (by decide)
    refine ⟨(by show 0 ≤ sizeLine; decide), fun pl hpl => ?_⟩
    have npl := s1.free hpl
    have nlp : p ≠ pl := ne_of_none ep hpl
    have s2 := same_new hpl (.lst [])
    refine ⟨_, rfl, p, rfl, ⟨_, SqL.of (s2 _ _ ep)⟩, ?_⟩
    refine for_list (K := K) (a := p) (xs := (ws.map mkS).map .str) (fun j σ H' => ∃ (v5 : Option V) (us : List Wd), σ = [some (.str (mkS sg)), some (.int n), some (.ref p), some (.int (0 + (i : Nat))), some (.ref pl), v5, none] ∧ us.length ≤ 4 * j ∧ (∀ u ∈ us, u.length = i + 1 ∧ ∀ c ∈ u, c ∈ sg) ∧ H' pl = some (.lst ((us.map mkS).map .str)) ∧ (∀ b o, b ≠ pl → H1 b = some o → H' b = some o))
      ⟨v5, [], rfl, Nat.zero_le _, (fun u h => nomatch h), upd_same, fun b o n e => s2 b o e⟩ (fun j σ H' _ ⟨_, _, _, _, _, _, s⟩ => SqL.of (s _ _ nlp ep)) ?_ ?_
    · rintro j y σ H2 hj ⟨v5, us, rfl, u1, u2, u3, u4⟩
      obtain ⟨z, hz, rfl⟩ := str_at hj
      obtain ⟨zl, zc⟩ := hw.all z (List.mem_of_getElem? hz)
      have hjl : j < ws.length := (List.getElem?_eq_some_iff.mp hz).1
      refine ⟨_, rfl, .inl ⟨rfl, _, SqL.of u3⟩, _, rfl, _, rfl, fun D hD => ?_⟩
      have nDl : pl ≠ D := ne_of_none u3 hD
      refine lc_it walk_str (fun i' H' => H' D = some (.lst ((((sg.take i').map fun c => z ++ [c]).map mkS).map .str)) ∧ Same H2 H') ⟨upd_same, same_new hD _⟩ (fun _ _ _ _ => trivial) ?_ ?_
      · rintro i' x H3 H4 hi' ⟨d1, d2⟩ ⟨rfl, cc, hcc, rfl⟩
        have hc2 : sg[i']? = some cc := by
          rw [← Array.getElem?_toList, mkS_cps] at hcc
          exact hcc
        refine ⟨rfl, _, rfl, _, rfl, _, _, rfl, rfl, ?_, _, d1, ?_, ?_, fun b o e => ?_⟩
        · show (mkS z).length + (mkS [cc]).length ≤ sizeLine
          rw [mkS_length, mkS_length, zl, sizeLine_eq]
          show i + 1 ≤ _
          omega
        · rw [List.length_map, List.length_map, List.length_map, List.length_take, sizeLine_eq]
          omega
        · rw [upd_same, List.take_add_one, hc2, List.map_append, List.map_append, List.map_append]
          show some (HO.lst (_ ++ [V.str (mkS z ++ mkS [cc])])) = _
          rw [mkS_append']
          rfl
        · rw [upd_ne (ne_of_none e hD)]
          exact d2 b o e
      · rintro H3 ⟨d1, d2⟩
        have esz : (mkS sg).cps.size = sg.length := mkS_length sg
        rw [esz, List.take_length] at d1
        refine ⟨pl, D, _, _, rfl, rfl, d2 _ _ u3, d1, ?_, _, us ++ sg.map (fun c => z ++ [c]), rfl, ?_, ?_, ?_, fun b o n e => ?_⟩
        · rw [List.length_map, List.length_map, List.length_map, List.length_map, List.length_map, sizeLine_eq]
          omega
        · rw [List.length_append, List.length_map]
          omega
        · intro u hu
          rcases List.mem_append.mp hu with h | h
          · exact u2 u h
          · obtain ⟨c, hc, rfl⟩ := List.mem_map.mp h
            refine ⟨by rw [List.length_append, zl]; rfl, fun x hx => ?_⟩
            rcases List.mem_append.mp hx with h | h
            · exact zc x h
            · rw [List.mem_singleton.mp h]; exact hc
        · rw [upd_same, List.map_append, List.map_append]
        · rw [upd_ne n]
          exact d2 _ _ (u4 b o n e)
    · rintro σ H2 ⟨v5, us, rfl, u1, u2, u3, u4⟩
      rw [List.length_map, List.length_map] at u1
      refine ⟨_, rfl, pl, _, _, v5, us, rfl, ⟨?_, u2⟩, fun b o e => ?_, npl, u3⟩
      · rw [Nat.pow_succ]
        omega
      · exact u4 b o (fun z => by rw [z, npl] at e; cases e) (s1 b o e)
  · rintro σ H1 ⟨p, v3, v4, v5, ws, rfl, hw, s1, np, ep⟩
    exact ⟨_, rfl, q ws p H1 hw s1 np ep⟩
end
end Vf

set_option Elab.async false
set_option linter.all false
set_option maxRecDepth 100000
set_option maxHeartbeats 4000000
namespace Vf
open PySem PySem.Spec PyProof.Rows L2 L2.Vx Vs Vm
/-! ### signs, widths, some of the words -/
def GoodS (z : Wd) : Prop := 1 ≤ z.length ∧ z.length ≤ 4 ∧ ∀ c ∈ z, 97 ≤ c ∧ c ≤ 122
def spSizes : Sp := fun vs H Q _ => ∃ (d g : Addr) (c : Nat), vs = [.ref d] ∧ DeckAt c H d g ∧ c + 2 ≤ most ∧
  ∀ (z : Wd) (k : Nat) (p : Addr) (H' : Hp), GoodS z → 1 ≤ k → k ≤ 4 → H' p = some (.tup [.str (mkS z), .int k]) → DeckAt (c + 2) H' d g → Keeps d g H H' → Q (.ref p) H'
def spSome : Sp := fun vs H Q _ => ∃ (d g a : Addr) (ws : List Wd) (sh c : Nat), vs = [.ref d, .ref a, .int sh] ∧ H a = some (.lst ((ws.map mkS).map .str)) ∧ a ≠ d ∧ a ≠ g ∧ 1 ≤ sh ∧ sh ≤ 1000 ∧ ws.length ≤ 4000 ∧ DeckAt c H d g ∧ c + ws.length ≤ most ∧
  ∀ (us : List Wd) (p : Addr) (H' : Hp), us.length ≤ ws.length → (∀ u ∈ us, u ∈ ws) → p ≠ d → p ≠ g → H' p = some (.tup ((us.map mkS).map .str)) → DeckAt (c + ws.length) H' d g → Keeps d g H H' → Q (.ref p) H'
def spPickT : Sp := fun vs H Q _ => ∃ (d g p : Addr) (xs : List V) (c : Nat), vs = [.ref d, .ref p] ∧ H p = some (.tup xs) ∧ p ≠ d ∧ p ≠ g ∧ xs ≠ [] ∧ xs.length < 1000000 ∧ DeckAt c H d g ∧ c < most ∧
  ∀ (x : V) (H' : Hp), x ∈ xs → DeckAt (c + 1) H' d g → Keeps d g H H' → Q x H'
def five : List V := [.str "a", .str "ab", .str "bx", .str "abc", .str "bdfz"]
theorem five_good {x : V} (h : x ∈ five) : ∃ z : Wd, x = .str (mkS z) ∧ GoodS z := by
  have all : ∀ w ∈ [[97], [97, 98], [98, 120], [97, 98, 99], [98, 100, 102, 122]], GoodS w := by
    intro w hw
    have : ∀ w ∈ [[97], [97, 98], [98, 120], [97, 98, 99], [98, 100, 102, 122]], 1 ≤ w.length ∧ w.length ≤ 4 ∧ ∀ c ∈ w, 97 ≤ c ∧ c ≤ 122 := by decide
    exact this w hw
  unfold five at h
  simp only [List.mem_cons, List.not_mem_nil, or_false] at h
  rcases h with e | e | e | e | e
  · exact ⟨[97], e.trans (congrArg V.str (by decide +kernel)), all _ (by simp)⟩
  · exact ⟨[97, 98], e.trans (congrArg V.str (by decide +kernel)), all _ (by simp)⟩
  · exact ⟨[98, 120], e.trans (congrArg V.str (by decide +kernel)), all _ (by simp)⟩
  · exact ⟨[97, 98, 99], e.trans (congrArg V.str (by decide +kernel)), all _ (by simp)⟩
  · exact ⟨[98, 100, 102, 122], e.trans (congrArg V.str (by decide +kernel)), all _ (by simp)⟩
theorem four_at {n : Nat} (h1 : 1 ≤ n) (h2 : n ≤ 4) : ∃ b : Int, atI [V.int 4, V.int 3, V.int 2, V.int 2] ((n : Int) - 1) = some (.int b) ∧ 0 < b ∧ b ≤ 4 := by
  match n, h1, h2 with
  | 1, _, _ => exact ⟨4, rfl, by decide, by decide⟩
  | 2, _, _ => exact ⟨3, rfl, by decide, by decide⟩
  | 3, _, _ => exact ⟨2, rfl, by decide, by decide⟩
  | 4, _, _ => exact ⟨2, rfl, by decide, by decide⟩
section
variable {P : Program} {w : World} {K : PySem.W.Frag} {mg : Str → Option Value} {base : Heap}
theorem ok_pickT {f : Addr} {fd : FuncData} {fW : Addr} {fdW : FuncData} (F : Fun K "_law_pick" "_law_pick" sPick f fd) (FW : Fun K "_law_draw" "_law_draw" sDraw fW fdW) (bW : Binds K fdW ["_law_deck_here", "_law_many"] []) (T : TxtD mg fW) : FnOk P w K mg base CX0 2 f fd ["_law_deck_here", "_law_some_here"] spPickT := by
  have GW : FnOk P w K mg base CX0 1 fW fdW ["_law_deck_here", "_law_many"] spDraw := ok_draw FW T
  refine F.ok scPick (fun vs H Q E h => ?_) (fun cdv A outer s H vs Q E hr h => ?_)
  · obtain ⟨d, g, p, xs, c, rfl, _⟩ := h
    rfl
  obtain ⟨d, g, p, xs, c, rfl, hS, n1, n2, hne, hlen, hD, hc, k⟩ := h
  refine ⟨_, pss_one (ps_ret (pe_ix ix_tup (pv 1) (pe_call GW hr rfl T.draw FW.kp bW .nil pass0 (pa_cons (pv 0) (pa_cons (pe_callB call_len_seq (by rfl) T.len PySem.boot_len (pa_cons (pv 1) pa_nil)) pa_nil))) (fun _ _ => rfl))), ?_⟩
  have hpos : 0 < xs.length := List.length_pos_iff.mpr hne
  refine ⟨_, rfl, _, rfl, _, rfl, p, _, rfl, .inr (SqT.of hS), d, g, _, c, rfl, by omega, by omega, hD, hc, fun r H' h0 h1 hD' kp => ?_⟩
  have hr : r.toNat < xs.length := by omega
  have er : r = ((r.toNat : Nat) : Int) := by omega
  have hx : atI xs r = some xs[r.toNat] := at_of er (List.getElem?_eq_getElem hr)
  exact ⟨p, _, r, _, rfl, rfl, SqT.of (kp _ _ n1 n2 hS), hx, k _ H' (List.getElem_mem hr) hD' kp⟩
theorem scSizes : FnScope ["_law_deck_here", "_law_abc"] ["_law_deck_here"] (defScope sSizes) := ⟨rfl, rfl, rfl, by decide +kernel, rfl, by decide +kernel, by decide +kernel⟩
theorem ok_sizes {f fW fP : Addr} {fd fdW fdP : FuncData} (F : Fun K "_law_sizes" "_law_sizes" sSizes f fd) (T : TxtW mg fW fP)
    (GW : FnOk P w K mg base CX0 1 fW fdW ["_law_deck_here", "_law_many"] spDraw) (bW : Binds K fdW ["_law_deck_here", "_law_many"] []) (kW : PySem.W.keepIn K (.ref fW) = true)
    (GP : FnOk P w K mg base CX0 2 fP fdP ["_law_deck_here", "_law_some_here"] (spPick K)) (bP : Binds K fdP ["_law_deck_here", "_law_some_here"] []) (kP : PySem.W.keepIn K (.ref fP) = true) :
    FnOk P w K mg base CX0 3 f fd ["_law_deck_here"] spSizes := by
  refine F.ok scSizes (fun vs H Q E h => ?_) (fun cdv A outer s H vs Q E hr h => ?_)
  · obtain ⟨d, g, c, rfl, _⟩ := h
    rfl
  obtain ⟨d, g, c, rfl, hD, hc, q⟩ := h
  have hr1 : Room 1 _ := hr.mono (by decide)
  refine ⟨_, pss_cons (ps_set (i := 1) scSizes.nd rfl (Or.inl rfl) (pe_call GP hr rfl T.pick kP bP .nil pass0 (pa_cons (pv 0) (pa_cons (pe_lst (pa_cons pe_str (pa_cons pe_str (pa_cons pe_str (pa_cons pe_str (pa_cons pe_str pa_nil)))))) pa_nil))))
    (pss_one (ps_ret (pe_tup (pa_cons (pv 1) (pa_cons (pe_op op_add pe_int (pe_call GW hr1 rfl T.draw kW bW .nil pass0 (pa_cons (pv 0) (pa_cons
      (pe_ix ix_list (pe_lst (pa_cons pe_int (pa_cons pe_int (pa_cons pe_int (pa_cons pe_int pa_nil))))) (pe_op op_sub (pe_callB call_len_str (by rfl) T.len PySem.boot_len (pa_cons (pv 1) pa_nil)) pe_int) (fun _ _ => rfl)) pa_nil)))) pa_nil))))), ?_⟩
  refine ⟨_, rfl, (by show 5 ≤ sizeLine; decide), fun l hl => ?_⟩
  have nl := hD.dn hl
  refine ⟨d, g, l, five, c, rfl, SqL.of upd_same, nl.1, nl.2, (by intro z; cases z), (by show 5 < 1000000; decide), hD.same (same_new hl _), by omega, fun x H1 hx hD1 k1 => ?_⟩
  obtain ⟨z, rfl, gz⟩ := five_good hx
  refine ⟨_, rfl, _, rfl, (by show 4 ≤ sizeLine; decide), fun l2 hl2 => ?_⟩
  have hz : (mkS z).length = z.length := mkS_length z
  obtain ⟨b, hb, hb0, hb8⟩ := four_at gz.1 gz.2.1
  have s2 := same_new hl2 (.lst [.int 4, .int 3, .int 2, .int 2])
  refine ⟨_, rfl, _, rfl, (by rw [hz, sizeLine_eq]; have := gz.2.1; omega), _, _, rfl, rfl, l2, _, _, .int b, rfl, rfl, SqL.of upd_same, by rw [hz]; exact hb, d, g, b, c + 1, rfl, hb0, by omega, hD1.same s2, by omega, fun r H2 r0 rb hD2 k2 => ?_⟩
  refine ⟨_, _, rfl, rfl, (by show 2 ≤ sizeLine; decide), fun t ht => ?_⟩
  have ek : (1 + r : Int) = ((1 + r).toNat : Nat) := by omega
  refine q z (1 + r).toNat t _ gz (by omega) (by omega) ?_ (hD2.same (same_new ht _)) ((((Keeps.of (same_new hl _)).trans k1).trans (Keeps.of s2)).trans k2 |>.trans (Keeps.of (same_new ht _)))
  rw [upd_same, ← ek]
abbrev nSome : List Str := ["_law_deck_here", "_law_items", "_law_share", "_law_it"]
theorem scSome : FnScope nSome ["_law_deck_here", "_law_items", "_law_share"] (defScope sSome) := ⟨rfl, rfl, rfl, by decide +kernel, rfl, by decide +kernel, by decide +kernel⟩
theorem ok_some {f fW fP : Addr} {fd fdW : FuncData} (F : Fun K "_law_some" "_law_some" sSome f fd) (T : TxtW mg fW fP)
    (GW : FnOk P w K mg base CX0 1 fW fdW ["_law_deck_here", "_law_many"] spDraw) (bW : Binds K fdW ["_law_deck_here", "_law_many"] []) (kW : PySem.W.keepIn K (.ref fW) = true) :
    FnOk P w K mg base CX0 2 f fd ["_law_deck_here", "_law_items", "_law_share"] spSome := by
  refine F.ok scSome (fun vs H Q E h => ?_) (fun cdv A outer s H vs Q E hr h => ?_)
  · obtain ⟨d, g, a, ws, sh, c, rfl, _⟩ := h
    rfl
  obtain ⟨d, g, a, ws, sh, c, rfl, ha, nd, ng, hs1, hs2, hwl, hD, hc, q⟩ := h
  refine ⟨_, pss_one (ps_ret (pe_callTy call_tuple_of (by rfl) T.tuple (by decide +kernel) (pa_cons (pe_lc (own := [("_law_it", 3)]) (g := gName 3) (tt := _) rfl scSome.nd (pi_list (pv 1))
      (blkOk_by (N := nSome) (sc := defScope sSome) (by decide +kernel)) (fun _ _ _ _ _ => pg_name (i := 3) scSome.nd rfl (Or.inl rfl)) (fun _ _ _ _ _ => pts_one (pt_cmpR op_gt (pe_call GW hr rfl T.draw kW bW .nil pass0 (pa_cons (pv 0) (pa_cons (pv 2) pa_nil))) pe_int (nomark _)))
      (fun _ _ _ _ _ => by exact pv 3)) pa_nil))), ?_⟩
  refine ⟨_, rfl, a, rfl, ⟨_, SqL.of ha⟩, fun D hD0 => ?_⟩
  have nD := hD.dn hD0
  have nDa : a ≠ D := ne_of_none ha hD0
  refine lc_it (walk_list (xs := (ws.map mkS).map .str)) (fun i H' => ∃ us : List Wd, H' D = some (.lst ((us.map mkS).map .str)) ∧ us.length ≤ i ∧ (∀ u ∈ us, u ∈ ws) ∧ DeckAt (c + i) H' d g ∧ Keeps d g H H')
    ⟨[], upd_same, Nat.le_refl _, (fun u h => nomatch h), hD.same (same_new hD0 _), Keeps.of (same_new hD0 _)⟩ (fun i H' _ ⟨_, _, _, _, _, k⟩ => SqL.of (k _ _ nd ng ha)) ?_ ?_
  · rintro i x H1 H2 hi ⟨us, m1, m2, m3, hD1, k1⟩ ⟨rfl, hx⟩
    obtain ⟨z, hz, rfl⟩ := str_at hx
    have hil : i < ws.length := (List.getElem?_eq_some_iff.mp hz).1
    refine ⟨rfl, _, rfl, _, rfl, d, g, _, c + i, rfl, by omega, by omega, hD1, by omega, fun r H3 r0 r1 hD3 k3 => ?_⟩
    have kD := k3 _ _ nD.1 nD.2 m1
    refine ⟨_, _, rfl, rfl, _, rfl, ?_⟩
    refine ite2 (fun _ => ?_) (fun _ => ?_)
    · refine ⟨_, rfl, _, kD, by rw [List.length_map, List.length_map, sizeLine_eq]; omega, us ++ [z], ?_, ?_, ?_, hD3.other nD.1 nD.2 _, fun b o n1 n2 e => ?_⟩
      · rw [upd_same, List.map_append, List.map_append]; rfl
      · rw [List.length_append]
        show us.length + 1 ≤ _
        omega
      · intro u hu
        rcases List.mem_append.mp hu with h | h
        · exact m3 u h
        · rw [List.mem_singleton.mp h]; exact List.mem_of_getElem? hz
      · rw [upd_ne (ne_of_none e hD0)]
        exact k3 b o n1 n2 (k1 b o n1 n2 e)
    · exact ⟨us, kD, by omega, m3, hD3, k1.trans k3⟩
  · rintro H1 ⟨us, m1, m2, m3, hD1, k1⟩
    rw [List.length_map, List.length_map] at m2 hD1
    refine ⟨D, _, rfl, .inl ⟨SqL.of m1, fun t ht => ?_⟩⟩
    have nt := hD1.dn ht
    exact q us t _ m2 m3 nt.1 nt.2 upd_same (hD1.same (same_new ht _)) (k1.trans (Keeps.of (same_new ht _)))
end
end Vf

set_option Elab.async false
set_option linter.all false
set_option maxRecDepth 100000
set_option maxHeartbeats 4000000
namespace Vf
open PySem PySem.Spec PyProof.Rows L2 L2.Vx Vs Vm
abbrev sBars : Stmt := top 18
/-! ### a judge that is drawn -/
def SmallL (L : List Wd) : Prop := L.length ≤ 256 ∧ ∀ w ∈ L, w.length ≤ 4 ∧ ∀ c ∈ w, c < 1000
structure SmallJ (S F L P : List Wd) : Prop where
  s : SmallL S
  f : SmallL F
  l : SmallL L
  p : SmallL P
def spBars : Sp := fun vs H Q _ => ∃ (d g : Addr) (sg : Wd) (k c : Nat), vs = [.ref d, .str (mkS sg), .int k] ∧ GoodS sg ∧ 1 ≤ k ∧ k ≤ 4 ∧ DeckAt c H d g ∧ c + 2000 ≤ most ∧
  ∀ (S F L Pc : List Wd) (p : Addr) (H' : Hp), Dt H' (fun a => a ≠ d ∧ a ≠ g) (.ref p) (judgeD k S F L Pc) → SmallJ S F L Pc → DeckAt (c + 2000) H' d g → Keeps d g H H' → Q (.ref p) H'
def three : List V := [.int 2, .int 3, .int 4]
theorem three_good {x : V} (h : x ∈ three) : ∃ n : Nat, x = .int n ∧ 1 ≤ n ∧ n ≤ 1000 := by
  unfold three at h
  simp only [List.mem_cons, List.not_mem_nil, or_false] at h
  rcases h with e | e | e
  · exact ⟨2, e, by decide, by decide⟩
  · exact ⟨3, e, by decide, by decide⟩
  · exact ⟨4, e, by decide, by decide⟩
theorem dt_of_words {H : Hp} {Sx : Addr → Prop} {a : Addr} {L : List Wd} (e : H a = some (.tup ((L.map mkS).map .str))) (s : Sx a) : Dt H Sx (.ref a) (wordsD L) := by
  refine .tup e s ?_
  have : ∀ L : List Wd, DtAll H Sx ((L.map mkS).map .str) (L.map fun z => .str (mkS z)) := by
    intro L
    induction L with
    | nil => exact .nil
    | cons z L ih => exact .cons (.flat (show FlatD (.str (mkS z)) (.str (mkS z)) from rfl)) ih
  exact this L
theorem keep_dt {d g : Addr} {Ha Hb : Hp} {v : V} {D : PyData} (kk : Keeps d g Ha Hb) (h : Dt Ha (fun a => a ≠ d ∧ a ≠ g) v D) : Dt Hb (fun a => a ≠ d ∧ a ≠ g) v D := h.mono (fun a o sa e => kk a o sa.1 sa.2 e) fun _ _ x _ => x
theorem small_words {sg : Wd} {n : Nat} {ws us : List Wd} (gs : GoodS sg) (hn : n ≤ 4) (h : WordsOf sg n ws) (ul : us.length ≤ ws.length) (hu : ∀ u ∈ us, u ∈ ws) : SmallL us := by
  have h4 : 4 ^ n ≤ 256 := Nat.le_trans (Nat.pow_le_pow_right (by decide) hn) (by decide)
  have := h.len
  refine ⟨by omega, fun w hw => ?_⟩
  obtain ⟨a, b⟩ := h.all w (hu w hw)
  exact ⟨by omega, fun c hc => Nat.lt_of_le_of_lt (gs.2.2 c (b c hc)).2 (by decide)⟩
section
variable {P : Program} {w : World} {K : PySem.W.Frag} {mg : Str → Option Value} {base : Heap}
abbrev nBars : List Str := ["_law_deck_here", "_law_abc", "_law_wide", "_law_small", "_law_share", "_law_size", "_law_inner", "_law_whole", "_law_found"]
theorem scBars : FnScope nBars ["_law_deck_here", "_law_abc", "_law_wide"] (defScope sBars) := ⟨rfl, rfl, rfl, by decide +kernel, rfl, by decide +kernel, by decide +kernel⟩
theorem ok_bars {f fW fP fO fS : Addr} {fd fdP fdO fdS : FuncData} (F : Fun K "_law_bars" "_law_bars" sBars f fd) (T : TxtW mg fW fP)
    (GP : FnOk P w K mg base CX0 2 fP fdP ["_law_deck_here", "_law_some_here"] (spPick K)) (bP : Binds K fdP ["_law_deck_here", "_law_some_here"] []) (kP : PySem.W.keepIn K (.ref fP) = true)
    (GO : FnOk P w K mg base CX0 1 fO fdO ["_law_abc", "_law_size"] spWords) (bO : Binds K fdO ["_law_abc", "_law_size"] []) (kO : PySem.W.keepIn K (.ref fO) = true) (mO : mg "_law_words" = some (.ref fO))
    (GS : FnOk P w K mg base CX0 2 fS fdS ["_law_deck_here", "_law_items", "_law_share"] spSome) (bS : Binds K fdS ["_law_deck_here", "_law_items", "_law_share"] []) (kS' : PySem.W.keepIn K (.ref fS) = true) (mS : mg "_law_some" = some (.ref fS)) :
    FnOk P w K mg base CX0 3 f fd ["_law_deck_here", "_law_abc", "_law_wide"] spBars := by
  refine F.ok scBars (fun vs H Q E h => ?_) (fun cdv A outer s H vs Q E hr h => ?_)
  · obtain ⟨d, g, sg, k, c, rfl, _⟩ := h
    rfl
  obtain ⟨d, g, sg, k, c, rfl, gs, k1, k4, hD, hc, q⟩ := h
  have hr1 : Room 1 _ := hr.mono (by decide)
  refine ⟨_, pss_cons (ps_par (i := 3) (j := 4) rfl scBars.nd rfl rfl (by decide) rfl rfl (pa_cons (pe_lst pa_nil) (pa_cons (pe_call GP hr rfl T.pick kP bP .nil pass0 (pa_cons (pv 0) (pa_cons (pe_lst (pa_cons pe_int (pa_cons pe_int (pa_cons pe_int pa_nil)))) pa_nil))) pa_nil)) (by rfl))
    (pss_cons (ps_for PassesOwn.never rfl (pi_range1 rfl T.range (pa_cons (pv 2) pa_nil)) (pg_name (i := 5) scBars.nd rfl (Or.inl rfl))
      (pss_one (ps_expr (pe_bm PySem.F.plainAttrs_list PySem.F.slot_list_extend PySem.F.type_list_extend mt_extend (pv 3) (pa_cons (pe_call GO hr1 rfl mO kO bO .nil pass0 (pa_cons (pv 1) (pa_cons (pv 5) pa_nil))) pa_nil)))))
    (pss_cons (ps_par (i := 6) (j := 7) rfl scBars.nd rfl rfl (by decide) rfl rfl (pa_cons (pe_call GO hr1 rfl mO kO bO .nil pass0 (pa_cons (pv 1) (pa_cons (pe_op op_sub (pv 2) pe_int) pa_nil))) (pa_cons (pe_call GO hr1 rfl mO kO bO .nil pass0 (pa_cons (pv 1) (pa_cons (pv 2) pa_nil))) pa_nil)) (by rfl))
    (pss_cons (ps_set (i := 8) scBars.nd rfl (Or.inl rfl) (pe_tup (pa_cons (pv 2) (pa_cons (pe_call GS hr rfl mS kS' bS .nil pass0 (pa_cons (pv 0) (pa_cons (pv 3) (pa_cons pe_int pa_nil)))) (pa_cons (pe_call GS hr rfl mS kS' bS .nil pass0 (pa_cons (pv 0) (pa_cons (pv 6) (pa_cons (pv 4) pa_nil)))) pa_nil)))))
    (pss_one (ps_ret (pe_op op_catT (pv 8) (pe_tup (pa_cons (pe_call GS hr rfl mS kS' bS .nil pass0 (pa_cons (pv 0) (pa_cons (pv 6) (pa_cons (pv 4) pa_nil)))) (pa_cons (pe_call GS hr rfl mS kS' bS .nil pass0 (pa_cons (pv 0) (pa_cons (pv 7) (pa_cons (pv 4) pa_nil)))) pa_nil))))))))), ?_⟩
  refine ⟨(by show 0 ≤ sizeLine; decide), fun l0 hl0 => ?_⟩
  have hDa := hD.same (same_new hl0 (.lst []))
  have n0 := hD.dn hl0
  refine ⟨_, rfl, (by show 3 ≤ sizeLine; decide), fun l1 hl1 => ?_⟩
  have n1 := hDa.dn hl1
  refine ⟨d, g, l1, three, c, rfl, SqL.of upd_same, n1.1, n1.2, (by intro z; cases z), (by show 3 < 1000000; decide), hDa.same (same_new hl1 _), by omega, fun x H1 hx hD1 kp1 => ?_⟩
  obtain ⟨sh, rfl, h1, h2⟩ := three_good hx
  refine ⟨_, _, rfl, ?_⟩
  have e0 : H1 l0 = some (.lst []) := kp1 _ _ n0.1 n0.2 ((same_new hl1 _) _ _ upd_same)
  have K1 : Keeps d g H H1 := (Keeps.of (same_new hl0 _)).trans ((Keeps.of (same_new hl1 _)).trans kp1)
  refine ⟨_, rfl, _, rfl, by omega, by omega, ?_⟩
  rw [show ((k : Int)).toNat = k by omega]
  refine for_range (lo := 0) (n := k) (fun i σ H' => ∃ (v5 : Option V) (us : List Wd), σ = [some (.ref d), some (.str (mkS sg)), some (.int k), some (.ref l0), some (.int sh), v5, none, none, none] ∧ us.length ≤ 64 * i ∧ (∀ u ∈ us, u.length ≤ 4 ∧ ∀ c ∈ u, c < 1000) ∧ H' l0 = some (.lst ((us.map mkS).map .str)) ∧ DeckAt (c + 1) H' d g ∧ (∀ b o, b ≠ l0 → H1 b = some o → H' b = some o))
    ⟨none, [], rfl, Nat.zero_le _, (fun u h => nomatch h), e0, hD1, fun b o _ e => e⟩ ?_ ?_
  · rintro i σ H2 hi ⟨v5, us, rfl, u1, u2, u3, hD2, u4⟩
    refine ⟨_, rfl, .inl ⟨rfl, _, SqL.of u3⟩, _, rfl, _, rfl, sg, i, by rw [Int.zero_add]; rfl, gs.2.1, by omega, fun ws p H3 hw s3 np ep => ?_⟩
    have hwl := hw.len
    have h4 : 4 ^ i ≤ 64 := Nat.le_trans (Nat.pow_le_pow_right (by decide) (show i ≤ 3 by omega)) (by decide)
    refine ⟨l0, p, _, _, rfl, rfl, s3 _ _ u3, ep, by rw [List.length_map, List.length_map, List.length_map, List.length_map, sizeLine_eq]; omega, _, us ++ ws, rfl, by rw [List.length_append]; omega, fun u hu => ?_, by rw [upd_same, List.map_append, List.map_append], (hD2.same s3).other n0.1 n0.2 _, fun b o n e => ?_⟩
    · rcases List.mem_append.mp hu with h | h
      · exact u2 u h
      · obtain ⟨a, b⟩ := hw.all u h
        exact ⟨by omega, fun c hc => Nat.lt_of_le_of_lt (gs.2.2 c (b c hc)).2 (by decide)⟩
    · rw [upd_ne n]
      exact s3 _ _ (u4 b o n e)
  rintro σ H2 ⟨v5, us, rfl, u1, u2, u3, hD2, u4⟩
  have K2 : Keeps d g H H2 := fun b o a1 a2 e => u4 b o (fun z => by rw [z, hl0] at e; cases e) (K1 b o a1 a2 e)
  refine ⟨_, rfl, _, rfl, _, _, rfl, rfl, sg, k - 1, (by rw [show ((k - 1 : Nat) : Int) = (k : Int) - 1 by omega]; rfl), gs.2.1, by omega, fun wi pi H3 hwi s3 npi epi => ?_⟩
  refine ⟨_, rfl, _, rfl, sg, k, rfl, gs.2.1, by omega, fun ww pw H4 hww s4 npw epw => ?_⟩
  refine ⟨_, _, rfl, ?_⟩
  have hDb := (hD2.same s3).same s4
  have ni := hD2.dn npi
  have nw := (hD2.same s3).dn npw
  have us4 : us.length ≤ 256 := by omega
  have wil : wi.length ≤ 256 := Nat.le_trans hwi.len (Nat.le_trans (Nat.pow_le_pow_right (by decide) (show k - 1 ≤ 4 by omega)) (by decide))
  have wwl : ww.length ≤ 256 := Nat.le_trans hww.len (Nat.le_trans (Nat.pow_le_pow_right (by decide) k4) (by decide))
  refine ⟨_, rfl, _, rfl, _, rfl, d, g, l0, us, 2, c + 1, rfl, s4 _ _ (s3 _ _ u3), n0.1, n0.2, by decide, by decide, by omega, hDb, by omega, fun xs ps H5 x1 x2 x3 x4 x5 hD5 k5 => ?_⟩
  refine ⟨_, rfl, _, rfl, _, rfl, d, g, pi, wi, sh, _, rfl, k5 _ _ ni.1 ni.2 (s4 _ _ epi), ni.1, ni.2, h1, h2, by omega, hD5, by omega, fun ys qs H6 y1 y2 y3 y4 y5 hD6 k6 => ⟨(by show 3 ≤ sizeLine; decide), fun tf htf => ?_⟩⟩
  have nt := hD6.dn htf
  have s7 := same_new htf (.tup [.int k, .ref ps, .ref qs])
  have k67 := k6.trans (Keeps.of s7)
  have etf : upd H6 tf (.tup [.int k, .ref ps, .ref qs]) tf = some (.tup [.int k, .ref ps, .ref qs]) := upd_same
  have x7 := k67 _ _ x3 x4 x5
  have y7 := s7 _ _ y5
  have hD7 := hD6.same s7
  have i7 := k67 _ _ ni.1 ni.2 (k5 _ _ ni.1 ni.2 (s4 _ _ epi))
  have w7 := k67 _ _ nw.1 nw.2 (k5 _ _ nw.1 nw.2 epw)
  have K7 := ((K2.trans (Keeps.of (s3.trans s4))).trans k5).trans k67
  generalize upd H6 tf (.tup [.int k, .ref ps, .ref qs]) = H7 at etf x7 y7 hD7 i7 w7 K7 ⊢
  refine ⟨_, rfl, _, rfl, _, rfl, _, rfl, d, g, pi, wi, sh, _, rfl, i7, ni.1, ni.2, h1, h2, by omega, hD7, by omega, fun zs rs H8 z1 z2 z3 z4 z5 hD8 k8 => ?_⟩
  refine ⟨_, rfl, _, rfl, _, rfl, d, g, pw, ww, sh, _, rfl, k8 _ _ nw.1 nw.2 w7, nw.1, nw.2, h1, h2, by omega, hD8, by omega, fun vs ts H9 v1 v2 v3 v4 v5 hD9 k9 => ⟨(by show 2 ≤ sizeLine; decide), fun tg htg => ?_⟩⟩
  have s10 := same_new htg (.tup [.ref rs, .ref ts])
  have ntg := hD9.dn htg
  have k910 := k9.trans (Keeps.of s10)
  refine ⟨tf, tg, _, _, rfl, rfl, SqT.of (k910 _ _ nt.1 nt.2 (k8 _ _ nt.1 nt.2 etf)), SqT.of upd_same, (by intro z; cases z), (by show 3 + 2 ≤ sizeLine; decide), fun z => (by cases z), fun _ p hp => ?_⟩
  have s11 := same_new hp (.tup ([.int k, .ref ps, .ref qs] ++ [.ref rs, .ref ts]))
  have hDe := (hD9.same s10).same s11
  have np := (hD9.same s10).dn hp
  have kE := k910.trans (Keeps.of s11)
  have fx := kE _ _ x3 x4 (k8 _ _ x3 x4 x7)
  have fy := kE _ _ y3 y4 (k8 _ _ y3 y4 y7)
  have fz := kE _ _ z3 z4 z5
  have fv := s11 _ _ (s10 _ _ v5)
  refine q xs ys zs vs p _ (.tup upd_same np (.cons (.flat (show FlatD (.int k) (.int k) from rfl)) (.cons (dt_of_words fx ⟨x3, x4⟩) (.cons (dt_of_words fy ⟨y3, y4⟩) (.cons (dt_of_words fz ⟨z3, z4⟩) (.cons (dt_of_words fv ⟨v3, v4⟩) .nil))))))
    ⟨⟨by omega, fun u hu => u2 u (x2 u hu)⟩, small_words gs (by omega) hwi y1 y2, small_words gs (by omega) hwi z1 z2, small_words gs k4 hww v1 v2⟩ (hDe.le (by omega)) (K7.trans (k8.trans kE))
end
end Vf

set_option Elab.async false
set_option linter.all false
set_option maxRecDepth 100000
set_option maxHeartbeats 4000000
namespace Vf
open PySem PySem.Spec PyProof.Rows L2 L2.Vx Vs Vm Vd
abbrev sBentQ : Stmt := top 22
theorem if_tr {A B : Prop} {c : Bool} (e : c = true) (h : A) : if c = true then A else B := by
  rw [e]
  exact h
/-! ### a value with one thing put otherwise -/
def spBentQ (m : Nat) : Sp := fun vs H Q _ => ∃ (d g : Addr) (sg : Wd) (v : V) (D : PyData) (N n e c : Nat), vs = [.ref d, .str (mkS sg), v] ∧ GoodS sg ∧ Dt H (fun a => a ≠ d ∧ a ≠ g) v D ∧ Bd N n e D ∧ e < m ∧ 10 ^ 39 ≤ N ∧ n ≤ 200000 ∧ DeckAt c H d g ∧ c + 10 * m ≤ most ∧
  ∀ (v' : V) (D' : PyData) (H' : Hp), Dt H' (fun a => a ≠ d ∧ a ≠ g) v' D' → Bd (N + 1) (2 * n + 100) (e + 1) D' → DeckAt (c + 10 * m) H' d g → Keeps d g H H' → Q v' H'
abbrev nBentQ : List Str := ["_law_deck_here", "_law_abc", "_law_it", "_law_odd", "_law_at", "_law_way", "_law_turned"]
section
variable {P : Program} {w : World} {K : PySem.W.Frag} {mg : Str → Option Value} {base : Heap}
theorem scBentQ : FnScope nBentQ ["_law_deck_here", "_law_abc", "_law_it"] (defScope sBentQ) := ⟨rfl, rfl, rfl, by decide +kernel, rfl, by decide +kernel, by decide +kernel⟩
theorem ok_bent0 {f : Addr} {fd : FuncData} (F : Fun K "_law_bent" "_law_bent" sBentQ f fd) : FnOk P w K mg base CX0 3 f fd ["_law_deck_here", "_law_abc", "_law_it"] (spBentQ 0) := by
  refine F.ok scBentQ (fun vs H Q E h => ?_) (fun cdv A outer s H vs Q E hr h => ?_)
  · obtain ⟨d, g, sg, v, D, N, n, e, c, rfl, _⟩ := h
    rfl
  · obtain ⟨d, g, sg, v, D, N, n, e, c, rfl, _, _, _, h, _⟩ := h
    exact absurd h (Nat.not_lt_zero _)
theorem ok_bentS (m : Nat) {f fW fP : Addr} {fd fdW fdP : FuncData} (F : Fun K "_law_bent" "_law_bent" sBentQ f fd) (T : TxtI mg) (TW : TxtW mg fW fP)
    (GW : FnOk P w K mg base CX0 1 fW fdW ["_law_deck_here", "_law_many"] spDraw) (bW : Binds K fdW ["_law_deck_here", "_law_many"] []) (kW : PySem.W.keepIn K (.ref fW) = true)
    (GP : FnOk P w K mg base CX0 2 fP fdP ["_law_deck_here", "_law_some_here"] (spPick K)) (bP : Binds K fdP ["_law_deck_here", "_law_some_here"] []) (kP : PySem.W.keepIn K (.ref fP) = true)
    (GB : FnOk P w K mg base CX0 (3 + m) f fd ["_law_deck_here", "_law_abc", "_law_it"] (spBentQ m)) (bB : Binds K fd ["_law_deck_here", "_law_abc", "_law_it"] []) (kB : PySem.W.keepIn K (.ref f) = true) (mB : mg "_law_bent" = some (.ref f)) :
    FnOk P w K mg base CX0 (3 + m + 1) f fd ["_law_deck_here", "_law_abc", "_law_it"] (spBentQ (m + 1)) := by
  refine F.ok scBentQ (fun vs H Q E h => ?_) (fun cdv A outer s H vs Q E hr h => ?_)
  · obtain ⟨d, g, sg, v, D, N, n, e, c, rfl, _⟩ := h
    rfl
  obtain ⟨d, g, sg, v, D, N, n, e, c, rfl, gs, hv, hb, hem, hN, hn, hD, hc, q⟩ := h
  have hr1 : Room 1 _ := hr.mono (by omega)
  have hr2 : Room 2 _ := hr.mono (by omega)
  refine ⟨_, (pss_cons (ps_set (i := 3) scBentQ.nd rfl (Or.inl rfl) (pe_lst (pa_cons pe_non (pa_cons pe_bl (pa_cons pe_bl (pa_cons pe_int (pa_cons pe_int (pa_cons pe_int (pa_cons (pe_un un_neg pe_int) (pa_cons (pe_op op_pow pe_int pe_int) (pa_cons pe_str (pa_cons pe_str (pa_cons pe_str (pa_cons pe_str (pa_cons pe_str (pa_cons pe_str (pa_cons (pe_tup pa_nil) (pa_cons (pe_tup (pa_cons pe_str pa_nil)) (pa_cons (pe_tup (pa_cons pe_str pa_nil)) (pa_cons (pe_lst pa_nil) (pa_cons (pe_lst (pa_cons pe_str pa_nil)) (pa_cons pe_dnewK pa_nil))))))))))))))))))))))
    (pss_cons (ps_if (PW.pt (pw_or (pt_not (pt_val (pe_callB call_isi (by rfl) T.isi (by decide +kernel) (pa_cons (pv 2) (pa_cons (pe_bltn (v := .ty "tuple") (u := .type "tuple") (by rfl) T.tuple (by decide +kernel) rfl) pa_nil))))) (pw_or (pt_cmpR (op_eqNilT hr.units) (pv 2) (pe_tup pa_nil) (nomark _)) (pw_or1 (pt_cmpR op_eq (pe_call GW hr1 rfl TW.draw kW bW .nil pass0 (pa_cons (pv 0) (pa_cons pe_int pa_nil))) pe_int (nomark _)))))) (pss_cons (ps_if (PW.pt (pw_and (pt_val (pe_callB call_isi (by rfl) T.isi (by decide +kernel) (pa_cons (pv 2) (pa_cons (pe_bltn (v := .ty "int") (u := .type "int") (by rfl) T.int (by decide +kernel) rfl) pa_nil)))) (pw_and (pt_not (pt_val (pe_callB call_isi (by rfl) T.isi (by decide +kernel) (pa_cons (pv 2) (pa_cons (pe_bltn (v := .ty "bool") (u := .type "bool") (by rfl) T.bool (by decide +kernel) rfl) pa_nil))))) (pw_and1 (pt_cmpR op_eq (pe_call GW hr1 rfl TW.draw kW bW .nil pass0 (pa_cons (pv 0) (pa_cons pe_int pa_nil))) pe_int (nomark _)))))) (pss_one (ps_ret (pe_op op_add (pv 2) (pe_call GP hr2 rfl TW.pick kP bP .nil pass0 (pa_cons (pv 0) (pa_cons (pe_lst (pa_cons pe_int (pa_cons (pe_un un_neg pe_int) pa_nil))) pa_nil)))))) pss_nil)
    (pss_cons (ps_if (PW.pt (pw_and (pt_val (pe_callB call_isi (by rfl) T.isi (by decide +kernel) (pa_cons (pv 2) (pa_cons (pe_bltn (v := .ty "str") (u := .type "str") (by rfl) T.str (by decide +kernel) rfl) pa_nil)))) (pw_and1 (pt_cmpR op_gt (pe_call GW hr1 rfl TW.draw kW bW .nil pass0 (pa_cons (pv 0) (pa_cons pe_int pa_nil))) pe_int (nomark _))))) (pss_one (ps_ret (pe_op op_add_str (pe_slice sl_str (pv 2) po_none (po_some (pe_call GW hr1 rfl TW.draw kW bW .nil pass0 (pa_cons (pv 0) (pa_cons (pe_op op_add (pe_callB call_len_str (by rfl) T.len PySem.boot_len (pa_cons (pv 2) pa_nil)) pe_int) pa_nil))))) (pe_call GP hr2 rfl TW.pick kP bP .nil pass0 (pa_cons (pv 0) (pa_cons (pe_op op_cat (pe_callTy (cr_listText rfl) (by rfl) TW.list (by decide +kernel) (pa_cons (pv 1) pa_nil)) (pe_lst (pa_cons pe_str (pa_cons pe_str pa_nil)))) pa_nil)))))) pss_nil)
    (pss_one (ps_ret (pe_call GP hr2 rfl TW.pick kP bP .nil pass0 (pa_cons (pv 0) (pa_cons (pv 3) pa_nil))))))) pss_nil)
    (pss_cons (ps_par (i := 4) (j := 5) rfl scBentQ.nd rfl rfl (by decide) rfl rfl (pa_cons (pe_call GW hr1 rfl TW.draw kW bW .nil pass0 (pa_cons (pv 0) (pa_cons (pe_callB call_len_seq (by rfl) T.len PySem.boot_len (pa_cons (pv 2) pa_nil)) pa_nil))) (pa_cons (pe_call GW hr1 rfl TW.draw kW bW .nil pass0 (pa_cons (pv 0) (pa_cons pe_int pa_nil))) pa_nil)) (by rfl))
    (pss_cons (ps_if (pt_cmpR op_eq (pv 5) pe_int (nomark _)) (pss_one (ps_ret (pe_op op_catA (pe_slice sl_tupA (pv 2) po_none (po_some (pv 4))) (pe_slice sl_tupA (pv 2) (po_some (pe_op op_add (pv 4) pe_int)) po_none)))) pss_nil)
    (pss_cons (ps_if (pt_cmpR op_eq (pv 5) pe_int (nomark _)) (pss_one (ps_ret (pe_op op_catA (pe_slice sl_tupA (pv 2) po_none (po_some (pe_op op_add (pv 4) pe_int))) (pe_slice sl_tupA (pv 2) (po_some (pv 4)) po_none)))) pss_nil)
    (pss_cons (ps_if (pt_cmpR op_eq (pv 5) pe_int (nomark _)) (pss_cons (ps_set (i := 6) scBentQ.nd rfl (Or.inl rfl) (pe_op op_catA (pe_slice sl_tupA (pv 2) (po_some (pe_op op_add (pv 4) pe_int)) (po_some (pe_op op_add (pv 4) pe_int))) (pe_slice sl_tupA (pv 2) (po_some (pv 4)) (po_some (pe_op op_add (pv 4) pe_int))))) (pss_one (ps_ret (pe_op op_catA (pe_op op_catA (pe_slice sl_tupA (pv 2) po_none (po_some (pv 4))) (pv 6)) (pe_slice sl_tupA (pv 2) (po_some (pe_op op_add (pv 4) pe_int)) po_none))))) pss_nil)
    (pss_cons (ps_if (pt_cmpR op_eq (pv 5) pe_int (nomark _)) (pss_one (ps_ret (pe_callTy call_list_of (by rfl) TW.list (by decide +kernel) (pa_cons (pv 2) pa_nil)))) pss_nil)
    (pss_cons (ps_if (pt_cmpR op_eq (pv 5) pe_int (nomark _)) (pss_one (ps_ret (pe_op op_catA (pe_op op_catA (pe_slice sl_tupA (pv 2) po_none (po_some (pv 4))) (pe_tup (pa_cons (pe_call GP hr2 rfl TW.pick kP bP .nil pass0 (pa_cons (pv 0) (pa_cons (pv 3) pa_nil))) pa_nil))) (pe_slice sl_tupA (pv 2) (po_some (pv 4)) po_none)))) pss_nil)
    (pss_one (ps_ret (pe_op op_catA (pe_op op_catA (pe_slice sl_tupA (pv 2) po_none (po_some (pv 4))) (pe_tup (pa_cons (pe_call GB hr rfl mB kB bB .nil pass0 (pa_cons (pv 0) (pa_cons (pv 1) (pa_cons (pe_ix ix_tup (pv 2) (pv 4) (fun _ _ => rfl)) pa_nil)))) pa_nil))) (pe_slice sl_tupA (pv 2) (po_some (pe_op op_add (pv 4) pe_int)) po_none)))))))))))), ?_⟩
  refine ⟨_, rfl, _, _, rfl, rfl, ⟨by decide, by decide, by decide⟩, (by show 0 ≤ sizeLine; decide), fun x1 xh1 => ?_⟩
  have xs1 : Same H (upd H x1 (.tup [])) := same_new xh1 _
  have xe1 : upd H x1 (.tup []) x1 = some (.tup []) := upd_same
  have xo1 := hD.dn xh1
  have xd1 := hD.same xs1
  generalize upd H x1 (.tup []) = xJ1 at xs1 xe1 xd1 ⊢
  refine ⟨(by show 1 ≤ sizeLine; decide), fun x2 xh2 => ?_⟩
  have xs2 : Same xJ1 (upd xJ1 x2 (.tup [V.str ""])) := same_new xh2 _
  have xe2 : upd xJ1 x2 (.tup [V.str ""]) x2 = some (.tup [V.str ""]) := upd_same
  have xo2 := xd1.dn xh2
  have xd2 := xd1.same xs2
  generalize upd xJ1 x2 (.tup [V.str ""]) = xJ2 at xs2 xe2 xd2 ⊢
  refine ⟨(by show 1 ≤ sizeLine; decide), fun x3 xh3 => ?_⟩
  have xs3 : Same xJ2 (upd xJ2 x3 (.tup [V.str "a"])) := same_new xh3 _
  have xe3 : upd xJ2 x3 (.tup [V.str "a"]) x3 = some (.tup [V.str "a"]) := upd_same
  have xo3 := xd2.dn xh3
  have xd3 := xd2.same xs3
  generalize upd xJ2 x3 (.tup [V.str "a"]) = xJ3 at xs3 xe3 xd3 ⊢
  refine ⟨(by show 0 ≤ sizeLine; decide), fun x4 xh4 => ?_⟩
  have xs4 : Same xJ3 (upd xJ3 x4 (.lst [])) := same_new xh4 _
  have xe4 : upd xJ3 x4 (.lst []) x4 = some (.lst []) := upd_same
  have xo4 := xd3.dn xh4
  have xd4 := xd3.same xs4
  generalize upd xJ3 x4 (.lst []) = xJ4 at xs4 xe4 xd4 ⊢
  refine ⟨(by show 1 ≤ sizeLine; decide), fun x5 xh5 => ?_⟩
  have xs5 : Same xJ4 (upd xJ4 x5 (.lst [V.str "a"])) := same_new xh5 _
  have xe5 : upd xJ4 x5 (.lst [V.str "a"]) x5 = some (.lst [V.str "a"]) := upd_same
  have xo5 := xd4.dn xh5
  have xd5 := xd4.same xs5
  generalize upd xJ4 x5 (.lst [V.str "a"]) = xJ5 at xs5 xe5 xd5 ⊢
  intro x6 xh6
  have xs6 : Same xJ5 (upd xJ5 x6 (.dK [])) := same_new xh6 _
  have xe6 : upd xJ5 x6 (.dK []) x6 = some (.dK []) := upd_same
  have xo6 := xd5.dn xh6
  have xd6 := xd5.same xs6
  generalize upd xJ5 x6 (.dK []) = xJ6 at xs6 xe6 xd6 ⊢
  refine ⟨(by show 20 ≤ sizeLine; decide), fun xl xh => ?_⟩
  have xs := same_new xh (.lst [V.non, V.bl true, V.bl false, V.int 0, V.int 1, V.int 2, (fun (i : Int) => V.int (-i)) 1, (fun (i j : Int) => V.int (i ^ j.toNat)) 10 39, V.str "", V.str "a", V.str "ab", V.str "q", V.str "-", V.str "A", V.ref x1, V.ref x2, V.ref x3, V.ref x4, V.ref x5, V.ref x6])
  have xe := upd_same (H := xJ6) (a := xl) (o := .lst [V.non, V.bl true, V.bl false, V.int 0, V.int 1, V.int 2, (fun (i : Int) => V.int (-i)) 1, (fun (i j : Int) => V.int (i ^ j.toNat)) 10 39, V.str "", V.str "a", V.str "ab", V.str "q", V.str "-", V.str "A", V.ref x1, V.ref x2, V.ref x3, V.ref x4, V.ref x5, V.ref x6])
  have xo := xd6.dn xh
  have xd := xd6.same xs
  have xt : Same H xJ6 := (((((xs1).trans xs2).trans xs3).trans xs4).trans xs5).trans xs6
  have xk : ∀ x ∈ [V.non, V.bl true, V.bl false, V.int 0, V.int 1, V.int 2, (fun (i : Int) => V.int (-i)) 1, (fun (i j : Int) => V.int (i ^ j.toNat)) 10 39, V.str "", V.str "a", V.str "ab", V.str "q", V.str "-", V.str "A", V.ref x1, V.ref x2, V.ref x3, V.ref x4, V.ref x5, V.ref x6], ∃ D, Dt xJ6 (fun a => a ≠ d ∧ a ≠ g) x D ∧ Bd (10 ^ 39) 70 1 D := by
    refine List.forall_mem_cons.2 ⟨⟨PyData.none, (.flat rfl), (Bd.le (n := 60) (e := 0) (bdN (by decide)) (Nat.le_refl _) (by decide) (by decide))⟩, ?_⟩
    refine List.forall_mem_cons.2 ⟨⟨(.bool true), (.flat rfl), (Bd.le (n := 60) (e := 0) (bdB (by decide)) (Nat.le_refl _) (by decide) (by decide))⟩, ?_⟩
    refine List.forall_mem_cons.2 ⟨⟨(.bool false), (.flat rfl), (Bd.le (n := 60) (e := 0) (bdB (by decide)) (Nat.le_refl _) (by decide) (by decide))⟩, ?_⟩
    refine List.forall_mem_cons.2 ⟨⟨(.int 0), (.flat rfl), (Bd.le (n := 60) (e := 0) (bdI (by decide +kernel) (by decide)) (Nat.le_refl _) (by decide) (by decide))⟩, ?_⟩
    refine List.forall_mem_cons.2 ⟨⟨(.int 1), (.flat rfl), (Bd.le (n := 60) (e := 0) (bdI (by decide +kernel) (by decide)) (Nat.le_refl _) (by decide) (by decide))⟩, ?_⟩
    refine List.forall_mem_cons.2 ⟨⟨(.int 2), (.flat rfl), (Bd.le (n := 60) (e := 0) (bdI (by decide +kernel) (by decide)) (Nat.le_refl _) (by decide) (by decide))⟩, ?_⟩
    refine List.forall_mem_cons.2 ⟨⟨(.int (-1)), (.flat rfl), (Bd.le (n := 60) (e := 0) (bdI (by decide +kernel) (by decide)) (Nat.le_refl _) (by decide) (by decide))⟩, ?_⟩
    refine List.forall_mem_cons.2 ⟨⟨(.int (10 ^ 39)), (.flat rfl), (Bd.le (n := 60) (e := 0) (bdI (by decide +kernel) (by decide)) (Nat.le_refl _) (by decide) (by decide))⟩, ?_⟩
    refine List.forall_mem_cons.2 ⟨⟨(.str ""), (.flat rfl), (Bd.le (n := 60) (e := 0) (bdS (by decide +kernel) (by decide +kernel)) (Nat.le_refl _) (by decide) (by decide))⟩, ?_⟩
    refine List.forall_mem_cons.2 ⟨⟨(.str "a"), (.flat rfl), (Bd.le (n := 60) (e := 0) (bdS (by decide +kernel) (by decide +kernel)) (Nat.le_refl _) (by decide) (by decide))⟩, ?_⟩
    refine List.forall_mem_cons.2 ⟨⟨(.str "ab"), (.flat rfl), (Bd.le (n := 60) (e := 0) (bdS (by decide +kernel) (by decide +kernel)) (Nat.le_refl _) (by decide) (by decide))⟩, ?_⟩
    refine List.forall_mem_cons.2 ⟨⟨(.str "q"), (.flat rfl), (Bd.le (n := 60) (e := 0) (bdS (by decide +kernel) (by decide +kernel)) (Nat.le_refl _) (by decide) (by decide))⟩, ?_⟩
    refine List.forall_mem_cons.2 ⟨⟨(.str "-"), (.flat rfl), (Bd.le (n := 60) (e := 0) (bdS (by decide +kernel) (by decide +kernel)) (Nat.le_refl _) (by decide) (by decide))⟩, ?_⟩
    refine List.forall_mem_cons.2 ⟨⟨(.str "A"), (.flat rfl), (Bd.le (n := 60) (e := 0) (bdS (by decide +kernel) (by decide +kernel)) (Nat.le_refl _) (by decide) (by decide))⟩, ?_⟩
    refine List.forall_mem_cons.2 ⟨⟨(PyData.tuple []), (.tup (xs6 _ _ (xs5 _ _ (xs4 _ _ (xs3 _ _ (xs2 _ _ xe1))))) xo1 .nil), (bdT0 (n := 70) (by decide))⟩, ?_⟩
    refine List.forall_mem_cons.2 ⟨⟨(PyData.tuple [(.str "")]), (.tup (xs6 _ _ (xs5 _ _ (xs4 _ _ (xs3 _ _ xe2)))) xo2 (.cons (.flat rfl) .nil)), (bdT1 (n := 60) (e := 0) (bdS (by decide +kernel) (by decide +kernel)) (by decide))⟩, ?_⟩
    refine List.forall_mem_cons.2 ⟨⟨(PyData.tuple [(.str "a")]), (.tup (xs6 _ _ (xs5 _ _ (xs4 _ _ xe3))) xo3 (.cons (.flat rfl) .nil)), (bdT1 (n := 60) (e := 0) (bdS (by decide +kernel) (by decide +kernel)) (by decide))⟩, ?_⟩
    refine List.forall_mem_cons.2 ⟨⟨(PyData.list []), (.lst (xs6 _ _ (xs5 _ _ xe4)) xo4 .nil), (bdL0 (n := 70) (by decide))⟩, ?_⟩
    refine List.forall_mem_cons.2 ⟨⟨(PyData.list [(.str "a")]), (.lst (xs6 _ _ xe5) xo5 (.cons (.flat rfl) .nil)), (bdL1 (n := 60) (e := 0) (bdS (by decide +kernel) (by decide +kernel)) (by decide))⟩, ?_⟩
    refine List.forall_mem_cons.2 ⟨⟨(.dict []), (.dct xe6 xo6 .nil), (bdD0 (n := 70) (by decide))⟩, fun x z => nomatch z⟩
  have ksl : Same H (upd xJ6 xl (.lst [V.non, V.bl true, V.bl false, V.int 0, V.int 1, V.int 2, (fun (i : Int) => V.int (-i)) 1, (fun (i j : Int) => V.int (i ^ j.toNat)) 10 39, V.str "", V.str "a", V.str "ab", V.str "q", V.str "-", V.str "A", V.ref x1, V.ref x2, V.ref x3, V.ref x4, V.ref x5, V.ref x6])) := Same.trans (xt) xs
  have hpl : ∀ x ∈ [V.non, V.bl true, V.bl false, V.int 0, V.int 1, V.int 2, (fun (i : Int) => V.int (-i)) 1, (fun (i j : Int) => V.int (i ^ j.toNat)) 10 39, V.str "", V.str "a", V.str "ab", V.str "q", V.str "-", V.str "A", V.ref x1, V.ref x2, V.ref x3, V.ref x4, V.ref x5, V.ref x6], ∃ D, Dt (upd xJ6 xl (.lst [V.non, V.bl true, V.bl false, V.int 0, V.int 1, V.int 2, (fun (i : Int) => V.int (-i)) 1, (fun (i j : Int) => V.int (i ^ j.toNat)) 10 39, V.str "", V.str "a", V.str "ab", V.str "q", V.str "-", V.str "A", V.ref x1, V.ref x2, V.ref x3, V.ref x4, V.ref x5, V.ref x6])) (fun a => a ≠ d ∧ a ≠ g) x D ∧ Bd (10 ^ 39) 70 1 D := fun x hx => by
    obtain ⟨D, h1, h2⟩ := xk x hx
    exact ⟨D, dt_same h1 xs, h2⟩
  have hl20 : [V.non, V.bl true, V.bl false, V.int 0, V.int 1, V.int 2, (fun (i : Int) => V.int (-i)) 1, (fun (i j : Int) => V.int (i ^ j.toNat)) 10 39, V.str "", V.str "a", V.str "ab", V.str "q", V.str "-", V.str "A", V.ref x1, V.ref x2, V.ref x3, V.ref x4, V.ref x5, V.ref x6].length < 1000 := by show 20 < 1000; decide
  have hne : [V.non, V.bl true, V.bl false, V.int 0, V.int 1, V.int 2, (fun (i : Int) => V.int (-i)) 1, (fun (i j : Int) => V.int (i ^ j.toNat)) 10 39, V.str "", V.str "a", V.str "ab", V.str "q", V.str "-", V.str "A", V.ref x1, V.ref x2, V.ref x3, V.ref x4, V.ref x5, V.ref x6] ≠ [] := by intro z; cases z
  clear xk xs
  generalize [V.non, V.bl true, V.bl false, V.int 0, V.int 1, V.int 2, (fun (i : Int) => V.int (-i)) 1, (fun (i j : Int) => V.int (i ^ j.toNat)) 10 39, V.str "", V.str "a", V.str "ab", V.str "q", V.str "-", V.str "A", V.ref x1, V.ref x2, V.ref x3, V.ref x4, V.ref x5, V.ref x6] = pool at xe xd ksl hpl hl20 hne ⊢
  generalize upd xJ6 xl (.lst pool) = H0 at xe xd ksl hpl ⊢
  have ho := xo
  have k0 : Keeps d g H H0 := Keeps.of ksl
  have hv0 := dt_same hv ksl
  have e1 : e ≤ m := by omega
  have pk : ∀ (Hx : Hp) (cx : Nat) (Qx : V → Hp → Prop), Keeps d g H0 Hx → DeckAt cx Hx d g → cx ≤ c + 5 → (∀ (x : V) (D' : PyData) (H' : Hp), Dt H' (fun a => a ≠ d ∧ a ≠ g) x D' → Bd (10 ^ 39) 70 1 D' → DeckAt (cx + 1) H' d g → Keeps d g Hx H' → Qx x H') → spPick K [V.ref d, V.ref xl] Hx Qx E0 := by
    intro Hx cx Qx kx hx hcx qx
    refine ⟨d, g, xl, pool, cx, rfl, SqL.of (kx _ _ ho.1 ho.2 xe), ho.1, ho.2, hne, by omega, hx, by omega, fun x H' hm hD' k' => ?_⟩
    obtain ⟨D', h1, h2⟩ := hpl x hm
    exact qx x D' H' (keep_dt (kx.trans k') h1) h2 hD' k'
  have fin : ∀ (Hx : Hp) (cx : Nat), Keeps d g H0 Hx → DeckAt cx Hx d g → cx ≤ c + 5 → spPick K [V.ref d, V.ref xl] Hx Q E0 := fun Hx cx kx hx hcx =>
    pk Hx cx Q kx hx hcx fun x D' H' h1 h2 h3 h4 => q x D' H' h1 (h2.le (by omega) (by omega) (by omega)) (h3.le (by omega)) ((k0.trans kx).trans h4)
  refine ⟨_, rfl, _, _, _, _, _, rfl, .ty _, dt_ty hv0, kit_D D (.inr (.inr (.inr rfl))), _, rfl, ?_⟩
  by_cases ct : isD "tuple" D = true
  rotate_left
  · rw [Bool.eq_false_iff.mpr ct]
    refine if_tr rfl (if_tr rfl ?_)
    refine ⟨_, rfl, _, _, _, _, _, rfl, .ty _, dt_ty hv0, kit_D D (.inl rfl), _, rfl, ?_⟩
    have isS := kit_D (K := K) D (n := "str") (.inr (.inr (.inl rfl)))
    rw [isD_str] at isS
    have low : ∀ (hns : strD D = false) (Hx : Hp) (cx : Nat), Keeps d g H0 Hx → DeckAt cx Hx d g → cx ≤ c + 5 → True := fun _ _ _ _ _ _ => trivial
    cases D with
    | tuple ds => exact absurd ((isD_tup _).mpr ⟨ds, rfl⟩) ct
    | none => exact if_fl rfl (if_fl rfl ⟨_, rfl, _, _, _, _, _, rfl, .ty _, dt_ty hv0, isS, _, rfl, if_fl rfl (if_fl rfl ⟨_, rfl, _, rfl, fin H0 c (Keeps.refl _ _ _) xd (by omega)⟩)⟩)
    | list ds => exact if_fl rfl (if_fl rfl ⟨_, rfl, _, _, _, _, _, rfl, .ty _, dt_ty hv0, isS, _, rfl, if_fl rfl (if_fl rfl ⟨_, rfl, _, rfl, fin H0 c (Keeps.refl _ _ _) xd (by omega)⟩)⟩)
    | dict ds => exact if_fl rfl (if_fl rfl ⟨_, rfl, _, _, _, _, _, rfl, .ty _, dt_ty hv0, isS, _, rfl, if_fl rfl (if_fl rfl ⟨_, rfl, _, rfl, fin H0 c (Keeps.refl _ _ _) xd (by omega)⟩)⟩)
    | bool b => exact if_tr rfl ⟨_, rfl, _, _, _, _, _, rfl, .ty _, dt_ty hv0, kit_D _ (.inr (.inl rfl)), _, rfl, if_fl rfl (if_fl rfl ⟨_, rfl, _, _, _, _, _, rfl, .ty _, dt_ty hv0, isS, _, rfl, if_fl rfl (if_fl rfl ⟨_, rfl, _, rfl, fin H0 c (Keeps.refl _ _ _) xd (by omega)⟩)⟩)⟩
    | int i =>
      obtain rfl := dt_int hv
      have hni : i.natAbs ≤ N := hb.ok
      have h60 : 60 ≤ n := hb.w
      refine if_tr rfl ⟨_, rfl, _, _, _, _, _, rfl, .ty _, dt_ty hv0, kit_D _ (.inr (.inl rfl)), _, rfl, if_tr rfl ?_⟩
      refine ⟨_, rfl, d, g, 2, c, rfl, by decide, by decide, xd, by omega, fun r H1 r0 r1 hD1 k1 => ⟨rfl, _, rfl, ?_⟩⟩
      refine ite2 (fun z => ?_) (fun z => ?_)
      rotate_left
      · exact ⟨_, rfl, _, _, _, _, _, rfl, .ty _, dt_ty (keep_dt k1 hv0), isS, _, rfl, if_fl rfl (if_fl rfl ⟨_, rfl, _, rfl, fin H1 (c + 1) k1 hD1 (by omega)⟩)⟩
      refine ⟨_, rfl, _, rfl, _, rfl, (by show 2 ≤ sizeLine; decide), fun lp hlp => ?_⟩
      have sp := same_new hlp (.lst [V.int 1, (fun (i : Int) => V.int (-i)) 1])
      have ep : upd H1 lp (.lst [V.int 1, (fun (i : Int) => V.int (-i)) 1]) lp = some (.lst [V.int 1, (fun (i : Int) => V.int (-i)) 1]) := upd_same
      have op := hD1.dn hlp
      refine ⟨d, g, lp, _, c + 1, rfl, SqL.of ep, op.1, op.2, (by intro z; cases z), (by show 2 < 1000000; decide), hD1.same sp, by omega, fun x H2 hx hD2 k2 => ?_⟩
      have hx' : ∃ j : Int, x = .int j ∧ j.natAbs ≤ 1 := by
        rcases List.mem_cons.mp hx with rfl | hx
        · exact ⟨1, rfl, by decide⟩
        · rcases List.mem_cons.mp hx with rfl | hx
          · exact ⟨-1, rfl, by decide⟩
          · cases hx
      obtain ⟨j, rfl, hj⟩ := hx'
      refine ⟨_, _, rfl, rfl, q _ (.int (i + j)) H2 (.flat rfl) ((bdI (N := N + 1) (n := 2 * n + 100) (by omega) (by omega)).le (Nat.le_refl _) (Nat.le_refl _) (Nat.zero_le _)) (hD2.le (by omega)) ((k0.trans k1).trans ((Keeps.of sp).trans k2))⟩
    | str x =>
      obtain rfl := dt_str hv
      obtain ⟨z, rfl⟩ : ∃ z, x = mkS z := ⟨_, (mkS_of x).symm⟩
      have hx8 : ∀ c ∈ z, c < 1000 := by
        have := hb.ok
        unfold okD at this
        rw [mkS_cps] at this
        exact this
      have hxn : 10 * z.length + 4 ≤ n := by
        have := hb.w
        unfold wt at this
        rw [mkS_length] at this
        exact this
      have hlz : (mkS z).length = z.length := mkS_length z
      have hz16 : (mkS z).length ≤ sizeLine := by rw [hlz, sizeLine_eq]; omega
      have hls : (mkS sg).length = sg.length := mkS_length sg
      have sg4 := gs.2.1
      refine if_fl rfl (if_fl rfl ⟨_, rfl, _, _, _, _, _, rfl, .ty _, dt_ty hv0, isS, _, rfl, if_tr rfl ?_⟩)
      refine ⟨_, rfl, d, g, 3, c, rfl, by decide, by decide, xd, by omega, fun r H1 r0 r1 hD1 k1 => ⟨_, _, rfl, rfl, _, rfl, ?_⟩⟩
      refine ite2 (fun zz => ?_) (fun zz => ?_)
      rotate_left
      · exact ⟨_, rfl, _, rfl, fin H1 (c + 1) k1 hD1 (by omega)⟩
      refine ⟨_, rfl, _, rfl, _, rfl, _, rfl, hz16, _, _, rfl, rfl, d, g, _, c + 1, rfl, by omega, by rw [hlz]; omega, hD1, by omega, fun r2 H2 s0 s1 hD2 k2 => ?_⟩
      obtain ⟨rn, rfl⟩ : ∃ rn : Nat, r2 = (rn : Int) := ⟨r2.toNat, by omega⟩
      have hrn : rn ≤ z.length := by rw [hlz] at s1; omega
      refine ⟨_, rfl, _, rfl, hz16, ?_⟩
      rw [cut_head]
      refine ⟨_, rfl, _, rfl, _, rfl, by rw [hls, sizeLine_eq]; omega, fun p hp => ?_⟩
      have st1 := same_new hp (.lst ((parts (mkS sg)).map V.str))
      refine ⟨(by show 2 ≤ sizeLine; decide), fun p2 hp2 => ?_⟩
      have st2 := same_new hp2 (.lst [V.str "", V.str "q"])
      have pl : ((parts (mkS sg)).map V.str).length = sg.length := by rw [List.length_map, List.length_map, mkS_cps]
      refine ⟨p, p2, _, _, rfl, rfl, st2 _ _ upd_same, upd_same, by rw [pl, sizeLine_eq]; show sg.length + 2 ≤ _; omega, fun p3 hp3 => ?_⟩
      have st3 := same_new hp3 (.lst ((parts (mkS sg)).map V.str ++ [V.str "", V.str "q"]))
      have np3 := ((hD2.same st1).same st2).dn hp3
      refine ⟨d, g, p3, _, c + 2, rfl, SqL.of upd_same, np3.1, np3.2, (by intro z; simp at z), by rw [List.length_append, pl]; show sg.length + 2 < _; omega, ((hD2.same st1).same st2).same st3, by omega, fun x H4 hx hD4 k4 => ?_⟩
      obtain ⟨y, rfl, yl, yc⟩ : ∃ y : Wd, x = .str (mkS y) ∧ y.length ≤ 1 ∧ ∀ c ∈ y, c < 1000 := by
        rcases List.mem_append.mp hx with h | h
        · obtain ⟨t, ht, rfl⟩ := List.mem_map.mp h
          obtain ⟨cc, hcc, rfl⟩ := List.mem_map.mp ht
          refine ⟨[cc], rfl, Nat.le_refl _, fun c hc => ?_⟩
          rw [List.mem_singleton.mp hc]
          rw [mkS_cps] at hcc
          exact Nat.lt_of_le_of_lt (gs.2.2 cc hcc).2 (by decide)
        · rcases List.mem_cons.mp h with rfl | h
          · exact ⟨[], congrArg V.str (by decide +kernel), Nat.zero_le _, fun _ h => nomatch h⟩
          · rw [List.mem_singleton.mp h]
            exact ⟨[113], congrArg V.str (by decide +kernel), Nat.le_refl _, by decide⟩
      refine ⟨_, _, rfl, rfl, ?_, ?_⟩
      · rw [mkS_length, mkS_length, List.length_take, sizeLine_eq]
        omega
      rw [mkS_append]
      refine q _ (.str (mkS (z.take rn ++ y))) H4 (.flat rfl) ((bd_str (N := N + 1) (n := 2 * n + 100) (fun cc hcc => ?_) ?_).le (Nat.le_refl _) (Nat.le_refl _) (Nat.zero_le _)) (hD4.le (by omega)) ((k0.trans k1).trans (k2.trans ((Keeps.of ((st1.trans st2).trans st3)).trans k4)))
      · rcases List.mem_append.mp hcc with h | h
        · exact hx8 cc (List.mem_of_mem_take h)
        · exact yc cc h
      · rw [List.length_append, List.length_take]
        omega
  obtain ⟨ds, rfl⟩ := (isD_tup D).mp ct
  rw [ct]
  refine if_fl rfl ?_
  have isI := kit_D (K := K) (.tuple ds) (n := "int") (.inl rfl)
  have isS := kit_D (K := K) (.tuple ds) (n := "str") (.inr (.inr (.inl rfl)))
  obtain ⟨a, xs', rfl, ea, sa, da⟩ := dt_tup hv0
  have hl := dtA_len da
  obtain ⟨e', rfl⟩ : ∃ e', e = e' + 1 := ⟨e - 1, by have := hb.dep; simp only [PyData.depth] at this; omega⟩
  obtain ⟨okds, wds, dds⟩ := bd_tup.1 hb
  have hw2 := wts_len ds
  refine ⟨_, rfl, (by show 0 ≤ sizeLine; decide), fun u hu => ?_⟩
  have su := same_new hu (.tup [])
  have eu : upd H0 u (.tup []) u = some (.tup []) := upd_same
  have xd1 := xd.same su
  have ku := Keeps.of (d := d) (g := g) su
  generalize upd H0 u (.tup []) = Hu at su eu xd1 ku ⊢
  refine ⟨a, u, xs', rfl, rfl, SqT.of (su _ _ ea), SqT.of eu, _, rfl, ?_⟩
  by_cases hde : xs' = []
  · subst hde
    exact if_tr rfl ⟨_, rfl, _, _, _, _, _, rfl, .ty _, dt_ty (keep_dt ku hv0), isI, _, rfl, if_fl rfl (if_fl rfl ⟨_, rfl, _, _, _, _, _, rfl, .ty _, dt_ty (keep_dt ku hv0), isS, _, rfl, if_fl rfl (if_fl rfl ⟨_, rfl, _, rfl, fin Hu c ku xd1 (by omega)⟩)⟩)⟩
  rw [show xs'.isEmpty = false by cases xs' with | nil => exact absurd rfl hde | cons _ _ => rfl]
  refine if_fl rfl ?_
  have hpos : 0 < xs'.length := List.length_pos_iff.mpr hde
  refine ⟨_, rfl, d, g, 7, c, rfl, by decide, by decide, xd1, by omega, fun r0 H1 r00 r01 hD1 k1 => ⟨rfl, _, rfl, ?_⟩⟩
  have ku1 := ku.trans k1
  refine ite2 (fun z => ?_) (fun z => ?_)
  · exact ⟨_, rfl, _, _, _, _, _, rfl, .ty _, dt_ty (keep_dt ku1 hv0), isI, _, rfl, if_fl rfl (if_fl rfl ⟨_, rfl, _, _, _, _, _, rfl, .ty _, dt_ty (keep_dt ku1 hv0), isS, _, rfl, if_fl rfl (if_fl rfl ⟨_, rfl, _, rfl, fin H1 (c + 1) ku1 hD1 (by omega)⟩)⟩)⟩
  refine ⟨_, rfl, _, rfl, a, xs', rfl, .inr (SqT.of (ku1 _ _ sa.1 sa.2 ea)), d, g, _, c + 1, rfl, by omega, by omega, hD1, by omega, fun r H2 r0' r1' hD2 k2 => ?_⟩
  refine ⟨_, rfl, d, g, 10, c + 2, rfl, by decide, by decide, hD2, by omega, fun wy H3 w0 w1 hD3 k3 => ⟨_, _, rfl, ?_⟩⟩
  obtain ⟨rn, rfl⟩ : ∃ rn : Nat, r = (rn : Int) := ⟨r.toNat, by omega⟩
  have hrn : rn < ds.length := by omega
  have ea1 : ((rn : Int) + 1) = ((rn + 1 : Nat) : Int) := by omega
  have ea2 : ((rn : Int) + 2) = ((rn + 2 : Nat) : Int) := by omega
  have k03 := ku1.trans (k2.trans k3)
  have sl : ∀ (Hx : Hp) (cx : Nat) (lo hi : Option Int) (Qx : V → Hp → Prop), Keeps d g H3 Hx → DeckAt cx Hx d g → (∀ v H', Same Hx H' → Dt H' (fun a => a ≠ d ∧ a ≠ g) v (.tuple (cutG ds lo hi)) → Qx v H') → rSlA K (.ref a) lo hi Hx Qx := fun Hx cx lo hi Qx kx hx qx =>
    sl_dt ((k03.trans kx) _ _ sa.1 sa.2 ea) sa (da.mono (fun a o sa e => (k03.trans kx) a o sa.1 sa.2 e) fun _ _ x _ => x) (fun p hp => hx.dn hp) qx
  have slN : ∀ (Hx : Hp) (cx : Nat) (lo : Option Int) (σ : L2.St) (Qx : V → Hp → Prop), Keeps d g H3 Hx → DeckAt cx Hx d g → (∀ v H', Same Hx H' → Dt H' (fun a => a ≠ d ∧ a ≠ g) v (.tuple (cutG ds lo none)) → Qx v H') → tNoPart σ Hx (fun u H' => rSlA K (.ref a) lo u H' Qx) := fun Hx cx lo σ Qx kx hx qx => sl Hx cx lo none Qx kx hx qx
  have ct2 : ∀ (Hx : Hp) (cx : Nat) (u v : V) (es fs : List PyData) (Qx : V → Hp → Prop), DeckAt cx Hx d g → Dt Hx (fun a => a ≠ d ∧ a ≠ g) u (.tuple es) → Dt Hx (fun a => a ≠ d ∧ a ≠ g) v (.tuple fs) → es.length ≤ 500000 → fs.length ≤ 500000 → (∀ v H', Same Hx H' → Dt H' (fun a => a ≠ d ∧ a ≠ g) v (.tuple (es ++ fs)) → Qx v H') → rCatA K u v Hx Qx := fun Hx cx u v es fs Qx hx h1 h2 l1 l2 qx =>
    cat_dt h1 h2 (by rw [sizeLine_eq]; omega) (fun p hp => hx.dn hp) qx
  have res : ∀ (es : List PyData) (v' : V) (H' : Hp) (cx : Nat), Dt H' (fun a => a ≠ d ∧ a ≠ g) v' (.tuple es) → okDs (N + 1) es → wts es ≤ 2 * wts ds + 104 → PyData.depthAll es ≤ e' + 1 → DeckAt cx H' d g → cx ≤ c + 10 * (m + 1) → Keeps d g H3 H' → Q v' H' := fun es v' H' cx h1 h2 h3 h4 h5 h6 h7 =>
    q v' (.tuple es) H' h1 (bd_tup.2 ⟨h2, by omega, h4⟩) (h5.le h6) ((k0.trans k03).trans h7)
  have okds' := okDs.le (Nat.le_succ N) okds
  have lt1 : (ds.take rn).length ≤ 500000 := by rw [List.length_take]; omega
  have lt2 : (ds.take (rn + 1)).length ≤ 500000 := by rw [List.length_take]; omega
  have ld1 : (ds.drop rn).length ≤ 500000 := by rw [List.length_drop]; omega
  have ld2 : (ds.drop (rn + 1)).length ≤ 500000 := by rw [List.length_drop]; omega
  have ld3 : (ds.drop (rn + 2)).length ≤ 500000 := by rw [List.length_drop]; omega
  have wc0 := wts_cut ds rn
  have wc1 := wts_cut ds (rn + 1)
  have dd0 := dep_take dds rn
  have dd1 := dep_take dds (rn + 1)
  have de0 := dep_drop dds rn
  have de1 := dep_drop dds (rn + 1)
  have de2 := dep_drop dds (rn + 2)
  -- 0
  refine ⟨_, rfl, rfl, _, rfl, ?_⟩
  refine ite2 (fun z => ?_) (fun z => ?_)
  · refine ⟨_, rfl, _, rfl, _, rfl, sl H3 (c + 3) _ _ _ (Keeps.refl _ _ _) hD3 fun v1 H4 s4 h1 => ?_⟩
    refine ⟨_, rfl, _, rfl, _, _, rfl, rfl, _, rfl, slN H4 (c + 3) _ _ _ (Keeps.of s4) (hD3.same s4) fun v2 H5 s5 h2 => ?_⟩
    rw [cutG_to] at h1
    rw [ea1, cutG_from] at h2
    refine ct2 H5 (c + 3) v1 v2 _ _ _ ((hD3.same s4).same s5) (dt_same h1 s5) h2 lt1 ld2 fun v3 H6 s6 h3 => ?_
    refine res _ v3 H6 (c + 3) h3 ((okDs_app _ _).2 ⟨ok_take okds' _, ok_drop okds' _⟩) (by rw [wts_app]; omega) (by rw [dep_app]; omega) (((hD3.same s4).same s5).same s6) (by omega) (Keeps.of ((s4.trans s5).trans s6))
  -- 1
  refine ⟨_, rfl, rfl, _, rfl, ?_⟩
  refine ite2 (fun z => ?_) (fun z => ?_)
  · refine ⟨_, rfl, _, rfl, _, _, rfl, rfl, _, rfl, sl H3 (c + 3) _ _ _ (Keeps.refl _ _ _) hD3 fun v1 H4 s4 h1 => ?_⟩
    refine ⟨_, rfl, _, rfl, _, rfl, slN H4 (c + 3) _ _ _ (Keeps.of s4) (hD3.same s4) fun v2 H5 s5 h2 => ?_⟩
    rw [ea1, cutG_to] at h1
    rw [cutG_from] at h2
    refine ct2 H5 (c + 3) v1 v2 _ _ _ ((hD3.same s4).same s5) (dt_same h1 s5) h2 lt2 ld1 fun v3 H6 s6 h3 => ?_
    refine res _ v3 H6 (c + 3) h3 ((okDs_app _ _).2 ⟨ok_take okds' _, ok_drop okds' _⟩) (by rw [wts_app]; omega) (by rw [dep_app]; omega) (((hD3.same s4).same s5).same s6) (by omega) (Keeps.of ((s4.trans s5).trans s6))
  -- 2
  refine ⟨_, rfl, rfl, _, rfl, ?_⟩
  refine ite2 (fun z => ?_) (fun z => ?_)
  · refine ⟨_, rfl, _, rfl, _, _, rfl, rfl, _, rfl, _, rfl, _, _, rfl, rfl, _, rfl, sl H3 (c + 3) _ _ _ (Keeps.refl _ _ _) hD3 fun v1 H4 s4 h1 => ?_⟩
    refine ⟨_, rfl, _, rfl, _, rfl, _, rfl, _, _, rfl, rfl, _, rfl, sl H4 (c + 3) _ _ _ (Keeps.of s4) (hD3.same s4) fun v2 H5 s5 h2 => ?_⟩
    rw [ea1, ea2, cutG_mid (by omega)] at h1
    rw [ea1, cutG_mid (by omega)] at h2
    have t1 : ((ds.drop (rn + 1)).take (rn + 2 - (rn + 1))).length ≤ 500000 := by rw [List.length_take]; omega
    have t2 : ((ds.drop rn).take (rn + 1 - rn)).length ≤ 500000 := by rw [List.length_take]; omega
    refine ct2 H5 (c + 3) v1 v2 _ _ _ ((hD3.same s4).same s5) (dt_same h1 s5) h2 t1 t2 fun v3 H6 s6 h3 => ?_
    have s36 := (s4.trans s5).trans s6
    have hD6 := hD3.same s36
    refine ⟨_, rfl, _, rfl, _, rfl, sl H6 (c + 3) _ _ _ (Keeps.of s36) hD6 fun v4 H7 s7 h4 => ?_⟩
    rw [cutG_to] at h4
    refine ⟨_, rfl, ct2 H7 (c + 3) v4 v3 _ _ _ (hD6.same s7) h4 (dt_same h3 s7) lt1 (by rw [List.length_append, List.length_take, List.length_take]; omega) fun v5 H8 s8 h5 => ?_⟩
    refine ⟨_, rfl, _, rfl, _, _, rfl, rfl, _, rfl, slN H8 (c + 3) _ _ _ (Keeps.of ((s36.trans s7).trans s8)) ((hD6.same s7).same s8) fun v6 H9 s9 h6 => ?_⟩
    rw [ea2, cutG_from] at h6
    have hD9 := ((hD6.same s7).same s8).same s9
    refine ct2 H9 (c + 3) v5 v6 _ _ _ hD9 (dt_same h5 s9) h6 (by rw [List.length_append, List.length_append, List.length_take, List.length_take, List.length_take]; omega) ld3 fun v7 Ha sa' h7 => ?_
    have w1 := wts_cut (ds.drop (rn + 1)) (rn + 2 - (rn + 1))
    have w2 := wts_cut (ds.drop rn) (rn + 1 - rn)
    rw [List.drop_drop, show rn + 1 + (rn + 2 - (rn + 1)) = rn + 2 by omega] at w1
    have x1 := dep_take de1 (rn + 2 - (rn + 1))
    have x2 := dep_take de0 (rn + 1 - rn)
    refine res _ v7 Ha (c + 3) h7 ?_ ?_ ?_ (hD9.same sa') (by omega) (Keeps.of ((((s36.trans s7).trans s8).trans s9).trans sa'))
    · exact (okDs_app _ _).2 ⟨(okDs_app _ _).2 ⟨ok_take okds' _, (okDs_app _ _).2 ⟨ok_take (ok_drop okds' _) _, ok_take (ok_drop okds' _) _⟩⟩, ok_drop okds' _⟩
    · rw [wts_app, wts_app, wts_app]
      omega
    · rw [dep_app, dep_app, dep_app]
      omega
  -- 3
  refine ⟨_, rfl, rfl, _, rfl, ?_⟩
  refine ite2 (fun z => ?_) (fun z => ?_)
  · refine ⟨_, rfl, a, xs', rfl, .inr (SqT.of (k03 _ _ sa.1 sa.2 ea)), fun l hl' => ?_⟩
    have sl' := same_new hl' (.lst xs')
    have da3 : DtAll H3 (fun a => a ≠ d ∧ a ≠ g) xs' ds := da.mono (fun a o sa e => k03 a o sa.1 sa.2 e) fun _ _ x _ => x
    exact q _ (.list ds) _ (.lst upd_same (hD3.dn hl') (dtA_same da3 sl')) ⟨okds', by show wts ds + 4 ≤ _; omega, by simp only [PyData.depth]; omega⟩ ((hD3.same sl').le (by omega)) ((k0.trans k03).trans (Keeps.of sl'))
  -- 4
  refine ⟨_, rfl, rfl, _, rfl, ?_⟩
  refine ite2 (fun z => ?_) (fun z => ?_)
  · refine ⟨_, rfl, _, rfl, _, rfl, sl H3 (c + 3) _ _ _ (Keeps.refl _ _ _) hD3 fun v1 H4 s4 h1 => ?_⟩
    rw [cutG_to] at h1
    refine ⟨_, rfl, _, rfl, pk H4 (c + 3) _ (k03.trans (Keeps.of s4)) (hD3.same s4) (by omega) fun x D' H5 hx hbx hD5 k5 => ?_⟩
    refine ⟨(by show 1 ≤ sizeLine; decide), fun t ht => ?_⟩
    have st := same_new ht (.tup [x])
    have ht1 : Dt (upd H5 t (.tup [x])) (fun a => a ≠ d ∧ a ≠ g) (.ref t) (.tuple [D']) := .tup upd_same (hD5.dn ht) (.cons (dt_same hx st) .nil)
    have hD6 := hD5.same st
    have k46 := k5.trans (Keeps.of st)
    generalize upd H5 t (.tup [x]) = H6 at st ht1 hD6 k46
    refine ct2 H6 (c + 4) v1 (.ref t) _ _ _ hD6 (keep_dt k46 h1) ht1 lt1 (by show 1 ≤ _; decide) fun v3 H7 s7 h3 => ?_
    refine ⟨_, rfl, _, rfl, _, rfl, slN H7 (c + 4) _ _ _ (((Keeps.of s4).trans k46).trans (Keeps.of s7)) (hD6.same s7) fun v4 H8 s8 h4 => ?_⟩
    rw [cutG_from] at h4
    have hD8 := (hD6.same s7).same s8
    refine ct2 H8 (c + 4) v3 v4 _ _ _ hD8 (dt_same h3 s8) h4 (by rw [List.length_append]; show _ + 1 ≤ _; rw [List.length_take]; omega) ld1 fun v5 H9 s9 h5 => ?_
    refine res _ v5 H9 (c + 4) h5 ?_ ?_ ?_ (hD8.same s9) (by omega) ((((Keeps.of s4).trans k46).trans (Keeps.of s7)).trans (Keeps.of (s8.trans s9)))
    · exact (okDs_app _ _).2 ⟨(okDs_app _ _).2 ⟨ok_take okds' _, okD.le (by omega) hbx.ok, trivial⟩, ok_drop okds' _⟩
    · have := hbx.w
      rw [wts_app, wts_app]
      simp only [wts]
      omega
    · have := hbx.dep
      rw [dep_app, dep_app]
      simp only [PyData.depthAll]
      omega
  -- within
  refine ⟨_, rfl, _, rfl, _, rfl, sl H3 (c + 3) _ _ _ (Keeps.refl _ _ _) hD3 fun v1 H4 s4 h1 => ?_⟩
  rw [cutG_to] at h1
  have k34 := k03.trans (Keeps.of s4)
  obtain ⟨vr, hvr⟩ : ∃ vr, xs'[rn]? = some vr := ⟨_, List.getElem?_eq_getElem (by omega)⟩
  obtain ⟨dr, hdr, dvr⟩ := dtA_at da hvr
  have hmem := List.mem_of_getElem? hdr
  have wdr := wts_mem dr hmem
  have ddr := dep_mem dr hmem
  have hsplit : wts (ds.drop rn) = wt dr + 2 + wts (ds.drop (rn + 1)) := by
    rw [List.drop_eq_getElem_cons hrn, show ds[rn] = dr from Option.some.inj ((List.getElem?_eq_getElem hrn).symm.trans hdr)]
    rfl
  refine ⟨_, rfl, _, rfl, _, rfl, _, rfl, a, _, _, vr, rfl, rfl, SqT.of (k34 _ _ sa.1 sa.2 ea), atI_nat hvr, ?_⟩
  refine ⟨d, g, sg, vr, dr, N, wt dr, e', c + 3, rfl, gs, keep_dt k34 dvr, ⟨okDs_mem okds dr hmem, Nat.le_refl _, by omega⟩, by omega, hN, by omega, hD3.same s4, by omega, fun v' D' H5 h5 hb5 hD5 k5 => ?_⟩
  refine ⟨(by show 1 ≤ sizeLine; decide), fun t ht => ?_⟩
  have st := same_new ht (.tup [v'])
  have ht1 : Dt (upd H5 t (.tup [v'])) (fun a => a ≠ d ∧ a ≠ g) (.ref t) (.tuple [D']) := .tup upd_same (hD5.dn ht) (.cons (dt_same h5 st) .nil)
  have hD6 := hD5.same st
  have k46 := k5.trans (Keeps.of st)
  generalize upd H5 t (.tup [v']) = H6 at st ht1 hD6 k46
  refine ct2 H6 _ v1 (.ref t) _ _ _ hD6 (keep_dt k46 h1) ht1 lt1 (by show 1 ≤ _; decide) fun v3 H7 s7 h3 => ?_
  refine ⟨_, rfl, _, rfl, _, _, rfl, rfl, _, rfl, slN H7 _ _ _ _ (((Keeps.of s4).trans k46).trans (Keeps.of s7)) (hD6.same s7) fun v4 H8 s8 h4 => ?_⟩
  rw [ea1, cutG_from] at h4
  have hD8 := (hD6.same s7).same s8
  refine ct2 H8 _ v3 v4 _ _ _ hD8 (dt_same h3 s8) h4 (by rw [List.length_append]; show _ + 1 ≤ _; rw [List.length_take]; omega) ld2 fun v5 H9 s9 h5' => ?_
  refine res _ v5 H9 _ h5' ?_ ?_ ?_ (hD8.same s9) (by omega) ((((Keeps.of s4).trans k46).trans (Keeps.of s7)).trans (Keeps.of (s8.trans s9)))
  · exact (okDs_app _ _).2 ⟨(okDs_app _ _).2 ⟨ok_take okds' _, hb5.ok, trivial⟩, ok_drop okds' _⟩
  · have := hb5.w
    rw [wts_app, wts_app]
    simp only [wts]
    omega
  · have := hb5.dep
    rw [dep_app, dep_app]
    simp only [PyData.depthAll]
    omega
end
end Vf

set_option Elab.async false
set_option linter.all false
set_option maxRecDepth 100000
set_option maxHeartbeats 4000000
namespace Vf
open PySem PySem.Spec PyProof.Rows L2 L2.Vx Vs Vm Vd
abbrev sRightQ : Stmt := top 23
/-! ### one value -/
section
variable {K : PySem.W.Frag} {f : Addr} {fd : FuncData}
theorem kb_judge (F : Fun K "is_judge" "is_judge" sJudge f fd) : KBinds K fd ["letters", "thing"] ["thing", "letters"] gRev gRev := by
  obtain ⟨oc, od, kV, doc, pm, an, cdv, ct, osl, rfl, lk, hcd⟩ := F.ex
  refine ⟨fun s us ws _ hl => ?_, fun r1 r2 => gRev_vals r1 r2⟩
  match us, ws, hl with
  | [], [_, _], _ => exact .of_eq rfl
  | [], [], hl => exact absurd hl (by decide)
  | [], [_], hl => exact absurd hl (by simp [gRev])
  | [], _ :: _ :: _ :: _, hl => exact absurd hl (by simp [gRev])
  | _ :: _, _, hl => exact absurd hl (by simp [gRev])
end
def spRightQ : Sp := fun vs H Q _ => ∃ (sg : Wd) (v : V) (D : PyData) (N n e : Nat) (S : Addr → Prop), vs = [.str (mkS sg), v] ∧ Dt H S v D ∧ Bd N n e D ∧ N < 10 ^ 48 ∧ n ≤ 200000 ∧ e ≤ 50 ∧ ∀ H', Same H H' → Q (.bl true) H'
abbrev nRightQ : List Str := ["_law_abc", "_law_it", "_law_due", "_law_kept", "_law_told"]
theorem scRightQ : FnScope nRightQ ["_law_abc", "_law_it"] (defScope sRightQ) := ⟨rfl, rfl, rfl, by decide +kernel, rfl, by decide +kernel, by decide +kernel⟩
theorem len_rightQ : ∀ vs H Q E, spRightQ vs H Q E → vs.length = (["_law_abc", "_law_it"] : List Str).length := fun vs H Q E ⟨_, _, _, _, _, _, _, e, _⟩ => by
  rw [e]; rfl
theorem shows_two (b : Bool) : Shows (.list [.bool b, .bool b]) := by
  cases b
  · exact ⟨rfl, (by decide +kernel : (PyData.shown (.list [.bool false, .bool false])).length ≤ 1000000), by simp [PyData.depth, PyData.depthAll]⟩
  · exact ⟨rfl, (by decide +kernel : (PyData.shown (.list [.bool true, .bool true])).length ≤ 1000000), by simp [PyData.depth, PyData.depthAll]⟩
section
variable {P : Program} {w : World} {K : PySem.W.Frag} {mg : Str → Option Value} {base : Heap}
theorem ok_rightQ {f fI fJ : Addr} {fd fdI fdJ : FuncData} (F : Fun K "_law_right" "_law_right" sRightQ f fd) (hrep : mg "repr" = none)
    (GI : FnOk P w K mg base CX0 2 fI fdI ["_law_abc", "_law_it"] spJudgeQ) (bI : Binds K fdI ["_law_abc", "_law_it"] []) (kI' : PySem.W.keepIn K (.ref fI) = true) (mI : mg "_law_is_judge" = some (.ref fI))
    (GJ : FnOk P w K mg base CX0 4 fJ fdJ ["letters", "thing"] spJudgeQ) (bJ : Binds K fdJ ["letters", "thing"] []) (kJ : PySem.W.keepIn K (.ref fJ) = true) (qJ : KBinds K fdJ ["letters", "thing"] ["thing", "letters"] gRev gRev) (mJ : mg "is_judge" = some (.ref fJ)) :
    FnG P w K mg base 5 f fd ["_law_abc", "_law_it"] spRightQ := by
  refine FunG F scRightQ len_rightQ (fun cdv A outer s H vs Q E hr hg h => ?_)
  obtain ⟨sg, v, D, N, n, e, S, rfl, hd, hb, hN, hn, he, q⟩ := h
  have hr2 : Room 2 _ := hr.mono (by decide)
  have hu : (A.deeper (envOfC "_law_right" (defScope sRightQ) s.heap.objs.size f cdv)).units + 100 < cLine := by
    have z := hr.un
    omega
  have hw : wideD 100000 D := hb.wide (by omega)
  have hsh : Shows D := hb.shows hN (by omega) (by omega)
  refine ⟨_, pss_cons (ps_par (i := 2) (j := 3) rfl scRightQ.nd rfl rfl (by decide) rfl rfl (pa_cons (pe_call GI hr2 rfl mI kI' bI .nil pass0 (pa_cons (pv 0) (pa_cons (pv 1) pa_nil)))
      (pa_cons (pe_callB (call_rep hg hu (fun _ => True)) (by rfl) hrep (by decide +kernel) (pa_cons (pv 1) pa_nil)) pa_nil)) (by rfl))
    (pss_cons (ps_set (i := 4) scRightQ.nd rfl (Or.inl rfl) (pe_lst (pa_cons (pe_call GJ hr rfl mJ kJ bJ .nil pass0 (pa_cons (pv 0) (pa_cons (pv 1) pa_nil))) (pa_cons (pe_callK0 GJ hr mJ kJ qJ pass0 (pk_cons (pv 1) (pk_cons (pv 0) pk_nil))) pa_nil))))
    (pss_one (ps_ret (pe_and (pe_cmpR op_eq (pe_callB (call_rep hg hu (fun _ => True)) (by rfl) hrep (by decide +kernel) (pa_cons (pv 4) pa_nil))
        (pe_callB (call_rep hg hu (fun _ => True)) (by rfl) hrep (by decide +kernel) (pa_cons (pe_lst (pa_cons (pv 2) (pa_cons (pv 2) pa_nil))) pa_nil)) (nomark _))
      (pe_one (pe_cmpR op_eq (pe_callB (call_rep hg hu (fun _ => True)) (by rfl) hrep (by decide +kernel) (pa_cons (pv 1) pa_nil)) (pv 3) (nomark _))))))), ?_⟩
  refine ⟨_, rfl, _, rfl, sg, v, D, S, rfl, hd, hw, fun H1 s1 => ?_⟩
  refine ⟨_, rfl, _, D, rfl, dt_any (dt_same hd s1), hsh, _, _, rfl, ?_⟩
  refine ⟨_, rfl, _, rfl, sg, v, D, S, rfl, dt_same hd s1, hw, fun H2 s2 => ?_⟩
  refine ⟨_, rfl, _, rfl, sg, v, D, S, rfl, dt_same hd (s1.trans s2), hw, fun H3 s3 => ⟨(by show 2 ≤ sizeLine; decide), fun l hl => ?_⟩⟩
  have s4 := same_new hl (.lst [V.bl (judgeB sg D), V.bl (judgeB sg D)])
  have fl : FlatD (.bl (judgeB sg D)) (.bool (judgeB sg D)) := rfl
  refine ⟨_, rfl, _, _, rfl, .lst upd_same trivial (.cons (.flat fl) (.cons (.flat fl) .nil)), shows_two _, _, rfl, _, rfl, (by show 2 ≤ sizeLine; decide), fun l2 hl2 => ?_⟩
  have s5 := same_new hl2 (.lst [V.bl (judgeB sg D), V.bl (judgeB sg D)])
  refine ⟨_, _, rfl, .lst upd_same trivial (.cons (.flat fl) (.cons (.flat fl) .nil)), shows_two _, rfl, _, rfl, ?_⟩
  rw [decide_eq_true rfl]
  have s15 := ((((s1.trans s2).trans s3).trans s4).trans s5)
  refine if_tr rfl ?_
  refine ⟨_, rfl, _, D, rfl, dt_any (dt_same hd s15), hsh, _, rfl, rfl, ?_⟩
  rw [decide_eq_true rfl]
  exact q _ s15
end
end Vf

set_option Elab.async false
set_option linter.all false
set_option maxRecDepth 100000
set_option maxHeartbeats 4000000
namespace Vf
open PySem PySem.Spec PyProof.Rows L2 L2.Vx Vs Vm Vd
abbrev sLaw : Stmt := top 24
structure TxtL (mg : Str → Option Value) (fK fZ fB fT fR fJ : Addr) : Prop where
  deck : mg "_law_deck" = some (.ref fK)
  sizes : mg "_law_sizes" = some (.ref fZ)
  bars : mg "_law_bars" = some (.ref fB)
  bent : mg "_law_bent" = some (.ref fT)
  right : mg "_law_right" = some (.ref fR)
  judge : mg "is_judge" = some (.ref fJ)
  range : mg "range" = none
  list : mg "list" = none
def spLaw (K : PySem.W.Frag) : Sp := fun vs H Q _ => ∃ (a : Addr) (ns : List Int), vs = [.ref a] ∧ SqL K H a (ns.map V.int) ∧ ns.length ≤ 63 ∧ ∀ H', Q (.bl true) H'
theorem bd_words {N : Nat} {L : List Wd} (h : SmallL L) : Bd N 11780 1 (wordsD L) := by
  have one : ∀ L : List Wd, (∀ w ∈ L, w.length ≤ 4 ∧ ∀ c ∈ w, c < 1000) → okDs N (L.map fun z => PyData.str (mkS z)) ∧ wts (L.map fun z => PyData.str (mkS z)) ≤ 46 * L.length ∧ PyData.depthAll (L.map fun z => PyData.str (mkS z)) ≤ 0 := by
    intro L
    induction L with
    | nil => intro _; exact ⟨trivial, Nat.le_refl _, Nat.le_refl _⟩
    | cons z r ih =>
      intro h
      obtain ⟨a, b, c⟩ := ih fun w hw => h w (List.mem_cons_of_mem _ hw)
      obtain ⟨z1, z2⟩ := h z (List.mem_cons_self ..)
      have bs := bd_str (N := N) (n := 44) z2 (by omega)
      refine ⟨⟨bs.ok, a⟩, ?_, ?_⟩
      · have := bs.w
        simp only [List.map_cons, wts, List.length_cons]
        omega
      · have := bs.dep
        simp only [List.map_cons, PyData.depthAll]
        omega
  obtain ⟨a, b, c⟩ := one L h.2
  have := h.1
  exact bd_tup.2 ⟨a, by omega, c⟩
theorem bd_judge {N k : Nat} {S F L P : List Wd} (hk : k ≤ 4) (hN : 4 ≤ N) (h : SmallJ S F L P) : Bd N 47200 2 (judgeD k S F L P) := by
  have a := bd_words (N := N) h.s
  have b := bd_words (N := N) h.f
  have c := bd_words (N := N) h.l
  have d := bd_words (N := N) h.p
  have i := bdI (N := N) (n := 60) (i := (k : Int)) (by omega) (Nat.le_refl _)
  refine bd_tup.2 ⟨⟨i.ok, a.ok, b.ok, c.ok, d.ok, trivial⟩, ?_, ?_⟩
  · have := a.w
    have := b.w
    have := c.w
    have := d.w
    have := i.w
    simp only [wts]
    omega
  · have := a.dep
    have := b.dep
    have := c.dep
    have := d.dep
    have := i.dep
    simp only [PyData.depthAll]
    omega
section
variable {P : Program} {w : World} {K : PySem.W.Frag} {mg : Str → Option Value} {base : Heap} {fK fZ fB fT fR fJ : Addr} {fdK fdZ fdB fdT fdR fdJ : FuncData}
abbrev nLawQ : List Str := ["_law_script", "_law_deck_here", "_law_go", "_law_abc", "_law_wide", "_law_made", "_law_bent_here", "_law_some_here", "_law_it", "_law_good", "_law_bad"]
theorem scLawQ : FnScope nLawQ ["_law_script"] (defScope sLaw) := ⟨rfl, rfl, rfl, by decide +kernel, rfl, by decide +kernel, by decide +kernel⟩
theorem ok_law {f : Addr} {fd : FuncData} (F : Fun K "law" "law" sLaw f fd) (T : TxtL mg fK fZ fB fT fR fJ)
    (GK : FnOk P w K mg base CX0 1 fK fdK ["_law_script"] (spDeck K)) (bK : Binds K fdK ["_law_script"] []) (kK : PySem.W.keepIn K (.ref fK) = true)
    (GZ : FnOk P w K mg base CX0 3 fZ fdZ ["_law_deck_here"] spSizes) (bZ : Binds K fdZ ["_law_deck_here"] []) (kZ : PySem.W.keepIn K (.ref fZ) = true)
    (GB : FnOk P w K mg base CX0 3 fB fdB ["_law_deck_here", "_law_abc", "_law_wide"] spBars) (bB : Binds K fdB ["_law_deck_here", "_law_abc", "_law_wide"] []) (kB : PySem.W.keepIn K (.ref fB) = true)
    (GT : FnOk P w K mg base CX0 7 fT fdT ["_law_deck_here", "_law_abc", "_law_it"] (spBentQ 4)) (bT : Binds K fdT ["_law_deck_here", "_law_abc", "_law_it"] []) (kT : PySem.W.keepIn K (.ref fT) = true)
    (GR : FnG P w K mg base 5 fR fdR ["_law_abc", "_law_it"] spRightQ) (bR : Binds K fdR ["_law_abc", "_law_it"] []) (kR : PySem.W.keepIn K (.ref fR) = true)
    (GJ : FnOk P w K mg base CX0 4 fJ fdJ ["letters", "thing"] spJudgeQ) (bJ : Binds K fdJ ["letters", "thing"] []) (kJ : PySem.W.keepIn K (.ref fJ) = true) :
    FnG P w K mg base 8 f fd ["_law_script"] (spLaw K) := by
  refine FunG F scLawQ (fun vs H Q E h => ?_) (fun cdv A outer s H vs Q E hr hg h => ?_)
  · obtain ⟨a, ns, rfl, _⟩ := h
    rfl
  obtain ⟨a, ns, rfl, hS, h63, q⟩ := h
  have hr1 : Room 1 _ := hr.mono (by decide)
  have hr3 : Room 3 _ := hr.mono (by decide)
  have hr4 : Room 4 _ := hr.mono (by decide)
  have hr5 : Room 5 _ := hr.mono (by decide)
  have hu : (A.deeper (envOfC "law" (defScope sLaw) s.heap.objs.size f cdv)).units + 100 < cLine := by
    have z := hr.un
    omega
  have hu64 : (A.deeper (envOfC "law" (defScope sLaw) s.heap.objs.size f cdv)).units + 64 < cLine := by omega
  refine ⟨_, (pss_cons (ps_set (i := 1) scLawQ.nd rfl (Or.inl rfl) (pe_call GK hr1 rfl T.deck kK bK .nil pass0 (pa_cons (pv 0) pa_nil)))
    (pss_cons (ps_for PassesOwn.never rfl (pi_range1 rfl T.range (pa_cons pe_int pa_nil)) (pg_name (i := 2) scLawQ.nd rfl (Or.inl rfl)) (pss_cons (ps_asg (pe_call GZ hr3 rfl T.sizes kZ bZ .nil pass0 (pa_cons (pv 1) pa_nil)) (pg_tup rfl (pgs_cons (pg_name (i := 3) scLawQ.nd rfl (Or.inl rfl)) (pgs_cons (pg_name (i := 4) scLawQ.nd rfl (Or.inl rfl)) pgs_nil))))
    (pss_cons (ps_set (i := 5) scLawQ.nd rfl (Or.inl rfl) (pe_call GB hr3 rfl T.bars kB bB .nil pass0 (pa_cons (pv 1) (pa_cons (pv 3) (pa_cons (pv 4) pa_nil)))))
    (pss_cons (ps_set (i := 6) scLawQ.nd rfl (Or.inl rfl) (pe_call GT hr rfl T.bent kT bT .nil pass0 (pa_cons (pv 1) (pa_cons (pv 3) (pa_cons (pv 5) pa_nil)))))
    (pss_cons (ps_set (i := 7) scLawQ.nd rfl (Or.inl rfl) (pe_lst (pa_cons (pv 5) (pa_cons (pv 6) (pa_cons (pe_call GT hr rfl T.bent kT bT .nil pass0 (pa_cons (pv 1) (pa_cons (pv 3) (pa_cons (pv 6) pa_nil)))) (pa_cons (pe_call GT hr rfl T.bent kT bT .nil pass0 (pa_cons (pv 1) (pa_cons (pv 3) (pa_cons (pv 5) pa_nil)))) (pa_cons (pe_tup (pa_cons (pv 5) pa_nil)) (pa_cons (pe_slice sl_tupA (pv 5) (po_some pe_int) po_none) (pa_cons (pe_callTy call_list_of (by rfl) T.list (by decide +kernel) (pa_cons (pv 5) pa_nil)) pa_nil)))))))))
    (pss_one (ps_for PassesOwn.never rfl (pi_list (pv 7)) (pg_name (i := 8) scLawQ.nd rfl (Or.inl rfl)) (pss_one (ps_if (pt_not (pt_val (pe_callG GR len_rightQ hg hr5 rfl T.right kR bR .nil pass0 (pa_cons (pv 3) (pa_cons (pv 8) pa_nil))))) (pss_one (ps_ret pe_bl)) pss_nil)))))))))
    (pss_cons (ps_set (i := 9) scLawQ.nd rfl (Or.inl rfl) (pe_lst (pa_cons (pe_tup (pa_cons (pe_op op_pow pe_int pe_int) (pa_cons (pe_tup (pa_cons pe_str (pa_cons pe_str pa_nil))) (pa_cons (pe_tup pa_nil) (pa_cons (pe_tup pa_nil) (pa_cons (pe_tup pa_nil) pa_nil)))))) (pa_cons (pe_tup (pa_cons pe_int (pa_cons (pe_tup (pa_cons pe_str pa_nil)) (pa_cons (pe_tup (pa_cons pe_str pa_nil)) (pa_cons (pe_tup (pa_cons pe_str pa_nil)) (pa_cons (pe_tup (pa_cons pe_str (pa_cons pe_str pa_nil))) pa_nil)))))) (pa_cons (pe_tup (pa_cons pe_int (pa_cons (pe_tup pa_nil) (pa_cons (pe_tup pa_nil) (pa_cons (pe_tup pa_nil) (pa_cons (pe_tup pa_nil) pa_nil)))))) pa_nil)))))
    (pss_cons (ps_expr (pe_bm PySem.F.plainAttrs_list PySem.F.slot_list_append PySem.F.type_list_append mt_append (pv 9) (pa_cons (pe_tup (pa_cons pe_int (pa_cons (pe_tup (pa_cons pe_str (pa_cons pe_str (pa_cons pe_str pa_nil)))) (pa_cons (pe_tup (pa_cons pe_str (pa_cons pe_str pa_nil))) (pa_cons (pe_tup (pa_cons pe_str pa_nil)) (pa_cons (pe_tup (pa_cons pe_str (pa_cons pe_str pa_nil))) pa_nil)))))) pa_nil)))
    (pss_cons (ps_set (i := 10) scLawQ.nd rfl (Or.inl rfl) (pe_lst (pa_cons (pe_tup (pa_cons pe_int (pa_cons (pe_tup (pa_cons pe_str pa_nil)) (pa_cons (pe_tup pa_nil) (pa_cons (pe_tup (pa_cons pe_str pa_nil)) (pa_cons (pe_tup (pa_cons pe_str (pa_cons pe_str pa_nil))) pa_nil)))))) (pa_cons (pe_tup (pa_cons pe_int (pa_cons (pe_tup (pa_cons pe_str (pa_cons pe_str pa_nil))) (pa_cons (pe_tup pa_nil) (pa_cons (pe_tup pa_nil) (pa_cons (pe_tup pa_nil) pa_nil)))))) (pa_cons (pe_tup (pa_cons pe_int (pa_cons (pe_tup (pa_cons pe_str pa_nil)) (pa_cons (pe_tup pa_nil) (pa_cons (pe_tup pa_nil) (pa_cons (pe_tup pa_nil) pa_nil)))))) pa_nil)))))
    (pss_cons (ps_set (i := 10) scLawQ.nd rfl (Or.inl rfl) (pe_op op_cat (pv 10) (pe_lst (pa_cons (pe_tup (pa_cons pe_int (pa_cons (pe_tup pa_nil) (pa_cons (pe_tup pa_nil) (pa_cons (pe_tup pa_nil) (pa_cons (pe_tup pa_nil) pa_nil)))))) (pa_cons (pe_tup (pa_cons pe_bl (pa_cons (pe_tup (pa_cons pe_str pa_nil)) (pa_cons (pe_tup (pa_cons pe_str pa_nil)) (pa_cons (pe_tup (pa_cons pe_str pa_nil)) (pa_cons (pe_tup (pa_cons pe_str pa_nil)) pa_nil)))))) (pa_cons (pe_tup (pa_cons pe_int (pa_cons (pe_tup pa_nil) (pa_cons (pe_tup (pa_cons pe_str pa_nil)) (pa_cons (pe_tup pa_nil) (pa_cons (pe_tup pa_nil) pa_nil)))))) pa_nil))))))
    (pss_cons (ps_set (i := 10) scLawQ.nd rfl (Or.inl rfl) (pe_op op_cat (pv 10) (pe_lst (pa_cons (pe_tup (pa_cons pe_int (pa_cons (pe_tup pa_nil) (pa_cons (pe_tup pa_nil) (pa_cons (pe_tup pa_nil) (pa_cons (pe_tup (pa_cons pe_str pa_nil)) pa_nil)))))) (pa_cons pe_non (pa_cons pe_str (pa_cons (pe_tup pa_nil) pa_nil)))))))
    (pss_cons (ps_set (i := 10) scLawQ.nd rfl (Or.inl rfl) (pe_op op_cat (pv 10) (pe_lst (pa_cons (pe_tup (pa_cons pe_int (pa_cons (pe_tup (pa_cons pe_str (pa_cons pe_str (pa_cons pe_str pa_nil)))) (pa_cons (pe_tup pa_nil) (pa_cons (pe_tup pa_nil) (pa_cons (pe_tup pa_nil) pa_nil)))))) (pa_cons (pe_tup (pa_cons pe_int (pa_cons (pe_tup pa_nil) (pa_cons (pe_tup (pa_cons pe_str (pa_cons pe_str pa_nil))) (pa_cons (pe_tup pa_nil) (pa_cons (pe_tup pa_nil) pa_nil)))))) (pa_cons (pe_tup (pa_cons pe_int (pa_cons (pe_tup pa_nil) (pa_cons (pe_tup pa_nil) (pa_cons (pe_tup (pa_cons pe_str pa_nil)) (pa_cons (pe_tup pa_nil) pa_nil)))))) pa_nil))))))
    (pss_cons (ps_if (pt_cmpR (op_neNil hu64) (pe_lc (own := [("_law_it", 8)]) (g := gName 8) (tt := _) rfl scLawQ.nd (pi_list (pv 9)) (blkOk_by (N := nLawQ) (sc := defScope sLaw) (by decide +kernel)) (fun _ _ _ _ _ => pg_name (i := 8) scLawQ.nd rfl (Or.inl rfl)) (fun _ _ _ _ _ => pts_one (pt_cmpR op_notBl (pe_call GJ hr4 rfl T.judge kJ bJ .nil pass0 (pa_cons pe_str (pa_cons (pv 8) pa_nil))) pe_bl (nomark _))) (fun _ _ _ _ _ => by exact pv 8)) (pe_lst pa_nil) (nomark _)) (pss_one (ps_ret pe_bl)) pss_nil)
    (pss_one (ps_ret (pe_cmpR (op_eqNil hu64) (pe_lc (own := [("_law_it", 8)]) (g := gName 8) (tt := _) rfl scLawQ.nd (pi_list (pv 10)) (blkOk_by (N := nLawQ) (sc := defScope sLaw) (by decide +kernel)) (fun _ _ _ _ _ => pg_name (i := 8) scLawQ.nd rfl (Or.inl rfl)) (fun _ _ _ _ _ => pts_one (pt_cmpR op_notBl (pe_call GJ hr4 rfl T.judge kJ bJ .nil pass0 (pa_cons pe_str (pa_cons (pv 8) pa_nil))) pe_bl (nomark _))) (fun _ _ _ _ _ => by exact pv 8)) (pe_lst pa_nil) (nomark _))))))))))))), ?_⟩
  refine ⟨_, rfl, a, ns, rfl, hS, h63, fun d g H1 s1 nd ng hD1 => ?_⟩
  refine ⟨6, rfl, by decide, by decide, for_range (lo := 0) (n := 6) (fun i σ H' => ∃ v2 v3 v4 v5 v6 v7 v8, σ = [some (.ref a), some (.ref d), v2, v3, v4, v5, v6, v7, v8, none, none] ∧ DeckAt (3000 * i) H' d g) ⟨none, none, none, none, none, none, none, rfl, hD1⟩ ?_ ?_⟩
  · rintro i σ H' hi ⟨v2, v3, v4, v5, v6, v7, v8, rfl, hD'⟩
    have hm : 3000 * i + 3000 ≤ most := by unfold most; omega
    generalize hc0 : 3000 * i = c at hD' hm
    refine ⟨_, rfl, d, g, c, rfl, hD', by omega, fun sg k p H2 gs k1 k4 hp hD2 kp => ?_⟩
    refine ⟨p, _, rfl, SqT.of hp, rfl, _, _, rfl, _, _, rfl, rfl, ?_⟩
    refine ⟨_, rfl, _, rfl, _, rfl, d, g, sg, k, c + 2, rfl, gs, k1, k4, hD2, by omega, fun S Fi L Pc j H3 hJ sj hD3 kb => ?_⟩
    have hbj := bd_judge (N := 10 ^ 39) k4 (by decide) sj
    obtain ⟨dj, hDJ⟩ : ∃ ds, judgeD k S Fi L Pc = .tuple ds := ⟨_, rfl⟩
    rw [hDJ] at hJ hbj
    refine ⟨_, rfl, _, rfl, _, rfl, d, g, sg, _, .tuple dj, 10 ^ 39, _, 2, _, rfl, gs, hJ, hbj, by decide, Nat.le_refl _, by decide, hD3, by omega, fun w6 D6 H4 h6 hb6 hD4 k34 => ?_⟩
    have hJ4 := keep_dt k34 hJ
    refine ⟨_, rfl, _, rfl, ?_⟩
    refine ⟨_, rfl, _, rfl, _, rfl, d, g, sg, _, D6, 10 ^ 39 + 1, _, 3, _, rfl, gs, h6, hb6, by decide, by decide, by decide, hD4, by omega, fun w7 D7 H5 h7 hb7 hD5 k45 => ?_⟩
    have hJ5 := keep_dt k45 hJ4
    refine ⟨_, rfl, _, rfl, _, rfl, d, g, sg, _, .tuple dj, 10 ^ 39, _, 2, _, rfl, gs, hJ5, hbj, by decide, Nat.le_refl _, by decide, hD5, by omega, fun w8 D8 H6 h8 hb8 hD6 k56 => ?_⟩
    have hJ6 := keep_dt k56 hJ5
    refine ⟨_, rfl, (by show 1 ≤ sizeLine; decide), fun t ht => ?_⟩
    have st := same_new ht (.tup [V.ref j])
    have et : upd H6 t (.tup [V.ref j]) t = some (.tup [V.ref j]) := upd_same
    have hD7 := hD6.same st
    have ot := hD6.dn ht
    generalize upd H6 t (.tup [V.ref j]) = H7 at st et hD7 ⊢
    have hJ7 := dt_same hJ6 st
    have h9 : Dt H7 (fun a => a ≠ d ∧ a ≠ g) (.ref t) (.tuple [.tuple dj]) := .tup et ot (.cons hJ7 .nil)
    have hn7 : ∀ p, H7 p = none → p ≠ d ∧ p ≠ g := fun p hp => hD7.dn hp
    obtain ⟨j', xj, ej, eaj, oj, daj⟩ := dt_tup hJ7
    cases ej
    have slN : ∀ (σ : L2.St) (Qx : V → Hp → Prop), (∀ v H', Same H7 H' → Dt H' (fun a => a ≠ d ∧ a ≠ g) v (.tuple (cutG dj (some 1) none)) → Qx v H') → tNoPart σ H7 (fun u H' => rSlA K (.ref j) (some 1) u H' Qx) := fun σ Qx qx => sl_dt eaj oj daj hn7 qx
    refine ⟨_, rfl, _, rfl, slN _ _ fun w9 H8 s8 h10 => ?_⟩
    rw [show ((1 : Int)) = ((1 : Nat) : Int) from rfl, cutG_from] at h10
    have hD8 := hD7.same s8
    have da8 := dtA_same daj s8
    refine ⟨_, rfl, j, xj, rfl, .inr (SqT.of (s8 _ _ eaj)), fun l hl => ?_⟩
    have sl := same_new hl (.lst xj)
    have el : upd H8 l (.lst xj) l = some (.lst xj) := upd_same
    have ol := hD8.dn hl
    have hD9 := hD8.same sl
    generalize upd H8 l (.lst xj) = H9 at sl el hD9 ⊢
    have h11 : Dt H9 (fun a => a ≠ d ∧ a ≠ g) (.ref l) (.list dj) := .lst el ol (dtA_same da8 sl)
    refine ⟨(by show 7 ≤ sizeLine; decide), fun u hu => ?_⟩
    have su := same_new hu (.lst [V.ref j, w6, w7, w8, V.ref t, w9, V.ref l])
    have eu : upd H9 u (.lst [V.ref j, w6, w7, w8, V.ref t, w9, V.ref l]) u = some (.lst [V.ref j, w6, w7, w8, V.ref t, w9, V.ref l]) := upd_same
    have ou := hD9.dn hu
    have hDa := hD9.same su
    have s79 : Same H7 H9 := s8.trans sl
    obtain ⟨okj, wj, dpj⟩ := bd_tup.1 hbj
    have items : ∀ x ∈ [V.ref j, w6, w7, w8, V.ref t, w9, V.ref l], ∃ D, Dt (upd H9 u (.lst [V.ref j, w6, w7, w8, V.ref t, w9, V.ref l])) (fun a => a ≠ d ∧ a ≠ g) x D ∧ Bd (10 ^ 39 + 2) 200000 10 D := by
      have c1 := dt_same hJ7 (s79.trans su)
      have c2 := keep_dt ((k45.trans k56).trans (Keeps.of (st.trans (s79.trans su)))) h6
      have c3 := keep_dt (k56.trans (Keeps.of (st.trans (s79.trans su)))) h7
      have c4 := dt_same h8 (st.trans (s79.trans su))
      have c5 := dt_same h9 (s79.trans su)
      have c6 := dt_same h10 (sl.trans su)
      have c7 := dt_same h11 su
      refine List.forall_mem_cons.2 ⟨⟨_, c1, hbj.le (by decide) (by decide) (by decide)⟩, ?_⟩
      refine List.forall_mem_cons.2 ⟨⟨_, c2, hb6.le (by decide) (by decide) (by decide)⟩, ?_⟩
      refine List.forall_mem_cons.2 ⟨⟨_, c3, hb7.le (by decide) (by decide) (by decide)⟩, ?_⟩
      refine List.forall_mem_cons.2 ⟨⟨_, c4, hb8.le (by decide) (by decide) (by decide)⟩, ?_⟩
      refine List.forall_mem_cons.2 ⟨⟨_, c5, (bdT1 (m := 200000) hbj (by decide)).le (by decide) (by decide) (by decide)⟩, ?_⟩
      refine List.forall_mem_cons.2 ⟨⟨_, c6, (bd_tup.2 ⟨ok_drop okj 1, by have := wts_cut dj 1; omega, dep_drop dpj 1⟩ : Bd (10 ^ 39) 47200 2 _).le (by decide) (by decide) (by decide)⟩, ?_⟩
      exact List.forall_mem_cons.2 ⟨⟨_, c7, (⟨okDs.le (by decide) okj, by show wts dj + 4 ≤ _; omega, by simp only [PyData.depth]; omega⟩ : Bd (10 ^ 39 + 2) 200000 10 (.list dj))⟩, fun x z => nomatch z⟩
    generalize [V.ref j, w6, w7, w8, V.ref t, w9, V.ref l] = vs at eu items hDa ⊢
    generalize upd H9 u (.lst vs) = Ha at eu items hDa ⊢
    refine ⟨_, rfl, u, rfl, ⟨_, SqL.of eu⟩, for_list (K := K) (a := u) (xs := vs) (fun i' σ H' => ∃ v8, σ = [some (.ref a), some (.ref d), some (.int (0 + (i : Nat))), some (.str (mkS sg)), some (.int k), some (.ref j), some w6, some (.ref u), v8, none, none] ∧ Same Ha H') ⟨_, rfl, Same.refl _⟩ (fun i σ H' _ ⟨_, _, s⟩ => SqL.of (s _ _ eu)) ?_ ?_⟩
    · rintro i' x σ Hb hx ⟨v8', rfl, sb⟩
      obtain ⟨D, c1, c2⟩ := items x (List.mem_of_getElem? hx)
      refine ⟨_, rfl, _, rfl, sg, x, D, _, _, _, _, rfl, dt_same c1 sb, c2, by decide, Nat.le_refl _, by decide, fun Hc sc => ⟨_, rfl, if_fl rfl ⟨_, rfl, sb.trans sc⟩⟩⟩
    · rintro σ Hb ⟨v8', rfl, sb⟩
      exact ⟨_, _, _, _, _, _, _, rfl, (hDa.same sb).le (by omega)⟩
  rintro σ G0 ⟨v2, v3, v4, v5, v6, v7, v8, rfl, hD2⟩
  refine ⟨_, _, rfl, rfl, ⟨by decide, by decide, by decide⟩, (by show 2 ≤ sizeLine; decide), fun x1 xh1 => ?_⟩
  have xs1 : Same G0 (upd G0 x1 (.tup [V.str "a", V.str "b"])) := same_new xh1 _
  have xe1 : upd G0 x1 (.tup [V.str "a", V.str "b"]) x1 = some (.tup [V.str "a", V.str "b"]) := upd_same
  have xo1 := True.intro
  generalize upd G0 x1 (.tup [V.str "a", V.str "b"]) = xJ1 at xs1 xe1  ⊢
  refine ⟨(by show 0 ≤ sizeLine; decide), fun x2 xh2 => ?_⟩
  have xs2 : Same xJ1 (upd xJ1 x2 (.tup [])) := same_new xh2 _
  have xe2 : upd xJ1 x2 (.tup []) x2 = some (.tup []) := upd_same
  have xo2 := True.intro
  generalize upd xJ1 x2 (.tup []) = xJ2 at xs2 xe2  ⊢
  refine ⟨(by show 0 ≤ sizeLine; decide), fun x3 xh3 => ?_⟩
  have xs3 : Same xJ2 (upd xJ2 x3 (.tup [])) := same_new xh3 _
  have xe3 : upd xJ2 x3 (.tup []) x3 = some (.tup []) := upd_same
  have xo3 := True.intro
  generalize upd xJ2 x3 (.tup []) = xJ3 at xs3 xe3  ⊢
  refine ⟨(by show 0 ≤ sizeLine; decide), fun x4 xh4 => ?_⟩
  have xs4 : Same xJ3 (upd xJ3 x4 (.tup [])) := same_new xh4 _
  have xe4 : upd xJ3 x4 (.tup []) x4 = some (.tup []) := upd_same
  have xo4 := True.intro
  generalize upd xJ3 x4 (.tup []) = xJ4 at xs4 xe4  ⊢
  refine ⟨(by show 5 ≤ sizeLine; decide), fun x5 xh5 => ?_⟩
  have xs5 : Same xJ4 (upd xJ4 x5 (.tup [(fun (i j : Int) => V.int (i ^ j.toNat)) 10 30, V.ref x1, V.ref x2, V.ref x3, V.ref x4])) := same_new xh5 _
  have xe5 : upd xJ4 x5 (.tup [(fun (i j : Int) => V.int (i ^ j.toNat)) 10 30, V.ref x1, V.ref x2, V.ref x3, V.ref x4]) x5 = some (.tup [(fun (i j : Int) => V.int (i ^ j.toNat)) 10 30, V.ref x1, V.ref x2, V.ref x3, V.ref x4]) := upd_same
  have xo5 := True.intro
  generalize upd xJ4 x5 (.tup [(fun (i j : Int) => V.int (i ^ j.toNat)) 10 30, V.ref x1, V.ref x2, V.ref x3, V.ref x4]) = xJ5 at xs5 xe5  ⊢
  refine ⟨(by show 1 ≤ sizeLine; decide), fun x6 xh6 => ?_⟩
  have xs6 : Same xJ5 (upd xJ5 x6 (.tup [V.str ""])) := same_new xh6 _
  have xe6 : upd xJ5 x6 (.tup [V.str ""]) x6 = some (.tup [V.str ""]) := upd_same
  have xo6 := True.intro
  generalize upd xJ5 x6 (.tup [V.str ""]) = xJ6 at xs6 xe6  ⊢
  refine ⟨(by show 1 ≤ sizeLine; decide), fun x7 xh7 => ?_⟩
  have xs7 : Same xJ6 (upd xJ6 x7 (.tup [V.str ""])) := same_new xh7 _
  have xe7 : upd xJ6 x7 (.tup [V.str ""]) x7 = some (.tup [V.str ""]) := upd_same
  have xo7 := True.intro
  generalize upd xJ6 x7 (.tup [V.str ""]) = xJ7 at xs7 xe7  ⊢
  refine ⟨(by show 1 ≤ sizeLine; decide), fun x8 xh8 => ?_⟩
  have xs8 : Same xJ7 (upd xJ7 x8 (.tup [V.str ""])) := same_new xh8 _
  have xe8 : upd xJ7 x8 (.tup [V.str ""]) x8 = some (.tup [V.str ""]) := upd_same
  have xo8 := True.intro
  generalize upd xJ7 x8 (.tup [V.str ""]) = xJ8 at xs8 xe8  ⊢
  refine ⟨(by show 2 ≤ sizeLine; decide), fun x9 xh9 => ?_⟩
  have xs9 : Same xJ8 (upd xJ8 x9 (.tup [V.str "a", V.str "b"])) := same_new xh9 _
  have xe9 : upd xJ8 x9 (.tup [V.str "a", V.str "b"]) x9 = some (.tup [V.str "a", V.str "b"]) := upd_same
  have xo9 := True.intro
  generalize upd xJ8 x9 (.tup [V.str "a", V.str "b"]) = xJ9 at xs9 xe9  ⊢
  refine ⟨(by show 5 ≤ sizeLine; decide), fun x10 xh10 => ?_⟩
  have xs10 : Same xJ9 (upd xJ9 x10 (.tup [V.int 1, V.ref x6, V.ref x7, V.ref x8, V.ref x9])) := same_new xh10 _
  have xe10 : upd xJ9 x10 (.tup [V.int 1, V.ref x6, V.ref x7, V.ref x8, V.ref x9]) x10 = some (.tup [V.int 1, V.ref x6, V.ref x7, V.ref x8, V.ref x9]) := upd_same
  have xo10 := True.intro
  generalize upd xJ9 x10 (.tup [V.int 1, V.ref x6, V.ref x7, V.ref x8, V.ref x9]) = xJ10 at xs10 xe10  ⊢
  refine ⟨(by show 0 ≤ sizeLine; decide), fun x11 xh11 => ?_⟩
  have xs11 : Same xJ10 (upd xJ10 x11 (.tup [])) := same_new xh11 _
  have xe11 : upd xJ10 x11 (.tup []) x11 = some (.tup []) := upd_same
  have xo11 := True.intro
  generalize upd xJ10 x11 (.tup []) = xJ11 at xs11 xe11  ⊢
  refine ⟨(by show 0 ≤ sizeLine; decide), fun x12 xh12 => ?_⟩
  have xs12 : Same xJ11 (upd xJ11 x12 (.tup [])) := same_new xh12 _
  have xe12 : upd xJ11 x12 (.tup []) x12 = some (.tup []) := upd_same
  have xo12 := True.intro
  generalize upd xJ11 x12 (.tup []) = xJ12 at xs12 xe12  ⊢
  refine ⟨(by show 0 ≤ sizeLine; decide), fun x13 xh13 => ?_⟩
  have xs13 : Same xJ12 (upd xJ12 x13 (.tup [])) := same_new xh13 _
  have xe13 : upd xJ12 x13 (.tup []) x13 = some (.tup []) := upd_same
  have xo13 := True.intro
  generalize upd xJ12 x13 (.tup []) = xJ13 at xs13 xe13  ⊢
  refine ⟨(by show 0 ≤ sizeLine; decide), fun x14 xh14 => ?_⟩
  have xs14 : Same xJ13 (upd xJ13 x14 (.tup [])) := same_new xh14 _
  have xe14 : upd xJ13 x14 (.tup []) x14 = some (.tup []) := upd_same
  have xo14 := True.intro
  generalize upd xJ13 x14 (.tup []) = xJ14 at xs14 xe14  ⊢
  refine ⟨(by show 5 ≤ sizeLine; decide), fun x15 xh15 => ?_⟩
  have xs15 : Same xJ14 (upd xJ14 x15 (.tup [V.int 1, V.ref x11, V.ref x12, V.ref x13, V.ref x14])) := same_new xh15 _
  have xe15 : upd xJ14 x15 (.tup [V.int 1, V.ref x11, V.ref x12, V.ref x13, V.ref x14]) x15 = some (.tup [V.int 1, V.ref x11, V.ref x12, V.ref x13, V.ref x14]) := upd_same
  have xo15 := True.intro
  generalize upd xJ14 x15 (.tup [V.int 1, V.ref x11, V.ref x12, V.ref x13, V.ref x14]) = xJ15 at xs15 xe15  ⊢
  refine ⟨(by show 3 ≤ sizeLine; decide), fun xl xh => ?_⟩
  have xs := same_new xh (.lst [V.ref x5, V.ref x10, V.ref x15])
  have xe := upd_same (H := xJ15) (a := xl) (o := .lst [V.ref x5, V.ref x10, V.ref x15])
  have xt : Same G0 xJ15 := ((((((((((((((xs1).trans xs2).trans xs3).trans xs4).trans xs5).trans xs6).trans xs7).trans xs8).trans xs9).trans xs10).trans xs11).trans xs12).trans xs13).trans xs14).trans xs15
  have xk : ∀ x ∈ [V.ref x5, V.ref x10, V.ref x15], ∃ D, Dt xJ15 (fun _ => True) x D ∧ (wideD 100000 D ∧ judgeB [97, 98] D = true) := by
    refine List.forall_mem_cons.2 ⟨⟨(PyData.tuple [(.int (10 ^ 30)), (PyData.tuple [(.str "a"), (.str "b")]), (PyData.tuple []), (PyData.tuple []), (PyData.tuple [])]), (.tup (xs15 _ _ (xs14 _ _ (xs13 _ _ (xs12 _ _ (xs11 _ _ (xs10 _ _ (xs9 _ _ (xs8 _ _ (xs7 _ _ (xs6 _ _ xe5)))))))))) xo5 (.cons (.flat rfl) (.cons (.tup (xs15 _ _ (xs14 _ _ (xs13 _ _ (xs12 _ _ (xs11 _ _ (xs10 _ _ (xs9 _ _ (xs8 _ _ (xs7 _ _ (xs6 _ _ (xs5 _ _ (xs4 _ _ (xs3 _ _ (xs2 _ _ xe1)))))))))))))) xo1 (.cons (.flat rfl) (.cons (.flat rfl) .nil))) (.cons (.tup (xs15 _ _ (xs14 _ _ (xs13 _ _ (xs12 _ _ (xs11 _ _ (xs10 _ _ (xs9 _ _ (xs8 _ _ (xs7 _ _ (xs6 _ _ (xs5 _ _ (xs4 _ _ (xs3 _ _ xe2))))))))))))) xo2 .nil) (.cons (.tup (xs15 _ _ (xs14 _ _ (xs13 _ _ (xs12 _ _ (xs11 _ _ (xs10 _ _ (xs9 _ _ (xs8 _ _ (xs7 _ _ (xs6 _ _ (xs5 _ _ (xs4 _ _ xe3)))))))))))) xo3 .nil) (.cons (.tup (xs15 _ _ (xs14 _ _ (xs13 _ _ (xs12 _ _ (xs11 _ _ (xs10 _ _ (xs9 _ _ (xs8 _ _ (xs7 _ _ (xs6 _ _ (xs5 _ _ xe4))))))))))) xo4 .nil) .nil)))))), ⟨wideD_le (by decide +kernel : wt (PyData.tuple [(.int (10 ^ 30)), (PyData.tuple [(.str "a"), (.str "b")]), (PyData.tuple []), (PyData.tuple []), (PyData.tuple [])]) / 2 ≤ 100000) wide_wt, (by decide +kernel : judgeB [97, 98] (PyData.tuple [(.int (10 ^ 30)), (PyData.tuple [(.str "a"), (.str "b")]), (PyData.tuple []), (PyData.tuple []), (PyData.tuple [])]) = true)⟩⟩, ?_⟩
    refine List.forall_mem_cons.2 ⟨⟨(PyData.tuple [(.int 1), (PyData.tuple [(.str "")]), (PyData.tuple [(.str "")]), (PyData.tuple [(.str "")]), (PyData.tuple [(.str "a"), (.str "b")])]), (.tup (xs15 _ _ (xs14 _ _ (xs13 _ _ (xs12 _ _ (xs11 _ _ xe10))))) xo10 (.cons (.flat rfl) (.cons (.tup (xs15 _ _ (xs14 _ _ (xs13 _ _ (xs12 _ _ (xs11 _ _ (xs10 _ _ (xs9 _ _ (xs8 _ _ (xs7 _ _ xe6))))))))) xo6 (.cons (.flat rfl) .nil)) (.cons (.tup (xs15 _ _ (xs14 _ _ (xs13 _ _ (xs12 _ _ (xs11 _ _ (xs10 _ _ (xs9 _ _ (xs8 _ _ xe7)))))))) xo7 (.cons (.flat rfl) .nil)) (.cons (.tup (xs15 _ _ (xs14 _ _ (xs13 _ _ (xs12 _ _ (xs11 _ _ (xs10 _ _ (xs9 _ _ xe8))))))) xo8 (.cons (.flat rfl) .nil)) (.cons (.tup (xs15 _ _ (xs14 _ _ (xs13 _ _ (xs12 _ _ (xs11 _ _ (xs10 _ _ xe9)))))) xo9 (.cons (.flat rfl) (.cons (.flat rfl) .nil))) .nil)))))), ⟨wideD_le (by decide +kernel : wt (PyData.tuple [(.int 1), (PyData.tuple [(.str "")]), (PyData.tuple [(.str "")]), (PyData.tuple [(.str "")]), (PyData.tuple [(.str "a"), (.str "b")])]) / 2 ≤ 100000) wide_wt, (by decide +kernel : judgeB [97, 98] (PyData.tuple [(.int 1), (PyData.tuple [(.str "")]), (PyData.tuple [(.str "")]), (PyData.tuple [(.str "")]), (PyData.tuple [(.str "a"), (.str "b")])]) = true)⟩⟩, ?_⟩
    refine List.forall_mem_cons.2 ⟨⟨(PyData.tuple [(.int 1), (PyData.tuple []), (PyData.tuple []), (PyData.tuple []), (PyData.tuple [])]), (.tup xe15 xo15 (.cons (.flat rfl) (.cons (.tup (xs15 _ _ (xs14 _ _ (xs13 _ _ (xs12 _ _ xe11)))) xo11 .nil) (.cons (.tup (xs15 _ _ (xs14 _ _ (xs13 _ _ xe12))) xo12 .nil) (.cons (.tup (xs15 _ _ (xs14 _ _ xe13)) xo13 .nil) (.cons (.tup (xs15 _ _ xe14) xo14 .nil) .nil)))))), ⟨wideD_le (by decide +kernel : wt (PyData.tuple [(.int 1), (PyData.tuple []), (PyData.tuple []), (PyData.tuple []), (PyData.tuple [])]) / 2 ≤ 100000) wide_wt, (by decide +kernel : judgeB [97, 98] (PyData.tuple [(.int 1), (PyData.tuple []), (PyData.tuple []), (PyData.tuple []), (PyData.tuple [])]) = true)⟩⟩, fun x z => nomatch z⟩
  have xf : ∀ x ∈ [V.ref x5, V.ref x10, V.ref x15], ∃ D, Dt (upd xJ15 xl (.lst [V.ref x5, V.ref x10, V.ref x15])) (fun a => a ≠ xl) x D ∧ (wideD 100000 D ∧ judgeB [97, 98] D = true) := fun x hx => by
    obtain ⟨D, h1, h2⟩ := xk x hx
    exact ⟨D, h1.mono (fun a o _ e => xs _ _ e) (fun a o _ e => ne_of_none e xh), h2⟩
  have xn : [V.ref x5, V.ref x10, V.ref x15].length ≤ 5 := by show 3 ≤ 5; decide
  clear xk xs
  generalize [V.ref x5, V.ref x10, V.ref x15] = xv at xe xf xn ⊢
  generalize upd xJ15 xl (.lst xv) = G1 at xe xf ⊢
  refine ⟨_, rfl, .inl ⟨rfl, _, SqL.of xe⟩, (by show 3 ≤ sizeLine; decide), fun y1 yh1 => ?_⟩
  have ys1 : Same G1 (upd G1 y1 (.tup [V.str "", V.str "b", V.str "aa"])) := same_new yh1 _
  have ye1 : upd G1 y1 (.tup [V.str "", V.str "b", V.str "aa"]) y1 = some (.tup [V.str "", V.str "b", V.str "aa"]) := upd_same
  have yo1 := (ne_of_none xe yh1).symm
  have yq1 := ys1 _ _ xe
  generalize upd G1 y1 (.tup [V.str "", V.str "b", V.str "aa"]) = yJ1 at ys1 ye1 yq1 ⊢
  refine ⟨(by show 2 ≤ sizeLine; decide), fun y2 yh2 => ?_⟩
  have ys2 : Same yJ1 (upd yJ1 y2 (.tup [V.str "ab", V.str "ba"])) := same_new yh2 _
  have ye2 : upd yJ1 y2 (.tup [V.str "ab", V.str "ba"]) y2 = some (.tup [V.str "ab", V.str "ba"]) := upd_same
  have yo2 := (ne_of_none yq1 yh2).symm
  have yq2 := ys2 _ _ yq1
  generalize upd yJ1 y2 (.tup [V.str "ab", V.str "ba"]) = yJ2 at ys2 ye2 yq2 ⊢
  refine ⟨(by show 1 ≤ sizeLine; decide), fun y3 yh3 => ?_⟩
  have ys3 : Same yJ2 (upd yJ2 y3 (.tup [V.str "bb"])) := same_new yh3 _
  have ye3 : upd yJ2 y3 (.tup [V.str "bb"]) y3 = some (.tup [V.str "bb"]) := upd_same
  have yo3 := (ne_of_none yq2 yh3).symm
  have yq3 := ys3 _ _ yq2
  generalize upd yJ2 y3 (.tup [V.str "bb"]) = yJ3 at ys3 ye3 yq3 ⊢
  refine ⟨(by show 2 ≤ sizeLine; decide), fun y4 yh4 => ?_⟩
  have ys4 : Same yJ3 (upd yJ3 y4 (.tup [V.str "aba", V.str "bab"])) := same_new yh4 _
  have ye4 : upd yJ3 y4 (.tup [V.str "aba", V.str "bab"]) y4 = some (.tup [V.str "aba", V.str "bab"]) := upd_same
  have yo4 := (ne_of_none yq3 yh4).symm
  have yq4 := ys4 _ _ yq3
  generalize upd yJ3 y4 (.tup [V.str "aba", V.str "bab"]) = yJ4 at ys4 ye4 yq4 ⊢
  refine ⟨(by show 5 ≤ sizeLine; decide), fun y5 yh5 => ?_⟩
  have ys5 : Same yJ4 (upd yJ4 y5 (.tup [V.int 3, V.ref y1, V.ref y2, V.ref y3, V.ref y4])) := same_new yh5 _
  have ye5 : upd yJ4 y5 (.tup [V.int 3, V.ref y1, V.ref y2, V.ref y3, V.ref y4]) y5 = some (.tup [V.int 3, V.ref y1, V.ref y2, V.ref y3, V.ref y4]) := upd_same
  have yo5 := (ne_of_none yq4 yh5).symm
  have yq5 := ys5 _ _ yq4
  generalize upd yJ4 y5 (.tup [V.int 3, V.ref y1, V.ref y2, V.ref y3, V.ref y4]) = yJ5 at ys5 ye5 yq5 ⊢
  have yt : Same G1 yJ5 := ((((ys1).trans ys2).trans ys3).trans ys4).trans ys5
  refine ⟨xl, xv, _, rfl, rfl, yq5, by rw [sizeLine_eq]; omega, ?_⟩
  have gf : ∀ x ∈ xv ++ [V.ref y5], ∃ D, Dt (upd yJ5 xl (.lst (xv ++ [V.ref y5]))) (fun _ => True) x D ∧ (wideD 100000 D ∧ judgeB [97, 98] D = true) := by
    intro x hx
    rcases List.mem_append.mp hx with h | h
    · obtain ⟨D, h1, h2⟩ := xf x h
      exact ⟨D, h1.mono (fun a o na e => by rw [upd_ne na]; exact yt _ _ e) (fun _ _ _ _ => trivial), h2⟩
    · rw [List.mem_singleton.mp h]
      obtain ⟨D, h1, h2⟩ : ∃ D, Dt yJ5 (fun a => a ≠ xl) (V.ref y5) D ∧ (wideD 100000 D ∧ judgeB [97, 98] D = true) := ⟨(PyData.tuple [(.int 3), (PyData.tuple [(.str ""), (.str "b"), (.str "aa")]), (PyData.tuple [(.str "ab"), (.str "ba")]), (PyData.tuple [(.str "bb")]), (PyData.tuple [(.str "aba"), (.str "bab")])]), (.tup ye5 yo5 (.cons (.flat rfl) (.cons (.tup (ys5 _ _ (ys4 _ _ (ys3 _ _ (ys2 _ _ ye1)))) yo1 (.cons (.flat rfl) (.cons (.flat rfl) (.cons (.flat rfl) .nil)))) (.cons (.tup (ys5 _ _ (ys4 _ _ (ys3 _ _ ye2))) yo2 (.cons (.flat rfl) (.cons (.flat rfl) .nil))) (.cons (.tup (ys5 _ _ (ys4 _ _ ye3)) yo3 (.cons (.flat rfl) .nil)) (.cons (.tup (ys5 _ _ ye4) yo4 (.cons (.flat rfl) (.cons (.flat rfl) .nil))) .nil)))))), ⟨wideD_le (by decide +kernel : wt (PyData.tuple [(.int 3), (PyData.tuple [(.str ""), (.str "b"), (.str "aa")]), (PyData.tuple [(.str "ab"), (.str "ba")]), (PyData.tuple [(.str "bb")]), (PyData.tuple [(.str "aba"), (.str "bab")])]) / 2 ≤ 100000) wide_wt, (by decide +kernel : judgeB [97, 98] (PyData.tuple [(.int 3), (PyData.tuple [(.str ""), (.str "b"), (.str "aa")]), (PyData.tuple [(.str "ab"), (.str "ba")]), (PyData.tuple [(.str "bb")]), (PyData.tuple [(.str "aba"), (.str "bab")])]) = true)⟩⟩
      exact ⟨D, h1.mono (fun a o na e => by rw [upd_ne na]; exact e) (fun _ _ _ _ => trivial), h2⟩
  have ge : upd yJ5 xl (.lst (xv ++ [V.ref y5])) xl = some (.lst (xv ++ [V.ref y5])) := upd_same
  have gn : (xv ++ [V.ref y5]).length ≤ 6 := by rw [List.length_append]; show _ + 1 ≤ 6; omega
  generalize xv ++ [V.ref y5] = gv at ge gf gn ⊢
  generalize upd yJ5 xl (.lst gv) = G2 at ge gf ⊢
  refine ⟨(by show 1 ≤ sizeLine; decide), fun b1 bh1 => ?_⟩
  have bs1 : Same G2 (upd G2 b1 (.tup [V.str ""])) := same_new bh1 _
  have be1 : upd G2 b1 (.tup [V.str ""]) b1 = some (.tup [V.str ""]) := upd_same
  have bo1 := True.intro
  generalize upd G2 b1 (.tup [V.str ""]) = bJ1 at bs1 be1  ⊢
  refine ⟨(by show 0 ≤ sizeLine; decide), fun b2 bh2 => ?_⟩
  have bs2 : Same bJ1 (upd bJ1 b2 (.tup [])) := same_new bh2 _
  have be2 : upd bJ1 b2 (.tup []) b2 = some (.tup []) := upd_same
  have bo2 := True.intro
  generalize upd bJ1 b2 (.tup []) = bJ2 at bs2 be2  ⊢
  refine ⟨(by show 1 ≤ sizeLine; decide), fun b3 bh3 => ?_⟩
  have bs3 : Same bJ2 (upd bJ2 b3 (.tup [V.str ""])) := same_new bh3 _
  have be3 : upd bJ2 b3 (.tup [V.str ""]) b3 = some (.tup [V.str ""]) := upd_same
  have bo3 := True.intro
  generalize upd bJ2 b3 (.tup [V.str ""]) = bJ3 at bs3 be3  ⊢
  refine ⟨(by show 2 ≤ sizeLine; decide), fun b4 bh4 => ?_⟩
  have bs4 : Same bJ3 (upd bJ3 b4 (.tup [V.str "b", V.str "a"])) := same_new bh4 _
  have be4 : upd bJ3 b4 (.tup [V.str "b", V.str "a"]) b4 = some (.tup [V.str "b", V.str "a"]) := upd_same
  have bo4 := True.intro
  generalize upd bJ3 b4 (.tup [V.str "b", V.str "a"]) = bJ4 at bs4 be4  ⊢
  refine ⟨(by show 5 ≤ sizeLine; decide), fun b5 bh5 => ?_⟩
  have bs5 : Same bJ4 (upd bJ4 b5 (.tup [V.int 1, V.ref b1, V.ref b2, V.ref b3, V.ref b4])) := same_new bh5 _
  have be5 : upd bJ4 b5 (.tup [V.int 1, V.ref b1, V.ref b2, V.ref b3, V.ref b4]) b5 = some (.tup [V.int 1, V.ref b1, V.ref b2, V.ref b3, V.ref b4]) := upd_same
  have bo5 := True.intro
  generalize upd bJ4 b5 (.tup [V.int 1, V.ref b1, V.ref b2, V.ref b3, V.ref b4]) = bJ5 at bs5 be5  ⊢
  refine ⟨(by show 2 ≤ sizeLine; decide), fun b6 bh6 => ?_⟩
  have bs6 : Same bJ5 (upd bJ5 b6 (.tup [V.str "b", V.str "a"])) := same_new bh6 _
  have be6 : upd bJ5 b6 (.tup [V.str "b", V.str "a"]) b6 = some (.tup [V.str "b", V.str "a"]) := upd_same
  have bo6 := True.intro
  generalize upd bJ5 b6 (.tup [V.str "b", V.str "a"]) = bJ6 at bs6 be6  ⊢
  refine ⟨(by show 0 ≤ sizeLine; decide), fun b7 bh7 => ?_⟩
  have bs7 : Same bJ6 (upd bJ6 b7 (.tup [])) := same_new bh7 _
  have be7 : upd bJ6 b7 (.tup []) b7 = some (.tup []) := upd_same
  have bo7 := True.intro
  generalize upd bJ6 b7 (.tup []) = bJ7 at bs7 be7  ⊢
  refine ⟨(by show 0 ≤ sizeLine; decide), fun b8 bh8 => ?_⟩
  have bs8 : Same bJ7 (upd bJ7 b8 (.tup [])) := same_new bh8 _
  have be8 : upd bJ7 b8 (.tup []) b8 = some (.tup []) := upd_same
  have bo8 := True.intro
  generalize upd bJ7 b8 (.tup []) = bJ8 at bs8 be8  ⊢
  refine ⟨(by show 0 ≤ sizeLine; decide), fun b9 bh9 => ?_⟩
  have bs9 : Same bJ8 (upd bJ8 b9 (.tup [])) := same_new bh9 _
  have be9 : upd bJ8 b9 (.tup []) b9 = some (.tup []) := upd_same
  have bo9 := True.intro
  generalize upd bJ8 b9 (.tup []) = bJ9 at bs9 be9  ⊢
  refine ⟨(by show 5 ≤ sizeLine; decide), fun b10 bh10 => ?_⟩
  have bs10 : Same bJ9 (upd bJ9 b10 (.tup [V.int 2, V.ref b6, V.ref b7, V.ref b8, V.ref b9])) := same_new bh10 _
  have be10 : upd bJ9 b10 (.tup [V.int 2, V.ref b6, V.ref b7, V.ref b8, V.ref b9]) b10 = some (.tup [V.int 2, V.ref b6, V.ref b7, V.ref b8, V.ref b9]) := upd_same
  have bo10 := True.intro
  generalize upd bJ9 b10 (.tup [V.int 2, V.ref b6, V.ref b7, V.ref b8, V.ref b9]) = bJ10 at bs10 be10  ⊢
  refine ⟨(by show 1 ≤ sizeLine; decide), fun b11 bh11 => ?_⟩
  have bs11 : Same bJ10 (upd bJ10 b11 (.tup [V.str "aa"])) := same_new bh11 _
  have be11 : upd bJ10 b11 (.tup [V.str "aa"]) b11 = some (.tup [V.str "aa"]) := upd_same
  have bo11 := True.intro
  generalize upd bJ10 b11 (.tup [V.str "aa"]) = bJ11 at bs11 be11  ⊢
  refine ⟨(by show 0 ≤ sizeLine; decide), fun b12 bh12 => ?_⟩
  have bs12 : Same bJ11 (upd bJ11 b12 (.tup [])) := same_new bh12 _
  have be12 : upd bJ11 b12 (.tup []) b12 = some (.tup []) := upd_same
  have bo12 := True.intro
  generalize upd bJ11 b12 (.tup []) = bJ12 at bs12 be12  ⊢
  refine ⟨(by show 0 ≤ sizeLine; decide), fun b13 bh13 => ?_⟩
  have bs13 : Same bJ12 (upd bJ12 b13 (.tup [])) := same_new bh13 _
  have be13 : upd bJ12 b13 (.tup []) b13 = some (.tup []) := upd_same
  have bo13 := True.intro
  generalize upd bJ12 b13 (.tup []) = bJ13 at bs13 be13  ⊢
  refine ⟨(by show 0 ≤ sizeLine; decide), fun b14 bh14 => ?_⟩
  have bs14 : Same bJ13 (upd bJ13 b14 (.tup [])) := same_new bh14 _
  have be14 : upd bJ13 b14 (.tup []) b14 = some (.tup []) := upd_same
  have bo14 := True.intro
  generalize upd bJ13 b14 (.tup []) = bJ14 at bs14 be14  ⊢
  refine ⟨(by show 5 ≤ sizeLine; decide), fun b15 bh15 => ?_⟩
  have bs15 : Same bJ14 (upd bJ14 b15 (.tup [V.int 2, V.ref b11, V.ref b12, V.ref b13, V.ref b14])) := same_new bh15 _
  have be15 : upd bJ14 b15 (.tup [V.int 2, V.ref b11, V.ref b12, V.ref b13, V.ref b14]) b15 = some (.tup [V.int 2, V.ref b11, V.ref b12, V.ref b13, V.ref b14]) := upd_same
  have bo15 := True.intro
  generalize upd bJ14 b15 (.tup [V.int 2, V.ref b11, V.ref b12, V.ref b13, V.ref b14]) = bJ15 at bs15 be15  ⊢
  refine ⟨(by show 3 ≤ sizeLine; decide), fun bl bh => ?_⟩
  have bs := same_new bh (.lst [V.ref b5, V.ref b10, V.ref b15])
  have be := upd_same (H := bJ15) (a := bl) (o := .lst [V.ref b5, V.ref b10, V.ref b15])
  have bt : Same G2 bJ15 := ((((((((((((((bs1).trans bs2).trans bs3).trans bs4).trans bs5).trans bs6).trans bs7).trans bs8).trans bs9).trans bs10).trans bs11).trans bs12).trans bs13).trans bs14).trans bs15
  have bk : ∀ x ∈ [V.ref b5, V.ref b10, V.ref b15], ∃ D, Dt bJ15 (fun _ => True) x D ∧ (wideD 100000 D ∧ judgeB [97, 98] D = false) := by
    refine List.forall_mem_cons.2 ⟨⟨(PyData.tuple [(.int 1), (PyData.tuple [(.str "")]), (PyData.tuple []), (PyData.tuple [(.str "")]), (PyData.tuple [(.str "b"), (.str "a")])]), (.tup (bs15 _ _ (bs14 _ _ (bs13 _ _ (bs12 _ _ (bs11 _ _ (bs10 _ _ (bs9 _ _ (bs8 _ _ (bs7 _ _ (bs6 _ _ be5)))))))))) bo5 (.cons (.flat rfl) (.cons (.tup (bs15 _ _ (bs14 _ _ (bs13 _ _ (bs12 _ _ (bs11 _ _ (bs10 _ _ (bs9 _ _ (bs8 _ _ (bs7 _ _ (bs6 _ _ (bs5 _ _ (bs4 _ _ (bs3 _ _ (bs2 _ _ be1)))))))))))))) bo1 (.cons (.flat rfl) .nil)) (.cons (.tup (bs15 _ _ (bs14 _ _ (bs13 _ _ (bs12 _ _ (bs11 _ _ (bs10 _ _ (bs9 _ _ (bs8 _ _ (bs7 _ _ (bs6 _ _ (bs5 _ _ (bs4 _ _ (bs3 _ _ be2))))))))))))) bo2 .nil) (.cons (.tup (bs15 _ _ (bs14 _ _ (bs13 _ _ (bs12 _ _ (bs11 _ _ (bs10 _ _ (bs9 _ _ (bs8 _ _ (bs7 _ _ (bs6 _ _ (bs5 _ _ (bs4 _ _ be3)))))))))))) bo3 (.cons (.flat rfl) .nil)) (.cons (.tup (bs15 _ _ (bs14 _ _ (bs13 _ _ (bs12 _ _ (bs11 _ _ (bs10 _ _ (bs9 _ _ (bs8 _ _ (bs7 _ _ (bs6 _ _ (bs5 _ _ be4))))))))))) bo4 (.cons (.flat rfl) (.cons (.flat rfl) .nil))) .nil)))))), ⟨wideD_le (by decide +kernel : wt (PyData.tuple [(.int 1), (PyData.tuple [(.str "")]), (PyData.tuple []), (PyData.tuple [(.str "")]), (PyData.tuple [(.str "b"), (.str "a")])]) / 2 ≤ 100000) wide_wt, (by decide +kernel : judgeB [97, 98] (PyData.tuple [(.int 1), (PyData.tuple [(.str "")]), (PyData.tuple []), (PyData.tuple [(.str "")]), (PyData.tuple [(.str "b"), (.str "a")])]) = false)⟩⟩, ?_⟩
    refine List.forall_mem_cons.2 ⟨⟨(PyData.tuple [(.int 2), (PyData.tuple [(.str "b"), (.str "a")]), (PyData.tuple []), (PyData.tuple []), (PyData.tuple [])]), (.tup (bs15 _ _ (bs14 _ _ (bs13 _ _ (bs12 _ _ (bs11 _ _ be10))))) bo10 (.cons (.flat rfl) (.cons (.tup (bs15 _ _ (bs14 _ _ (bs13 _ _ (bs12 _ _ (bs11 _ _ (bs10 _ _ (bs9 _ _ (bs8 _ _ (bs7 _ _ be6))))))))) bo6 (.cons (.flat rfl) (.cons (.flat rfl) .nil))) (.cons (.tup (bs15 _ _ (bs14 _ _ (bs13 _ _ (bs12 _ _ (bs11 _ _ (bs10 _ _ (bs9 _ _ (bs8 _ _ be7)))))))) bo7 .nil) (.cons (.tup (bs15 _ _ (bs14 _ _ (bs13 _ _ (bs12 _ _ (bs11 _ _ (bs10 _ _ (bs9 _ _ be8))))))) bo8 .nil) (.cons (.tup (bs15 _ _ (bs14 _ _ (bs13 _ _ (bs12 _ _ (bs11 _ _ (bs10 _ _ be9)))))) bo9 .nil) .nil)))))), ⟨wideD_le (by decide +kernel : wt (PyData.tuple [(.int 2), (PyData.tuple [(.str "b"), (.str "a")]), (PyData.tuple []), (PyData.tuple []), (PyData.tuple [])]) / 2 ≤ 100000) wide_wt, (by decide +kernel : judgeB [97, 98] (PyData.tuple [(.int 2), (PyData.tuple [(.str "b"), (.str "a")]), (PyData.tuple []), (PyData.tuple []), (PyData.tuple [])]) = false)⟩⟩, ?_⟩
    refine List.forall_mem_cons.2 ⟨⟨(PyData.tuple [(.int 2), (PyData.tuple [(.str "aa")]), (PyData.tuple []), (PyData.tuple []), (PyData.tuple [])]), (.tup be15 bo15 (.cons (.flat rfl) (.cons (.tup (bs15 _ _ (bs14 _ _ (bs13 _ _ (bs12 _ _ be11)))) bo11 (.cons (.flat rfl) .nil)) (.cons (.tup (bs15 _ _ (bs14 _ _ (bs13 _ _ be12))) bo12 .nil) (.cons (.tup (bs15 _ _ (bs14 _ _ be13)) bo13 .nil) (.cons (.tup (bs15 _ _ be14) bo14 .nil) .nil)))))), ⟨wideD_le (by decide +kernel : wt (PyData.tuple [(.int 2), (PyData.tuple [(.str "aa")]), (PyData.tuple []), (PyData.tuple []), (PyData.tuple [])]) / 2 ≤ 100000) wide_wt, (by decide +kernel : judgeB [97, 98] (PyData.tuple [(.int 2), (PyData.tuple [(.str "aa")]), (PyData.tuple []), (PyData.tuple []), (PyData.tuple [])]) = false)⟩⟩, fun x z => nomatch z⟩
  have bf : ∀ x ∈ [V.ref b5, V.ref b10, V.ref b15], ∃ D, Dt (upd bJ15 bl (.lst [V.ref b5, V.ref b10, V.ref b15])) (fun _ => True) x D ∧ (wideD 100000 D ∧ judgeB [97, 98] D = false) := fun x hx => by
    obtain ⟨D, h1, h2⟩ := bk x hx
    exact ⟨D, dt_same h1 bs, h2⟩
  have bn : [V.ref b5, V.ref b10, V.ref b15].length ≤ 5 := by show 3 ≤ 5; decide
  have bw : Same G2 (upd bJ15 bl (.lst [V.ref b5, V.ref b10, V.ref b15])) := Same.trans (bt) bs
  clear bk
  generalize [V.ref b5, V.ref b10, V.ref b15] = bv at be bs bf bn bw ⊢
  generalize upd bJ15 bl (.lst bv) = B0 at be bs bf bw ⊢
  have wf := bf
  have we := be
  have wn : bv.length ≤ 5 := bn
  have w2 := bw
  generalize bv = wv0 at wf we wn ⊢
  generalize bl = wl0 at we ⊢
  refine ⟨_, rfl, (by show 0 ≤ sizeLine; decide), fun c1 ch1 => ?_⟩
  have cs1 : Same B0 (upd B0 c1 (.tup [])) := same_new ch1 _
  have ce1 : upd B0 c1 (.tup []) c1 = some (.tup []) := upd_same
  have co1 := True.intro
  generalize upd B0 c1 (.tup []) = cJ1 at cs1 ce1  ⊢
  refine ⟨(by show 0 ≤ sizeLine; decide), fun c2 ch2 => ?_⟩
  have cs2 : Same cJ1 (upd cJ1 c2 (.tup [])) := same_new ch2 _
  have ce2 : upd cJ1 c2 (.tup []) c2 = some (.tup []) := upd_same
  have co2 := True.intro
  generalize upd cJ1 c2 (.tup []) = cJ2 at cs2 ce2  ⊢
  refine ⟨(by show 0 ≤ sizeLine; decide), fun c3 ch3 => ?_⟩
  have cs3 : Same cJ2 (upd cJ2 c3 (.tup [])) := same_new ch3 _
  have ce3 : upd cJ2 c3 (.tup []) c3 = some (.tup []) := upd_same
  have co3 := True.intro
  generalize upd cJ2 c3 (.tup []) = cJ3 at cs3 ce3  ⊢
  refine ⟨(by show 0 ≤ sizeLine; decide), fun c4 ch4 => ?_⟩
  have cs4 : Same cJ3 (upd cJ3 c4 (.tup [])) := same_new ch4 _
  have ce4 : upd cJ3 c4 (.tup []) c4 = some (.tup []) := upd_same
  have co4 := True.intro
  generalize upd cJ3 c4 (.tup []) = cJ4 at cs4 ce4  ⊢
  refine ⟨(by show 5 ≤ sizeLine; decide), fun c5 ch5 => ?_⟩
  have cs5 : Same cJ4 (upd cJ4 c5 (.tup [V.int 0, V.ref c1, V.ref c2, V.ref c3, V.ref c4])) := same_new ch5 _
  have ce5 : upd cJ4 c5 (.tup [V.int 0, V.ref c1, V.ref c2, V.ref c3, V.ref c4]) c5 = some (.tup [V.int 0, V.ref c1, V.ref c2, V.ref c3, V.ref c4]) := upd_same
  have co5 := True.intro
  generalize upd cJ4 c5 (.tup [V.int 0, V.ref c1, V.ref c2, V.ref c3, V.ref c4]) = cJ5 at cs5 ce5  ⊢
  refine ⟨(by show 1 ≤ sizeLine; decide), fun c6 ch6 => ?_⟩
  have cs6 : Same cJ5 (upd cJ5 c6 (.tup [V.str ""])) := same_new ch6 _
  have ce6 : upd cJ5 c6 (.tup [V.str ""]) c6 = some (.tup [V.str ""]) := upd_same
  have co6 := True.intro
  generalize upd cJ5 c6 (.tup [V.str ""]) = cJ6 at cs6 ce6  ⊢
  refine ⟨(by show 1 ≤ sizeLine; decide), fun c7 ch7 => ?_⟩
  have cs7 : Same cJ6 (upd cJ6 c7 (.tup [V.str ""])) := same_new ch7 _
  have ce7 : upd cJ6 c7 (.tup [V.str ""]) c7 = some (.tup [V.str ""]) := upd_same
  have co7 := True.intro
  generalize upd cJ6 c7 (.tup [V.str ""]) = cJ7 at cs7 ce7  ⊢
  refine ⟨(by show 1 ≤ sizeLine; decide), fun c8 ch8 => ?_⟩
  have cs8 : Same cJ7 (upd cJ7 c8 (.tup [V.str ""])) := same_new ch8 _
  have ce8 : upd cJ7 c8 (.tup [V.str ""]) c8 = some (.tup [V.str ""]) := upd_same
  have co8 := True.intro
  generalize upd cJ7 c8 (.tup [V.str ""]) = cJ8 at cs8 ce8  ⊢
  refine ⟨(by show 1 ≤ sizeLine; decide), fun c9 ch9 => ?_⟩
  have cs9 : Same cJ8 (upd cJ8 c9 (.tup [V.str "a"])) := same_new ch9 _
  have ce9 : upd cJ8 c9 (.tup [V.str "a"]) c9 = some (.tup [V.str "a"]) := upd_same
  have co9 := True.intro
  generalize upd cJ8 c9 (.tup [V.str "a"]) = cJ9 at cs9 ce9  ⊢
  refine ⟨(by show 5 ≤ sizeLine; decide), fun c10 ch10 => ?_⟩
  have cs10 : Same cJ9 (upd cJ9 c10 (.tup [V.bl true, V.ref c6, V.ref c7, V.ref c8, V.ref c9])) := same_new ch10 _
  have ce10 : upd cJ9 c10 (.tup [V.bl true, V.ref c6, V.ref c7, V.ref c8, V.ref c9]) c10 = some (.tup [V.bl true, V.ref c6, V.ref c7, V.ref c8, V.ref c9]) := upd_same
  have co10 := True.intro
  generalize upd cJ9 c10 (.tup [V.bl true, V.ref c6, V.ref c7, V.ref c8, V.ref c9]) = cJ10 at cs10 ce10  ⊢
  refine ⟨(by show 0 ≤ sizeLine; decide), fun c11 ch11 => ?_⟩
  have cs11 : Same cJ10 (upd cJ10 c11 (.tup [])) := same_new ch11 _
  have ce11 : upd cJ10 c11 (.tup []) c11 = some (.tup []) := upd_same
  have co11 := True.intro
  generalize upd cJ10 c11 (.tup []) = cJ11 at cs11 ce11  ⊢
  refine ⟨(by show 1 ≤ sizeLine; decide), fun c12 ch12 => ?_⟩
  have cs12 : Same cJ11 (upd cJ11 c12 (.tup [V.str "ab"])) := same_new ch12 _
  have ce12 : upd cJ11 c12 (.tup [V.str "ab"]) c12 = some (.tup [V.str "ab"]) := upd_same
  have co12 := True.intro
  generalize upd cJ11 c12 (.tup [V.str "ab"]) = cJ12 at cs12 ce12  ⊢
  refine ⟨(by show 0 ≤ sizeLine; decide), fun c13 ch13 => ?_⟩
  have cs13 : Same cJ12 (upd cJ12 c13 (.tup [])) := same_new ch13 _
  have ce13 : upd cJ12 c13 (.tup []) c13 = some (.tup []) := upd_same
  have co13 := True.intro
  generalize upd cJ12 c13 (.tup []) = cJ13 at cs13 ce13  ⊢
  refine ⟨(by show 0 ≤ sizeLine; decide), fun c14 ch14 => ?_⟩
  have cs14 : Same cJ13 (upd cJ13 c14 (.tup [])) := same_new ch14 _
  have ce14 : upd cJ13 c14 (.tup []) c14 = some (.tup []) := upd_same
  have co14 := True.intro
  generalize upd cJ13 c14 (.tup []) = cJ14 at cs14 ce14  ⊢
  refine ⟨(by show 5 ≤ sizeLine; decide), fun c15 ch15 => ?_⟩
  have cs15 : Same cJ14 (upd cJ14 c15 (.tup [V.int 2, V.ref c11, V.ref c12, V.ref c13, V.ref c14])) := same_new ch15 _
  have ce15 : upd cJ14 c15 (.tup [V.int 2, V.ref c11, V.ref c12, V.ref c13, V.ref c14]) c15 = some (.tup [V.int 2, V.ref c11, V.ref c12, V.ref c13, V.ref c14]) := upd_same
  have co15 := True.intro
  generalize upd cJ14 c15 (.tup [V.int 2, V.ref c11, V.ref c12, V.ref c13, V.ref c14]) = cJ15 at cs15 ce15  ⊢
  refine ⟨(by show 3 ≤ sizeLine; decide), fun cl ch => ?_⟩
  have cs := same_new ch (.lst [V.ref c5, V.ref c10, V.ref c15])
  have ce := upd_same (H := cJ15) (a := cl) (o := .lst [V.ref c5, V.ref c10, V.ref c15])
  have ct : Same B0 cJ15 := ((((((((((((((cs1).trans cs2).trans cs3).trans cs4).trans cs5).trans cs6).trans cs7).trans cs8).trans cs9).trans cs10).trans cs11).trans cs12).trans cs13).trans cs14).trans cs15
  have ck : ∀ x ∈ [V.ref c5, V.ref c10, V.ref c15], ∃ D, Dt cJ15 (fun _ => True) x D ∧ (wideD 100000 D ∧ judgeB [97, 98] D = false) := by
    refine List.forall_mem_cons.2 ⟨⟨(PyData.tuple [(.int 0), (PyData.tuple []), (PyData.tuple []), (PyData.tuple []), (PyData.tuple [])]), (.tup (cs15 _ _ (cs14 _ _ (cs13 _ _ (cs12 _ _ (cs11 _ _ (cs10 _ _ (cs9 _ _ (cs8 _ _ (cs7 _ _ (cs6 _ _ ce5)))))))))) co5 (.cons (.flat rfl) (.cons (.tup (cs15 _ _ (cs14 _ _ (cs13 _ _ (cs12 _ _ (cs11 _ _ (cs10 _ _ (cs9 _ _ (cs8 _ _ (cs7 _ _ (cs6 _ _ (cs5 _ _ (cs4 _ _ (cs3 _ _ (cs2 _ _ ce1)))))))))))))) co1 .nil) (.cons (.tup (cs15 _ _ (cs14 _ _ (cs13 _ _ (cs12 _ _ (cs11 _ _ (cs10 _ _ (cs9 _ _ (cs8 _ _ (cs7 _ _ (cs6 _ _ (cs5 _ _ (cs4 _ _ (cs3 _ _ ce2))))))))))))) co2 .nil) (.cons (.tup (cs15 _ _ (cs14 _ _ (cs13 _ _ (cs12 _ _ (cs11 _ _ (cs10 _ _ (cs9 _ _ (cs8 _ _ (cs7 _ _ (cs6 _ _ (cs5 _ _ (cs4 _ _ ce3)))))))))))) co3 .nil) (.cons (.tup (cs15 _ _ (cs14 _ _ (cs13 _ _ (cs12 _ _ (cs11 _ _ (cs10 _ _ (cs9 _ _ (cs8 _ _ (cs7 _ _ (cs6 _ _ (cs5 _ _ ce4))))))))))) co4 .nil) .nil)))))), ⟨wideD_le (by decide +kernel : wt (PyData.tuple [(.int 0), (PyData.tuple []), (PyData.tuple []), (PyData.tuple []), (PyData.tuple [])]) / 2 ≤ 100000) wide_wt, (by decide +kernel : judgeB [97, 98] (PyData.tuple [(.int 0), (PyData.tuple []), (PyData.tuple []), (PyData.tuple []), (PyData.tuple [])]) = false)⟩⟩, ?_⟩
    refine List.forall_mem_cons.2 ⟨⟨(PyData.tuple [(.bool true), (PyData.tuple [(.str "")]), (PyData.tuple [(.str "")]), (PyData.tuple [(.str "")]), (PyData.tuple [(.str "a")])]), (.tup (cs15 _ _ (cs14 _ _ (cs13 _ _ (cs12 _ _ (cs11 _ _ ce10))))) co10 (.cons (.flat rfl) (.cons (.tup (cs15 _ _ (cs14 _ _ (cs13 _ _ (cs12 _ _ (cs11 _ _ (cs10 _ _ (cs9 _ _ (cs8 _ _ (cs7 _ _ ce6))))))))) co6 (.cons (.flat rfl) .nil)) (.cons (.tup (cs15 _ _ (cs14 _ _ (cs13 _ _ (cs12 _ _ (cs11 _ _ (cs10 _ _ (cs9 _ _ (cs8 _ _ ce7)))))))) co7 (.cons (.flat rfl) .nil)) (.cons (.tup (cs15 _ _ (cs14 _ _ (cs13 _ _ (cs12 _ _ (cs11 _ _ (cs10 _ _ (cs9 _ _ ce8))))))) co8 (.cons (.flat rfl) .nil)) (.cons (.tup (cs15 _ _ (cs14 _ _ (cs13 _ _ (cs12 _ _ (cs11 _ _ (cs10 _ _ ce9)))))) co9 (.cons (.flat rfl) .nil)) .nil)))))), ⟨wideD_le (by decide +kernel : wt (PyData.tuple [(.bool true), (PyData.tuple [(.str "")]), (PyData.tuple [(.str "")]), (PyData.tuple [(.str "")]), (PyData.tuple [(.str "a")])]) / 2 ≤ 100000) wide_wt, (by decide +kernel : judgeB [97, 98] (PyData.tuple [(.bool true), (PyData.tuple [(.str "")]), (PyData.tuple [(.str "")]), (PyData.tuple [(.str "")]), (PyData.tuple [(.str "a")])]) = false)⟩⟩, ?_⟩
    refine List.forall_mem_cons.2 ⟨⟨(PyData.tuple [(.int 2), (PyData.tuple []), (PyData.tuple [(.str "ab")]), (PyData.tuple []), (PyData.tuple [])]), (.tup ce15 co15 (.cons (.flat rfl) (.cons (.tup (cs15 _ _ (cs14 _ _ (cs13 _ _ (cs12 _ _ ce11)))) co11 .nil) (.cons (.tup (cs15 _ _ (cs14 _ _ (cs13 _ _ ce12))) co12 (.cons (.flat rfl) .nil)) (.cons (.tup (cs15 _ _ (cs14 _ _ ce13)) co13 .nil) (.cons (.tup (cs15 _ _ ce14) co14 .nil) .nil)))))), ⟨wideD_le (by decide +kernel : wt (PyData.tuple [(.int 2), (PyData.tuple []), (PyData.tuple [(.str "ab")]), (PyData.tuple []), (PyData.tuple [])]) / 2 ≤ 100000) wide_wt, (by decide +kernel : judgeB [97, 98] (PyData.tuple [(.int 2), (PyData.tuple []), (PyData.tuple [(.str "ab")]), (PyData.tuple []), (PyData.tuple [])]) = false)⟩⟩, fun x z => nomatch z⟩
  have cf : ∀ x ∈ [V.ref c5, V.ref c10, V.ref c15], ∃ D, Dt (upd cJ15 cl (.lst [V.ref c5, V.ref c10, V.ref c15])) (fun _ => True) x D ∧ (wideD 100000 D ∧ judgeB [97, 98] D = false) := fun x hx => by
    obtain ⟨D, h1, h2⟩ := ck x hx
    exact ⟨D, dt_same h1 cs, h2⟩
  have cn : [V.ref c5, V.ref c10, V.ref c15].length ≤ 5 := by show 3 ≤ 5; decide
  have cw : Same B0 (upd cJ15 cl (.lst [V.ref c5, V.ref c10, V.ref c15])) := Same.trans (ct) cs
  clear ck
  generalize [V.ref c5, V.ref c10, V.ref c15] = cv at ce cs cf cn cw ⊢
  generalize upd cJ15 cl (.lst cv) = B1 at ce cs cf cw ⊢
  have we1 := cw _ _ we
  have wf1 : ∀ x ∈ wv0, ∃ D, Dt B1 (fun _ => True) x D ∧ (wideD 100000 D ∧ judgeB [97, 98] D = false) := fun x hx => by
    obtain ⟨D, h1, h2⟩ := wf x hx
    exact ⟨D, dt_same h1 cw, h2⟩
  refine ⟨wl0, cl, wv0, cv, rfl, rfl, we1, ce, by rw [sizeLine_eq]; omega, fun wl1 hw1 => ?_⟩
  have ws := same_new hw1 (.lst (wv0 ++ cv))
  have wt1 : ∀ x ∈ wv0 ++ cv, ∃ D, Dt (upd B1 wl1 (.lst (wv0 ++ cv))) (fun _ => True) x D ∧ (wideD 100000 D ∧ judgeB [97, 98] D = false) := fun x hx => by
    rcases List.mem_append.mp hx with h | h
    · obtain ⟨D, h1, h2⟩ := wf1 x h
      exact ⟨D, dt_same h1 ws, h2⟩
    · obtain ⟨D, h1, h2⟩ := cf x h
      exact ⟨D, dt_same h1 ws, h2⟩
  clear we wf
  have we : upd B1 wl1 (.lst (wv0 ++ cv)) wl1 = some (.lst (wv0 ++ cv)) := upd_same
  have wn' : (wv0 ++ cv).length ≤ 10 := by rw [List.length_append]; omega
  clear wn
  have wn := wn'
  clear wn'
  have w3 := (w2.trans cw).trans ws
  clear w2
  have w2 := w3
  clear w3
  have wf := wt1
  clear wt1
  generalize wv0 ++ cv = wv1 at wf we wn ws w2 ⊢
  generalize upd B1 wl1 (.lst wv1) = C1 at wf we ws w2 ⊢
  refine ⟨_, rfl, (by show 0 ≤ sizeLine; decide), fun d1 dh1 => ?_⟩
  have ds1 : Same C1 (upd C1 d1 (.tup [])) := same_new dh1 _
  have de1 : upd C1 d1 (.tup []) d1 = some (.tup []) := upd_same
  have do1 := True.intro
  generalize upd C1 d1 (.tup []) = dJ1 at ds1 de1  ⊢
  refine ⟨(by show 0 ≤ sizeLine; decide), fun d2 dh2 => ?_⟩
  have ds2 : Same dJ1 (upd dJ1 d2 (.tup [])) := same_new dh2 _
  have de2 : upd dJ1 d2 (.tup []) d2 = some (.tup []) := upd_same
  have do2 := True.intro
  generalize upd dJ1 d2 (.tup []) = dJ2 at ds2 de2  ⊢
  refine ⟨(by show 0 ≤ sizeLine; decide), fun d3 dh3 => ?_⟩
  have ds3 : Same dJ2 (upd dJ2 d3 (.tup [])) := same_new dh3 _
  have de3 : upd dJ2 d3 (.tup []) d3 = some (.tup []) := upd_same
  have do3 := True.intro
  generalize upd dJ2 d3 (.tup []) = dJ3 at ds3 de3  ⊢
  refine ⟨(by show 1 ≤ sizeLine; decide), fun d4 dh4 => ?_⟩
  have ds4 : Same dJ3 (upd dJ3 d4 (.tup [V.str "aab"])) := same_new dh4 _
  have de4 : upd dJ3 d4 (.tup [V.str "aab"]) d4 = some (.tup [V.str "aab"]) := upd_same
  have do4 := True.intro
  generalize upd dJ3 d4 (.tup [V.str "aab"]) = dJ4 at ds4 de4  ⊢
  refine ⟨(by show 5 ≤ sizeLine; decide), fun d5 dh5 => ?_⟩
  have ds5 : Same dJ4 (upd dJ4 d5 (.tup [V.int 2, V.ref d1, V.ref d2, V.ref d3, V.ref d4])) := same_new dh5 _
  have de5 : upd dJ4 d5 (.tup [V.int 2, V.ref d1, V.ref d2, V.ref d3, V.ref d4]) d5 = some (.tup [V.int 2, V.ref d1, V.ref d2, V.ref d3, V.ref d4]) := upd_same
  have do5 := True.intro
  generalize upd dJ4 d5 (.tup [V.int 2, V.ref d1, V.ref d2, V.ref d3, V.ref d4]) = dJ5 at ds5 de5  ⊢
  refine ⟨(by show 0 ≤ sizeLine; decide), fun d6 dh6 => ?_⟩
  have ds6 : Same dJ5 (upd dJ5 d6 (.tup [])) := same_new dh6 _
  have de6 : upd dJ5 d6 (.tup []) d6 = some (.tup []) := upd_same
  have do6 := True.intro
  generalize upd dJ5 d6 (.tup []) = dJ6 at ds6 de6  ⊢
  refine ⟨(by show 4 ≤ sizeLine; decide), fun dl dh => ?_⟩
  have ds := same_new dh (.lst [V.ref d5, V.non, V.str "ab", V.ref d6])
  have de := upd_same (H := dJ6) (a := dl) (o := .lst [V.ref d5, V.non, V.str "ab", V.ref d6])
  have dt : Same C1 dJ6 := (((((ds1).trans ds2).trans ds3).trans ds4).trans ds5).trans ds6
  have dk : ∀ x ∈ [V.ref d5, V.non, V.str "ab", V.ref d6], ∃ D, Dt dJ6 (fun _ => True) x D ∧ (wideD 100000 D ∧ judgeB [97, 98] D = false) := by
    refine List.forall_mem_cons.2 ⟨⟨(PyData.tuple [(.int 2), (PyData.tuple []), (PyData.tuple []), (PyData.tuple []), (PyData.tuple [(.str "aab")])]), (.tup (ds6 _ _ de5) do5 (.cons (.flat rfl) (.cons (.tup (ds6 _ _ (ds5 _ _ (ds4 _ _ (ds3 _ _ (ds2 _ _ de1))))) do1 .nil) (.cons (.tup (ds6 _ _ (ds5 _ _ (ds4 _ _ (ds3 _ _ de2)))) do2 .nil) (.cons (.tup (ds6 _ _ (ds5 _ _ (ds4 _ _ de3))) do3 .nil) (.cons (.tup (ds6 _ _ (ds5 _ _ de4)) do4 (.cons (.flat rfl) .nil)) .nil)))))), ⟨wideD_le (by decide +kernel : wt (PyData.tuple [(.int 2), (PyData.tuple []), (PyData.tuple []), (PyData.tuple []), (PyData.tuple [(.str "aab")])]) / 2 ≤ 100000) wide_wt, (by decide +kernel : judgeB [97, 98] (PyData.tuple [(.int 2), (PyData.tuple []), (PyData.tuple []), (PyData.tuple []), (PyData.tuple [(.str "aab")])]) = false)⟩⟩, ?_⟩
    refine List.forall_mem_cons.2 ⟨⟨PyData.none, (.flat rfl), ⟨wideD_le (by decide +kernel : wt PyData.none / 2 ≤ 100000) wide_wt, (by decide +kernel : judgeB [97, 98] PyData.none = false)⟩⟩, ?_⟩
    refine List.forall_mem_cons.2 ⟨⟨(.str "ab"), (.flat rfl), ⟨wideD_le (by decide +kernel : wt (.str "ab") / 2 ≤ 100000) wide_wt, (by decide +kernel : judgeB [97, 98] (.str "ab") = false)⟩⟩, ?_⟩
    refine List.forall_mem_cons.2 ⟨⟨(PyData.tuple []), (.tup de6 do6 .nil), ⟨wideD_le (by decide +kernel : wt (PyData.tuple []) / 2 ≤ 100000) wide_wt, (by decide +kernel : judgeB [97, 98] (PyData.tuple []) = false)⟩⟩, fun x z => nomatch z⟩
  have df : ∀ x ∈ [V.ref d5, V.non, V.str "ab", V.ref d6], ∃ D, Dt (upd dJ6 dl (.lst [V.ref d5, V.non, V.str "ab", V.ref d6])) (fun _ => True) x D ∧ (wideD 100000 D ∧ judgeB [97, 98] D = false) := fun x hx => by
    obtain ⟨D, h1, h2⟩ := dk x hx
    exact ⟨D, dt_same h1 ds, h2⟩
  have dn : [V.ref d5, V.non, V.str "ab", V.ref d6].length ≤ 5 := by show 4 ≤ 5; decide
  have dw : Same C1 (upd dJ6 dl (.lst [V.ref d5, V.non, V.str "ab", V.ref d6])) := Same.trans (dt) ds
  clear dk
  generalize [V.ref d5, V.non, V.str "ab", V.ref d6] = dv at de ds df dn dw ⊢
  generalize upd dJ6 dl (.lst dv) = B2 at de ds df dw ⊢
  have we2 := dw _ _ we
  have wf2 : ∀ x ∈ wv1, ∃ D, Dt B2 (fun _ => True) x D ∧ (wideD 100000 D ∧ judgeB [97, 98] D = false) := fun x hx => by
    obtain ⟨D, h1, h2⟩ := wf x hx
    exact ⟨D, dt_same h1 dw, h2⟩
  refine ⟨wl1, dl, wv1, dv, rfl, rfl, we2, de, by rw [sizeLine_eq]; omega, fun wl2 hw2 => ?_⟩
  have ws := same_new hw2 (.lst (wv1 ++ dv))
  have wt2 : ∀ x ∈ wv1 ++ dv, ∃ D, Dt (upd B2 wl2 (.lst (wv1 ++ dv))) (fun _ => True) x D ∧ (wideD 100000 D ∧ judgeB [97, 98] D = false) := fun x hx => by
    rcases List.mem_append.mp hx with h | h
    · obtain ⟨D, h1, h2⟩ := wf2 x h
      exact ⟨D, dt_same h1 ws, h2⟩
    · obtain ⟨D, h1, h2⟩ := df x h
      exact ⟨D, dt_same h1 ws, h2⟩
  clear we wf
  have we : upd B2 wl2 (.lst (wv1 ++ dv)) wl2 = some (.lst (wv1 ++ dv)) := upd_same
  have wn' : (wv1 ++ dv).length ≤ 15 := by rw [List.length_append]; omega
  clear wn
  have wn := wn'
  clear wn'
  have w3 := (w2.trans dw).trans ws
  clear w2
  have w2 := w3
  clear w3
  have wf := wt2
  clear wt2
  generalize wv1 ++ dv = wv2 at wf we wn ws w2 ⊢
  generalize upd B2 wl2 (.lst wv2) = C2 at wf we ws w2 ⊢
  refine ⟨_, rfl, (by show 3 ≤ sizeLine; decide), fun e1 eh1 => ?_⟩
  have es1 : Same C2 (upd C2 e1 (.tup [V.str "", V.str "aa", V.str "b"])) := same_new eh1 _
  have ee1 : upd C2 e1 (.tup [V.str "", V.str "aa", V.str "b"]) e1 = some (.tup [V.str "", V.str "aa", V.str "b"]) := upd_same
  have eo1 := True.intro
  generalize upd C2 e1 (.tup [V.str "", V.str "aa", V.str "b"]) = eJ1 at es1 ee1  ⊢
  refine ⟨(by show 0 ≤ sizeLine; decide), fun e2 eh2 => ?_⟩
  have es2 : Same eJ1 (upd eJ1 e2 (.tup [])) := same_new eh2 _
  have ee2 : upd eJ1 e2 (.tup []) e2 = some (.tup []) := upd_same
  have eo2 := True.intro
  generalize upd eJ1 e2 (.tup []) = eJ2 at es2 ee2  ⊢
  refine ⟨(by show 0 ≤ sizeLine; decide), fun e3 eh3 => ?_⟩
  have es3 : Same eJ2 (upd eJ2 e3 (.tup [])) := same_new eh3 _
  have ee3 : upd eJ2 e3 (.tup []) e3 = some (.tup []) := upd_same
  have eo3 := True.intro
  generalize upd eJ2 e3 (.tup []) = eJ3 at es3 ee3  ⊢
  refine ⟨(by show 0 ≤ sizeLine; decide), fun e4 eh4 => ?_⟩
  have es4 : Same eJ3 (upd eJ3 e4 (.tup [])) := same_new eh4 _
  have ee4 : upd eJ3 e4 (.tup []) e4 = some (.tup []) := upd_same
  have eo4 := True.intro
  generalize upd eJ3 e4 (.tup []) = eJ4 at es4 ee4  ⊢
  refine ⟨(by show 5 ≤ sizeLine; decide), fun e5 eh5 => ?_⟩
  have es5 : Same eJ4 (upd eJ4 e5 (.tup [V.int 2, V.ref e1, V.ref e2, V.ref e3, V.ref e4])) := same_new eh5 _
  have ee5 : upd eJ4 e5 (.tup [V.int 2, V.ref e1, V.ref e2, V.ref e3, V.ref e4]) e5 = some (.tup [V.int 2, V.ref e1, V.ref e2, V.ref e3, V.ref e4]) := upd_same
  have eo5 := True.intro
  generalize upd eJ4 e5 (.tup [V.int 2, V.ref e1, V.ref e2, V.ref e3, V.ref e4]) = eJ5 at es5 ee5  ⊢
  refine ⟨(by show 0 ≤ sizeLine; decide), fun e6 eh6 => ?_⟩
  have es6 : Same eJ5 (upd eJ5 e6 (.tup [])) := same_new eh6 _
  have ee6 : upd eJ5 e6 (.tup []) e6 = some (.tup []) := upd_same
  have eo6 := True.intro
  generalize upd eJ5 e6 (.tup []) = eJ6 at es6 ee6  ⊢
  refine ⟨(by show 2 ≤ sizeLine; decide), fun e7 eh7 => ?_⟩
  have es7 : Same eJ6 (upd eJ6 e7 (.tup [V.str "a", V.str "a"])) := same_new eh7 _
  have ee7 : upd eJ6 e7 (.tup [V.str "a", V.str "a"]) e7 = some (.tup [V.str "a", V.str "a"]) := upd_same
  have eo7 := True.intro
  generalize upd eJ6 e7 (.tup [V.str "a", V.str "a"]) = eJ7 at es7 ee7  ⊢
  refine ⟨(by show 0 ≤ sizeLine; decide), fun e8 eh8 => ?_⟩
  have es8 : Same eJ7 (upd eJ7 e8 (.tup [])) := same_new eh8 _
  have ee8 : upd eJ7 e8 (.tup []) e8 = some (.tup []) := upd_same
  have eo8 := True.intro
  generalize upd eJ7 e8 (.tup []) = eJ8 at es8 ee8  ⊢
  refine ⟨(by show 0 ≤ sizeLine; decide), fun e9 eh9 => ?_⟩
  have es9 : Same eJ8 (upd eJ8 e9 (.tup [])) := same_new eh9 _
  have ee9 : upd eJ8 e9 (.tup []) e9 = some (.tup []) := upd_same
  have eo9 := True.intro
  generalize upd eJ8 e9 (.tup []) = eJ9 at es9 ee9  ⊢
  refine ⟨(by show 5 ≤ sizeLine; decide), fun e10 eh10 => ?_⟩
  have es10 : Same eJ9 (upd eJ9 e10 (.tup [V.int 2, V.ref e6, V.ref e7, V.ref e8, V.ref e9])) := same_new eh10 _
  have ee10 : upd eJ9 e10 (.tup [V.int 2, V.ref e6, V.ref e7, V.ref e8, V.ref e9]) e10 = some (.tup [V.int 2, V.ref e6, V.ref e7, V.ref e8, V.ref e9]) := upd_same
  have eo10 := True.intro
  generalize upd eJ9 e10 (.tup [V.int 2, V.ref e6, V.ref e7, V.ref e8, V.ref e9]) = eJ10 at es10 ee10  ⊢
  refine ⟨(by show 0 ≤ sizeLine; decide), fun e11 eh11 => ?_⟩
  have es11 : Same eJ10 (upd eJ10 e11 (.tup [])) := same_new eh11 _
  have ee11 : upd eJ10 e11 (.tup []) e11 = some (.tup []) := upd_same
  have eo11 := True.intro
  generalize upd eJ10 e11 (.tup []) = eJ11 at es11 ee11  ⊢
  refine ⟨(by show 0 ≤ sizeLine; decide), fun e12 eh12 => ?_⟩
  have es12 : Same eJ11 (upd eJ11 e12 (.tup [])) := same_new eh12 _
  have ee12 : upd eJ11 e12 (.tup []) e12 = some (.tup []) := upd_same
  have eo12 := True.intro
  generalize upd eJ11 e12 (.tup []) = eJ12 at es12 ee12  ⊢
  refine ⟨(by show 1 ≤ sizeLine; decide), fun e13 eh13 => ?_⟩
  have es13 : Same eJ12 (upd eJ12 e13 (.tup [V.str "c"])) := same_new eh13 _
  have ee13 : upd eJ12 e13 (.tup [V.str "c"]) e13 = some (.tup [V.str "c"]) := upd_same
  have eo13 := True.intro
  generalize upd eJ12 e13 (.tup [V.str "c"]) = eJ13 at es13 ee13  ⊢
  refine ⟨(by show 0 ≤ sizeLine; decide), fun e14 eh14 => ?_⟩
  have es14 : Same eJ13 (upd eJ13 e14 (.tup [])) := same_new eh14 _
  have ee14 : upd eJ13 e14 (.tup []) e14 = some (.tup []) := upd_same
  have eo14 := True.intro
  generalize upd eJ13 e14 (.tup []) = eJ14 at es14 ee14  ⊢
  refine ⟨(by show 5 ≤ sizeLine; decide), fun e15 eh15 => ?_⟩
  have es15 : Same eJ14 (upd eJ14 e15 (.tup [V.int 2, V.ref e11, V.ref e12, V.ref e13, V.ref e14])) := same_new eh15 _
  have ee15 : upd eJ14 e15 (.tup [V.int 2, V.ref e11, V.ref e12, V.ref e13, V.ref e14]) e15 = some (.tup [V.int 2, V.ref e11, V.ref e12, V.ref e13, V.ref e14]) := upd_same
  have eo15 := True.intro
  generalize upd eJ14 e15 (.tup [V.int 2, V.ref e11, V.ref e12, V.ref e13, V.ref e14]) = eJ15 at es15 ee15  ⊢
  refine ⟨(by show 3 ≤ sizeLine; decide), fun el eh => ?_⟩
  have es := same_new eh (.lst [V.ref e5, V.ref e10, V.ref e15])
  have ee := upd_same (H := eJ15) (a := el) (o := .lst [V.ref e5, V.ref e10, V.ref e15])
  have et : Same C2 eJ15 := ((((((((((((((es1).trans es2).trans es3).trans es4).trans es5).trans es6).trans es7).trans es8).trans es9).trans es10).trans es11).trans es12).trans es13).trans es14).trans es15
  have ek : ∀ x ∈ [V.ref e5, V.ref e10, V.ref e15], ∃ D, Dt eJ15 (fun _ => True) x D ∧ (wideD 100000 D ∧ judgeB [97, 98] D = false) := by
    refine List.forall_mem_cons.2 ⟨⟨(PyData.tuple [(.int 2), (PyData.tuple [(.str ""), (.str "aa"), (.str "b")]), (PyData.tuple []), (PyData.tuple []), (PyData.tuple [])]), (.tup (es15 _ _ (es14 _ _ (es13 _ _ (es12 _ _ (es11 _ _ (es10 _ _ (es9 _ _ (es8 _ _ (es7 _ _ (es6 _ _ ee5)))))))))) eo5 (.cons (.flat rfl) (.cons (.tup (es15 _ _ (es14 _ _ (es13 _ _ (es12 _ _ (es11 _ _ (es10 _ _ (es9 _ _ (es8 _ _ (es7 _ _ (es6 _ _ (es5 _ _ (es4 _ _ (es3 _ _ (es2 _ _ ee1)))))))))))))) eo1 (.cons (.flat rfl) (.cons (.flat rfl) (.cons (.flat rfl) .nil)))) (.cons (.tup (es15 _ _ (es14 _ _ (es13 _ _ (es12 _ _ (es11 _ _ (es10 _ _ (es9 _ _ (es8 _ _ (es7 _ _ (es6 _ _ (es5 _ _ (es4 _ _ (es3 _ _ ee2))))))))))))) eo2 .nil) (.cons (.tup (es15 _ _ (es14 _ _ (es13 _ _ (es12 _ _ (es11 _ _ (es10 _ _ (es9 _ _ (es8 _ _ (es7 _ _ (es6 _ _ (es5 _ _ (es4 _ _ ee3)))))))))))) eo3 .nil) (.cons (.tup (es15 _ _ (es14 _ _ (es13 _ _ (es12 _ _ (es11 _ _ (es10 _ _ (es9 _ _ (es8 _ _ (es7 _ _ (es6 _ _ (es5 _ _ ee4))))))))))) eo4 .nil) .nil)))))), ⟨wideD_le (by decide +kernel : wt (PyData.tuple [(.int 2), (PyData.tuple [(.str ""), (.str "aa"), (.str "b")]), (PyData.tuple []), (PyData.tuple []), (PyData.tuple [])]) / 2 ≤ 100000) wide_wt, (by decide +kernel : judgeB [97, 98] (PyData.tuple [(.int 2), (PyData.tuple [(.str ""), (.str "aa"), (.str "b")]), (PyData.tuple []), (PyData.tuple []), (PyData.tuple [])]) = false)⟩⟩, ?_⟩
    refine List.forall_mem_cons.2 ⟨⟨(PyData.tuple [(.int 2), (PyData.tuple []), (PyData.tuple [(.str "a"), (.str "a")]), (PyData.tuple []), (PyData.tuple [])]), (.tup (es15 _ _ (es14 _ _ (es13 _ _ (es12 _ _ (es11 _ _ ee10))))) eo10 (.cons (.flat rfl) (.cons (.tup (es15 _ _ (es14 _ _ (es13 _ _ (es12 _ _ (es11 _ _ (es10 _ _ (es9 _ _ (es8 _ _ (es7 _ _ ee6))))))))) eo6 .nil) (.cons (.tup (es15 _ _ (es14 _ _ (es13 _ _ (es12 _ _ (es11 _ _ (es10 _ _ (es9 _ _ (es8 _ _ ee7)))))))) eo7 (.cons (.flat rfl) (.cons (.flat rfl) .nil))) (.cons (.tup (es15 _ _ (es14 _ _ (es13 _ _ (es12 _ _ (es11 _ _ (es10 _ _ (es9 _ _ ee8))))))) eo8 .nil) (.cons (.tup (es15 _ _ (es14 _ _ (es13 _ _ (es12 _ _ (es11 _ _ (es10 _ _ ee9)))))) eo9 .nil) .nil)))))), ⟨wideD_le (by decide +kernel : wt (PyData.tuple [(.int 2), (PyData.tuple []), (PyData.tuple [(.str "a"), (.str "a")]), (PyData.tuple []), (PyData.tuple [])]) / 2 ≤ 100000) wide_wt, (by decide +kernel : judgeB [97, 98] (PyData.tuple [(.int 2), (PyData.tuple []), (PyData.tuple [(.str "a"), (.str "a")]), (PyData.tuple []), (PyData.tuple [])]) = false)⟩⟩, ?_⟩
    refine List.forall_mem_cons.2 ⟨⟨(PyData.tuple [(.int 2), (PyData.tuple []), (PyData.tuple []), (PyData.tuple [(.str "c")]), (PyData.tuple [])]), (.tup ee15 eo15 (.cons (.flat rfl) (.cons (.tup (es15 _ _ (es14 _ _ (es13 _ _ (es12 _ _ ee11)))) eo11 .nil) (.cons (.tup (es15 _ _ (es14 _ _ (es13 _ _ ee12))) eo12 .nil) (.cons (.tup (es15 _ _ (es14 _ _ ee13)) eo13 (.cons (.flat rfl) .nil)) (.cons (.tup (es15 _ _ ee14) eo14 .nil) .nil)))))), ⟨wideD_le (by decide +kernel : wt (PyData.tuple [(.int 2), (PyData.tuple []), (PyData.tuple []), (PyData.tuple [(.str "c")]), (PyData.tuple [])]) / 2 ≤ 100000) wide_wt, (by decide +kernel : judgeB [97, 98] (PyData.tuple [(.int 2), (PyData.tuple []), (PyData.tuple []), (PyData.tuple [(.str "c")]), (PyData.tuple [])]) = false)⟩⟩, fun x z => nomatch z⟩
  have ef : ∀ x ∈ [V.ref e5, V.ref e10, V.ref e15], ∃ D, Dt (upd eJ15 el (.lst [V.ref e5, V.ref e10, V.ref e15])) (fun _ => True) x D ∧ (wideD 100000 D ∧ judgeB [97, 98] D = false) := fun x hx => by
    obtain ⟨D, h1, h2⟩ := ek x hx
    exact ⟨D, dt_same h1 es, h2⟩
  have en : [V.ref e5, V.ref e10, V.ref e15].length ≤ 5 := by show 3 ≤ 5; decide
  have ew : Same C2 (upd eJ15 el (.lst [V.ref e5, V.ref e10, V.ref e15])) := Same.trans (et) es
  clear ek
  generalize [V.ref e5, V.ref e10, V.ref e15] = ev at ee es ef en ew ⊢
  generalize upd eJ15 el (.lst ev) = B3 at ee es ef ew ⊢
  have we3 := ew _ _ we
  have wf3 : ∀ x ∈ wv2, ∃ D, Dt B3 (fun _ => True) x D ∧ (wideD 100000 D ∧ judgeB [97, 98] D = false) := fun x hx => by
    obtain ⟨D, h1, h2⟩ := wf x hx
    exact ⟨D, dt_same h1 ew, h2⟩
  refine ⟨wl2, el, wv2, ev, rfl, rfl, we3, ee, by rw [sizeLine_eq]; omega, fun wl3 hw3 => ?_⟩
  have ws := same_new hw3 (.lst (wv2 ++ ev))
  have wt3 : ∀ x ∈ wv2 ++ ev, ∃ D, Dt (upd B3 wl3 (.lst (wv2 ++ ev))) (fun _ => True) x D ∧ (wideD 100000 D ∧ judgeB [97, 98] D = false) := fun x hx => by
    rcases List.mem_append.mp hx with h | h
    · obtain ⟨D, h1, h2⟩ := wf3 x h
      exact ⟨D, dt_same h1 ws, h2⟩
    · obtain ⟨D, h1, h2⟩ := ef x h
      exact ⟨D, dt_same h1 ws, h2⟩
  clear we wf
  have we : upd B3 wl3 (.lst (wv2 ++ ev)) wl3 = some (.lst (wv2 ++ ev)) := upd_same
  have wn' : (wv2 ++ ev).length ≤ 20 := by rw [List.length_append]; omega
  clear wn
  have wn := wn'
  clear wn'
  have w3 := (w2.trans ew).trans ws
  clear w2
  have w2 := w3
  clear w3
  have wf := wt3
  clear wt3
  generalize wv2 ++ ev = wv3 at wf we wn ws w2 ⊢
  generalize upd B3 wl3 (.lst wv3) = C3 at wf we ws w2 ⊢
  have gf' : ∀ x ∈ gv, ∃ D, Dt C3 (fun _ => True) x D ∧ (wideD 100000 D ∧ judgeB [97, 98] D = true) := fun x hx => by
    obtain ⟨D, h1, h2⟩ := gf x hx
    exact ⟨D, dt_same h1 w2, h2⟩
  have ge' := w2 _ _ ge
  refine ⟨_, rfl, xl, rfl, ⟨_, SqL.of ge'⟩, fun D hDD => ?_⟩
  refine lc_it (walk_list (xs := gv)) (fun i H' => H' D = some (.lst []) ∧ Same C3 H') ⟨upd_same, same_new hDD _⟩ (fun i H' _ ⟨_, s⟩ => SqL.of (s _ _ ge')) ?_ ?_
  · rintro i x H6 H7 hx ⟨m1, m2⟩ ⟨rfl, hv⟩
    obtain ⟨D', h1, h2, h3⟩ := gf' x (List.mem_of_getElem? hv)
    refine ⟨rfl, _, rfl, [97, 98], x, D', _, by rw [show ("ab" : Str) = mkS [97, 98] by decide +kernel]; rfl, dt_same h1 m2, h2, fun H8 s8 => ⟨_, _, rfl, rfl, _, rfl, ?_⟩⟩
    rw [h3]
    exact if_fl rfl ⟨s8 _ _ m1, m2.trans s8⟩
  rintro H6 ⟨m1, m2⟩
  refine ⟨(by show 0 ≤ sizeLine; decide), fun pe hpe => ?_⟩
  have s7 := same_new hpe (.lst [])
  refine ⟨D, pe, [], rfl, rfl, SqL.of (s7 _ _ m1), SqL.of upd_same, _, rfl, if_fl rfl ?_⟩
  have s8 := m2.trans s7
  generalize upd H6 pe (.lst []) = H8 at s8 ⊢
  have we' := s8 _ _ we
  refine ⟨_, rfl, wl3, rfl, ⟨_, SqL.of we'⟩, fun D2 hD2 => ?_⟩
  refine lc_it (walk_list (xs := wv3)) (fun i H' => H' D2 = some (.lst []) ∧ Same H8 H') ⟨upd_same, same_new hD2 _⟩ (fun i H' _ ⟨_, s⟩ => SqL.of (s _ _ we')) ?_ ?_
  · rintro i x Ha Hb hx ⟨n1, n2⟩ ⟨rfl, hv⟩
    obtain ⟨D', h1, h2, h3⟩ := wf x (List.mem_of_getElem? hv)
    refine ⟨rfl, _, rfl, [97, 98], x, D', _, by rw [show ("ab" : Str) = mkS [97, 98] by decide +kernel]; rfl, dt_same h1 (s8.trans n2), h2, fun Hc sc => ⟨_, _, rfl, rfl, _, rfl, ?_⟩⟩
    rw [h3]
    exact if_fl rfl ⟨sc _ _ n1, n2.trans sc⟩
  rintro Ha ⟨n1, n2⟩
  refine ⟨(by show 0 ≤ sizeLine; decide), fun pe2 hpe2 => ?_⟩
  have s9 := same_new hpe2 (.lst [])
  exact ⟨D2, pe2, [], rfl, rfl, SqL.of (s9 _ _ n1), SqL.of upd_same, q _⟩
end
end Vf

set_option Elab.async false
set_option linter.all false
set_option maxRecDepth 100000
set_option maxHeartbeats 4000000
namespace Vf
open PySem PySem.Spec PyProof.Rows L2 L2.Vx
section
variable {P : Program} {w : World} {K : PySem.W.Frag} {mg : Str → Option Value} {base : Heap}
theorem all_mk {l : PySem.W.OpenLaw} {h : Heap} {fa : Addr} (X : K.In h) (G : h.Ns mainGlobals mg) (hfa : mg "law" = some (.ref fa))
    {fH : Addr} {ocH : Value} {odH anH : Option Addr} {slH : Array (Option Value)} {kVH dcH pmH cdH ctH : Value} {fA : Addr} {ocA : Value} {odA anA : Option Addr} {slA : Array (Option Value)} {kVA dcA pmA cdA ctA : Value} {fE : Addr} {ocE : Value} {odE anE : Option Addr} {slE : Array (Option Value)} {kVE dcE pmE cdE ctE : Value} {fD : Addr} {ocD : Value} {odD anD : Option Addr} {slD : Array (Option Value)} {kVD dcD pmD cdD ctD : Value} {fG : Addr} {ocG : Value} {odG anG : Option Addr} {slG : Array (Option Value)} {kVG dcG pmG cdG ctG : Value} {fC : Addr} {ocC : Value} {odC anC : Option Addr} {slC : Array (Option Value)} {kVC dcC pmC cdC ctC : Value} {fJ : Addr} {ocJ : Value} {odJ anJ : Option Addr} {slJ : Array (Option Value)} {kVJ dcJ pmJ cdJ ctJ : Value} {fK : Addr} {ocK : Value} {odK anK : Option Addr} {slK : Array (Option Value)} {kVK dcK pmK cdK ctK : Value} {fW : Addr} {ocW : Value} {odW anW : Option Addr} {slW : Array (Option Value)} {kVW dcW pmW cdW ctW : Value} {fP : Addr} {ocP : Value} {odP anP : Option Addr} {slP : Array (Option Value)} {kVP dcP pmP cdP ctP : Value} {fO : Addr} {ocO : Value} {odO anO : Option Addr} {slO : Array (Option Value)} {kVO dcO pmO cdO ctO : Value} {fZ : Addr} {ocZ : Value} {odZ anZ : Option Addr} {slZ : Array (Option Value)} {kVZ dcZ pmZ cdZ ctZ : Value} {fS : Addr} {ocS : Value} {odS anS : Option Addr} {slS : Array (Option Value)} {kVS dcS pmS cdS ctS : Value} {fB : Addr} {ocB : Value} {odB anB : Option Addr} {slB : Array (Option Value)} {kVB dcB pmB cdB ctB : Value} {fR : Addr} {ocR : Value} {odR anR : Option Addr} {slR : Array (Option Value)} {kVR dcR pmR cdR ctR : Value} {fU : Addr} {ocU : Value} {odU anU : Option Addr} {slU : Array (Option Value)} {kVU dcU pmU cdU ctU : Value} {fI : Addr} {ocI : Value} {odI anI : Option Addr} {slI : Array (Option Value)} {kVI dcI pmI cdI ctI : Value} {fT : Addr} {ocT : Value} {odT anT : Option Addr} {slT : Array (Option Value)} {kVT dcT pmT cdT ctT : Value} {fQ : Addr} {ocQ : Value} {odQ anQ : Option Addr} {slQ : Array (Option Value)} {kVQ dcQ pmQ cdQ ctQ : Value} {fX : Addr} {ocX : Value} {odX anX : Option Addr} {slX : Array (Option Value)} {kVX dcX pmX cdX ctX : Value}
    (aH : PySem.W.nsIn K mainGlobals "is_whole" = some (some (.ref fH)))
    (lH : K.lookup fH = some ⟨ocH, odH, .func (PySem.W.fnOf "is_whole" "is_whole" (defArgs sWhole) (defBody sWhole) (defScope sWhole) .none kVH dcH pmH anH cdH ctH), slH⟩)
    (cH : PySem.W.codeIn K cdH "is_whole" = true)
    (kH : PySem.W.keepIn K (.ref fH) = true)
    (aA : PySem.W.nsIn K mainGlobals "is_ascending" = some (some (.ref fA)))
    (lA : K.lookup fA = some ⟨ocA, odA, .func (PySem.W.fnOf "is_ascending" "is_ascending" (defArgs sAsc) (defBody sAsc) (defScope sAsc) .none kVA dcA pmA anA cdA ctA), slA⟩)
    (cA : PySem.W.codeIn K cdA "is_ascending" = true)
    (kA : PySem.W.keepIn K (.ref fA) = true)
    (aE : PySem.W.nsIn K mainGlobals "is_text" = some (some (.ref fE)))
    (lE : K.lookup fE = some ⟨ocE, odE, .func (PySem.W.fnOf "is_text" "is_text" (defArgs sText) (defBody sText) (defScope sText) .none kVE dcE pmE anE cdE ctE), slE⟩)
    (cE : PySem.W.codeIn K cdE "is_text" = true)
    (kE : PySem.W.keepIn K (.ref fE) = true)
    (aD : PySem.W.nsIn K mainGlobals "is_word" = some (some (.ref fD)))
    (lD : K.lookup fD = some ⟨ocD, odD, .func (PySem.W.fnOf "is_word" "is_word" (defArgs sWordQ) (defBody sWordQ) (defScope sWordQ) .none kVD dcD pmD anD cdD ctD), slD⟩)
    (cD : PySem.W.codeIn K cdD "is_word" = true)
    (kD : PySem.W.keepIn K (.ref fD) = true)
    (aG : PySem.W.nsIn K mainGlobals "is_words" = some (some (.ref fG)))
    (lG : K.lookup fG = some ⟨ocG, odG, .func (PySem.W.fnOf "is_words" "is_words" (defArgs sWordsQ) (defBody sWordsQ) (defScope sWordsQ) .none kVG dcG pmG anG cdG ctG), slG⟩)
    (cG : PySem.W.codeIn K cdG "is_words" = true)
    (kG : PySem.W.keepIn K (.ref fG) = true)
    (aC : PySem.W.nsIn K mainGlobals "is_shorter_ones" = some (some (.ref fC)))
    (lC : K.lookup fC = some ⟨ocC, odC, .func (PySem.W.fnOf "is_shorter_ones" "is_shorter_ones" (defArgs sShort) (defBody sShort) (defScope sShort) .none kVC dcC pmC anC cdC ctC), slC⟩)
    (cC : PySem.W.codeIn K cdC "is_shorter_ones" = true)
    (kC : PySem.W.keepIn K (.ref fC) = true)
    (aJ : PySem.W.nsIn K mainGlobals "is_judge" = some (some (.ref fJ)))
    (lJ : K.lookup fJ = some ⟨ocJ, odJ, .func (PySem.W.fnOf "is_judge" "is_judge" (defArgs sJudge) (defBody sJudge) (defScope sJudge) .none kVJ dcJ pmJ anJ cdJ ctJ), slJ⟩)
    (cJ : PySem.W.codeIn K cdJ "is_judge" = true)
    (kJ : PySem.W.keepIn K (.ref fJ) = true)
    (aK : PySem.W.nsIn K mainGlobals "_law_deck" = some (some (.ref fK)))
    (lK : K.lookup fK = some ⟨ocK, odK, .func (PySem.W.fnOf "_law_deck" "_law_deck" (defArgs sDeck) (defBody sDeck) (defScope sDeck) .none kVK dcK pmK anK cdK ctK), slK⟩)
    (cK : PySem.W.codeIn K cdK "_law_deck" = true)
    (kK : PySem.W.keepIn K (.ref fK) = true)
    (aW : PySem.W.nsIn K mainGlobals "_law_draw" = some (some (.ref fW)))
    (lW : K.lookup fW = some ⟨ocW, odW, .func (PySem.W.fnOf "_law_draw" "_law_draw" (defArgs sDraw) (defBody sDraw) (defScope sDraw) .none kVW dcW pmW anW cdW ctW), slW⟩)
    (cW : PySem.W.codeIn K cdW "_law_draw" = true)
    (kW : PySem.W.keepIn K (.ref fW) = true)
    (aP : PySem.W.nsIn K mainGlobals "_law_pick" = some (some (.ref fP)))
    (lP : K.lookup fP = some ⟨ocP, odP, .func (PySem.W.fnOf "_law_pick" "_law_pick" (defArgs sPick) (defBody sPick) (defScope sPick) .none kVP dcP pmP anP cdP ctP), slP⟩)
    (cP : PySem.W.codeIn K cdP "_law_pick" = true)
    (kP : PySem.W.keepIn K (.ref fP) = true)
    (aO : PySem.W.nsIn K mainGlobals "_law_words" = some (some (.ref fO)))
    (lO : K.lookup fO = some ⟨ocO, odO, .func (PySem.W.fnOf "_law_words" "_law_words" (defArgs sWords) (defBody sWords) (defScope sWords) .none kVO dcO pmO anO cdO ctO), slO⟩)
    (cO : PySem.W.codeIn K cdO "_law_words" = true)
    (kO : PySem.W.keepIn K (.ref fO) = true)
    (aZ : PySem.W.nsIn K mainGlobals "_law_sizes" = some (some (.ref fZ)))
    (lZ : K.lookup fZ = some ⟨ocZ, odZ, .func (PySem.W.fnOf "_law_sizes" "_law_sizes" (defArgs sSizes) (defBody sSizes) (defScope sSizes) .none kVZ dcZ pmZ anZ cdZ ctZ), slZ⟩)
    (cZ : PySem.W.codeIn K cdZ "_law_sizes" = true)
    (kZ : PySem.W.keepIn K (.ref fZ) = true)
    (aS : PySem.W.nsIn K mainGlobals "_law_some" = some (some (.ref fS)))
    (lS : K.lookup fS = some ⟨ocS, odS, .func (PySem.W.fnOf "_law_some" "_law_some" (defArgs sSome) (defBody sSome) (defScope sSome) .none kVS dcS pmS anS cdS ctS), slS⟩)
    (cS : PySem.W.codeIn K cdS "_law_some" = true)
    (kS : PySem.W.keepIn K (.ref fS) = true)
    (aB : PySem.W.nsIn K mainGlobals "_law_bars" = some (some (.ref fB)))
    (lB : K.lookup fB = some ⟨ocB, odB, .func (PySem.W.fnOf "_law_bars" "_law_bars" (defArgs sBars) (defBody sBars) (defScope sBars) .none kVB dcB pmB anB cdB ctB), slB⟩)
    (cB : PySem.W.codeIn K cdB "_law_bars" = true)
    (kB : PySem.W.keepIn K (.ref fB) = true)
    (aR : PySem.W.nsIn K mainGlobals "_law_rises" = some (some (.ref fR)))
    (lR : K.lookup fR = some ⟨ocR, odR, .func (PySem.W.fnOf "_law_rises" "_law_rises" (defArgs sRises) (defBody sRises) (defScope sRises) .none kVR dcR pmR anR cdR ctR), slR⟩)
    (cR : PySem.W.codeIn K cdR "_law_rises" = true)
    (kR : PySem.W.keepIn K (.ref fR) = true)
    (aU : PySem.W.nsIn K mainGlobals "_law_are_words" = some (some (.ref fU)))
    (lU : K.lookup fU = some ⟨ocU, odU, .func (PySem.W.fnOf "_law_are_words" "_law_are_words" (defArgs sAreW) (defBody sAreW) (defScope sAreW) .none kVU dcU pmU anU cdU ctU), slU⟩)
    (cU : PySem.W.codeIn K cdU "_law_are_words" = true)
    (kU : PySem.W.keepIn K (.ref fU) = true)
    (aI : PySem.W.nsIn K mainGlobals "_law_is_judge" = some (some (.ref fI)))
    (lI : K.lookup fI = some ⟨ocI, odI, .func (PySem.W.fnOf "_law_is_judge" "_law_is_judge" (defArgs sIsJ) (defBody sIsJ) (defScope sIsJ) .none kVI dcI pmI anI cdI ctI), slI⟩)
    (cI : PySem.W.codeIn K cdI "_law_is_judge" = true)
    (kI : PySem.W.keepIn K (.ref fI) = true)
    (aT : PySem.W.nsIn K mainGlobals "_law_bent" = some (some (.ref fT)))
    (lT : K.lookup fT = some ⟨ocT, odT, .func (PySem.W.fnOf "_law_bent" "_law_bent" (defArgs sBentQ) (defBody sBentQ) (defScope sBentQ) .none kVT dcT pmT anT cdT ctT), slT⟩)
    (cT : PySem.W.codeIn K cdT "_law_bent" = true)
    (kT : PySem.W.keepIn K (.ref fT) = true)
    (aQ : PySem.W.nsIn K mainGlobals "_law_right" = some (some (.ref fQ)))
    (lQ : K.lookup fQ = some ⟨ocQ, odQ, .func (PySem.W.fnOf "_law_right" "_law_right" (defArgs sRightQ) (defBody sRightQ) (defScope sRightQ) .none kVQ dcQ pmQ anQ cdQ ctQ), slQ⟩)
    (cQ : PySem.W.codeIn K cdQ "_law_right" = true)
    (kQ : PySem.W.keepIn K (.ref fQ) = true)
    (aX : PySem.W.nsIn K mainGlobals "law" = some (some (.ref fX)))
    (lX : K.lookup fX = some ⟨ocX, odX, .func (PySem.W.fnOf "law" "law" (defArgs sLaw) (defBody sLaw) (defScope sLaw) .none kVX dcX pmX anX cdX ctX), slX⟩)
    (cX : PySem.W.codeIn K cdX "law" = true)
    (kX : PySem.W.keepIn K (.ref fX) = true)
    (z_list : PySem.W.nsIn K mainGlobals "list" = some none)
    (z_int : PySem.W.nsIn K mainGlobals "int" = some none)
    (z_len : PySem.W.nsIn K mainGlobals "len" = some none)
    (z_range : PySem.W.nsIn K mainGlobals "range" = some none)
    (z_tuple : PySem.W.nsIn K mainGlobals "tuple" = some none)
    (z_isinstance : PySem.W.nsIn K mainGlobals "isinstance" = some none)
    (z_bool : PySem.W.nsIn K mainGlobals "bool" = some none)
    (z_str : PySem.W.nsIn K mainGlobals "str" = some none)
    (z_all : PySem.W.nsIn K mainGlobals "all" = some none)
    (z_zip : PySem.W.nsIn K mainGlobals "zip" = some none)
    (z_repr : PySem.W.nsIn K mainGlobals "repr" = some none) :
    ∃ fd : FuncData, (∀ (s : Shared) (v : Value), BindsTo s fd ⟨[v], []⟩ [("_law_script", v)]) ∧ ∀ base : Heap, K.In base → base.Ns mainGlobals mg → FnG l.prog w K mg base 8 fa fd ["_law_script"] (spLaw K) := by
  have e := hfa.symm.trans (PySem.W.mg_of X G aX)
  cases e
  have FH := fun_mk (st := sWhole) lH cH kH
  have bH := FH.binds (ps := ["thing"]) fun _ _ _ _ _ _ us hl => match us, hl with | [_], _ => rfl
  have gH := PySem.W.mg_of X G aH
  have FA := fun_mk (st := sAsc) lA cA kA
  have bA := FA.binds (ps := ["things"]) fun _ _ _ _ _ _ us hl => match us, hl with | [_], _ => rfl
  have gA := PySem.W.mg_of X G aA
  have FE := fun_mk (st := sText) lE cE kE
  have bE := FE.binds (ps := ["letters", "thing"]) fun _ _ _ _ _ _ us hl => match us, hl with | [_, _], _ => rfl
  have gE := PySem.W.mg_of X G aE
  have FD := fun_mk (st := sWordQ) lD cD kD
  have bD := FD.binds (ps := ["letters", "length", "thing"]) fun _ _ _ _ _ _ us hl => match us, hl with | [_, _, _], _ => rfl
  have gD := PySem.W.mg_of X G aD
  have FG := fun_mk (st := sWordsQ) lG cG kG
  have bG := FG.binds (ps := ["letters", "length", "thing"]) fun _ _ _ _ _ _ us hl => match us, hl with | [_, _, _], _ => rfl
  have gG := PySem.W.mg_of X G aG
  have FC := fun_mk (st := sShort) lC cC kC
  have bC := FC.binds (ps := ["letters", "width", "thing"]) fun _ _ _ _ _ _ us hl => match us, hl with | [_, _, _], _ => rfl
  have gC := PySem.W.mg_of X G aC
  have FJ := fun_mk (st := sJudge) lJ cJ kJ
  have bJ := FJ.binds (ps := ["letters", "thing"]) fun _ _ _ _ _ _ us hl => match us, hl with | [_, _], _ => rfl
  have gJ := PySem.W.mg_of X G aJ
  have FK := fun_mk (st := sDeck) lK cK kK
  have bK := FK.binds (ps := ["_law_script"]) fun _ _ _ _ _ _ us hl => match us, hl with | [_], _ => rfl
  have gK := PySem.W.mg_of X G aK
  have FW := fun_mk (st := sDraw) lW cW kW
  have bW := FW.binds (ps := ["_law_deck_here", "_law_many"]) fun _ _ _ _ _ _ us hl => match us, hl with | [_, _], _ => rfl
  have gW := PySem.W.mg_of X G aW
  have FP := fun_mk (st := sPick) lP cP kP
  have bP := FP.binds (ps := ["_law_deck_here", "_law_some_here"]) fun _ _ _ _ _ _ us hl => match us, hl with | [_, _], _ => rfl
  have gP := PySem.W.mg_of X G aP
  have FO := fun_mk (st := sWords) lO cO kO
  have bO := FO.binds (ps := ["_law_abc", "_law_size"]) fun _ _ _ _ _ _ us hl => match us, hl with | [_, _], _ => rfl
  have gO := PySem.W.mg_of X G aO
  have FZ := fun_mk (st := sSizes) lZ cZ kZ
  have bZ := FZ.binds (ps := ["_law_deck_here"]) fun _ _ _ _ _ _ us hl => match us, hl with | [_], _ => rfl
  have gZ := PySem.W.mg_of X G aZ
  have FS := fun_mk (st := sSome) lS cS kS
  have bS := FS.binds (ps := ["_law_deck_here", "_law_items", "_law_share"]) fun _ _ _ _ _ _ us hl => match us, hl with | [_, _, _], _ => rfl
  have gS := PySem.W.mg_of X G aS
  have FB := fun_mk (st := sBars) lB cB kB
  have bB := FB.binds (ps := ["_law_deck_here", "_law_abc", "_law_wide"]) fun _ _ _ _ _ _ us hl => match us, hl with | [_, _, _], _ => rfl
  have gB := PySem.W.mg_of X G aB
  have FR := fun_mk (st := sRises) lR cR kR
  have bR := FR.binds (ps := ["_law_items"]) fun _ _ _ _ _ _ us hl => match us, hl with | [_], _ => rfl
  have gR := PySem.W.mg_of X G aR
  have FU := fun_mk (st := sAreW) lU cU kU
  have bU := FU.binds (ps := ["_law_abc", "_law_low", "_law_high", "_law_some_here"]) fun _ _ _ _ _ _ us hl => match us, hl with | [_, _, _, _], _ => rfl
  have gU := PySem.W.mg_of X G aU
  have FI := fun_mk (st := sIsJ) lI cI kI
  have bI := FI.binds (ps := ["_law_abc", "_law_it"]) fun _ _ _ _ _ _ us hl => match us, hl with | [_, _], _ => rfl
  have gI := PySem.W.mg_of X G aI
  have FT := fun_mk (st := sBentQ) lT cT kT
  have bT := FT.binds (ps := ["_law_deck_here", "_law_abc", "_law_it"]) fun _ _ _ _ _ _ us hl => match us, hl with | [_, _, _], _ => rfl
  have gT := PySem.W.mg_of X G aT
  have FQ := fun_mk (st := sRightQ) lQ cQ kQ
  have bQ := FQ.binds (ps := ["_law_abc", "_law_it"]) fun _ _ _ _ _ _ us hl => match us, hl with | [_, _], _ => rfl
  have gQ := PySem.W.mg_of X G aQ
  have FX := fun_mk (st := sLaw) lX cX kX
  have gX := PySem.W.mg_of X G aX
  have n_list := PySem.W.mg_none_of X G z_list
  have n_int := PySem.W.mg_none_of X G z_int
  have n_len := PySem.W.mg_none_of X G z_len
  have n_range := PySem.W.mg_none_of X G z_range
  have n_tuple := PySem.W.mg_none_of X G z_tuple
  have n_isinstance := PySem.W.mg_none_of X G z_isinstance
  have n_bool := PySem.W.mg_none_of X G z_bool
  have n_str := PySem.W.mg_none_of X G z_str
  have n_all := PySem.W.mg_none_of X G z_all
  have n_zip := PySem.W.mg_none_of X G z_zip
  have n_repr := PySem.W.mg_none_of X G z_repr
  refine ⟨PySem.W.fnOf "law" "law" (defArgs sLaw) (defBody sLaw) (defScope sLaw) .none kVX dcX pmX anX cdX ctX, fun s v => .of_eq rfl, fun base _ _ => ?_⟩
  have TD : TxtD mg fW := ⟨n_list, n_int, n_len, gW⟩
  have TI : TxtI mg := ⟨n_isinstance, n_int, n_bool, n_str, n_tuple, n_len, n_all, n_zip⟩
  have TW : TxtW mg fW fP := { toTxtD := TD, pick := gP, range := n_range, tuple := n_tuple }
  have TL : TxtL mg fK fZ fB fT fQ fJ := { deck := gK, sizes := gZ, bars := gB, bent := gT, right := gQ, judge := gJ, range := n_range, list := n_list }
  have GH := ok_whole (P := l.prog) (w := w) (base := base) FH TI
  have GE := ok_text (P := l.prog) (w := w) (base := base) FE TI
  have GAW := ok_ascW (P := l.prog) (w := w) (base := base) FA TI
  have GAP := ok_ascP (P := l.prog) (w := w) (base := base) FA TI
  have GD := ok_wordQ (P := l.prog) (w := w) (base := base) FD TI GE bE FE.kp gE
  have GG := ok_wordsQ (P := l.prog) (w := w) (base := base) FG TI GD bD FD.kp gD GAW bA FA.kp gA
  have GC := ok_shortQ (P := l.prog) (w := w) (base := base) FC TI GE bE FE.kp gE GAP bA FA.kp gA
  have GJ := ok_judgeQ (P := l.prog) (w := w) (base := base) FJ TI GH bH FH.kp gH GC bC FC.kp gC GG bG FG.kp gG
  have GW := ok_draw (P := l.prog) (w := w) (base := base) FW TD
  have GP := ok_pick (P := l.prog) (w := w) (base := base) FP FW bW TD
  have GO := ok_words (P := l.prog) (w := w) (base := base) FO TW
  have GZ := ok_sizes (P := l.prog) (w := w) (base := base) FZ TW GW bW FW.kp GP bP FP.kp
  have GS := ok_some (P := l.prog) (w := w) (base := base) FS TW GW bW FW.kp
  have GB := ok_bars (P := l.prog) (w := w) (base := base) FB TW GP bP FP.kp GO bO FO.kp gO GS bS FS.kp gS
  have GRW := ok_risesW (P := l.prog) (w := w) (base := base) FR TI n_range
  have GRP := ok_risesP (P := l.prog) (w := w) (base := base) FR TI n_range
  have GU := ok_areW (P := l.prog) (w := w) (base := base) FU TI
  have GI := ok_isJ (P := l.prog) (w := w) (base := base) FI TI GU bU FU.kp gU GRP GRW bR FR.kp gR
  have T0 := ok_bent0 (P := l.prog) (w := w) (mg := mg) (base := base) FT
  have T1 := ok_bentS 0 FT TI TW GW bW FW.kp GP bP FP.kp T0 bT FT.kp gT
  have T2 := ok_bentS 1 FT TI TW GW bW FW.kp GP bP FP.kp T1 bT FT.kp gT
  have T3 := ok_bentS 2 FT TI TW GW bW FW.kp GP bP FP.kp T2 bT FT.kp gT
  have T4 := ok_bentS 3 FT TI TW GW bW FW.kp GP bP FP.kp T3 bT FT.kp gT
  have GQ := ok_rightQ (P := l.prog) (w := w) (base := base) FQ n_repr GI bI FI.kp gI GJ bJ FJ.kp (kb_judge FJ) gJ
  exact ok_law FX TL (ok_deck FK TD) bK FK.kp GZ bZ FZ.kp GB bB FB.kp T4 bT FT.kp GQ bQ FQ.kp GJ bJ FJ.kp
end
theorem walk {l : PySem.W.OpenLaw} {q : Program} {loose : List Str} {XP : (Str → Option Value) → Heap → Prop} {YP : World → Heap → Prop} {d : DefRec} {K : Params → PySem.W.Frag} (hn : l.most = some 63) (hdf : d.params.defaults = [])
    (hY : ∀ (w : World) (h : Heap), YP w h → (K w.params).In h)
    (F : ∀ (w : World) (mg : Str → Option Value) (fa : Addr) (h : Heap), (K w.params).In h → h.Ns mainGlobals mg → mg d.name = some (.ref fa) →
      ∃ fd : FuncData, (∀ (s : Shared) (u : Value), BindsTo s fd ⟨[u], []⟩ [("_law_script", u)]) ∧ ∀ base : Heap, (K w.params).In base → base.Ns mainGlobals mg → FnG l.prog w (K w.params) mg base 8 fa fd ["_law_script"] (spLaw (K w.params))) :
    PySem.W.WalkO q loose XP YP l.row.toRowW d [] (fun f vs => PySem.call f vs) :=
  walk_ofG (n := 63) (k := 8) (x := "_law_script") (sp := fun w => spLaw (K w.params)) hn (by decide) hdf ⟨rfl, by decide, by decide⟩ hY F (fun _ _ a ns hl _ hS => ⟨a, ns, rfl, hS, hl, fun _ => rfl⟩)
end Vf
open PySem PySem.W PyProof.Rows
set_option maxRecDepth 100000 in
set_option maxHeartbeats 0 in
theorem PySem.Challenge.cw_piecesseen_k20_judges_of_any_value_holds : PySem.Challenge.rw_piecesseen_k20_judges_of_any_value.Holds := by
  w_on; o_law; k_head; (case hw => w_witness2)
  k_fill
  refine Vf.walk (l := PySem.Challenge.rw_piecesseen_k20_judges_of_any_value) rfl rfl (fun w h Y => PySem.W.kIn_of Y) ?F
  case F =>
    intro w mg fa h KX G hmg
    refine' Vf.all_mk KX G hmg ?aH ?lH ?cH ?kH ?aA ?lA ?cA ?kA ?aE ?lE ?cE ?kE ?aD ?lD ?cD ?kD ?aG ?lG ?cG ?kG ?aC ?lC ?cC ?kC ?aJ ?lJ ?cJ ?kJ ?aK ?lK ?cK ?kK ?aW ?lW ?cW ?kW ?aP ?lP ?cP ?kP ?aO ?lO ?cO ?kO ?aZ ?lZ ?cZ ?kZ ?aS ?lS ?cS ?kS ?aB ?lB ?cB ?kB ?aR ?lR ?cR ?kR ?aU ?lU ?cU ?kU ?aI ?lI ?cI ?kI ?aT ?lT ?cT ?kT ?aQ ?lQ ?cQ ?kQ ?aX ?lX ?cX ?kX ?z_list ?z_int ?z_len ?z_range ?z_tuple ?z_isinstance ?z_bool ?z_str ?z_all ?z_zip ?z_repr
    (case aH => k_is)
    (case lH => k_is)
    (case cH => k_is)
    (case kH => k_is)
    (case aA => k_is)
    (case lA => k_is)
    (case cA => k_is)
    (case kA => k_is)
    (case aE => k_is)
    (case lE => k_is)
    (case cE => k_is)
    (case kE => k_is)
    (case aD => k_is)
    (case lD => k_is)
    (case cD => k_is)
    (case kD => k_is)
    (case aG => k_is)
    (case lG => k_is)
    (case cG => k_is)
    (case kG => k_is)
    (case aC => k_is)
    (case lC => k_is)
    (case cC => k_is)
    (case kC => k_is)
    (case aJ => k_is)
    (case lJ => k_is)
    (case cJ => k_is)
    (case kJ => k_is)
    (case aK => k_is)
    (case lK => k_is)
    (case cK => k_is)
    (case kK => k_is)
    (case aW => k_is)
    (case lW => k_is)
    (case cW => k_is)
    (case kW => k_is)
    (case aP => k_is)
    (case lP => k_is)
    (case cP => k_is)
    (case kP => k_is)
    (case aO => k_is)
    (case lO => k_is)
    (case cO => k_is)
    (case kO => k_is)
    (case aZ => k_is)
    (case lZ => k_is)
    (case cZ => k_is)
    (case kZ => k_is)
    (case aS => k_is)
    (case lS => k_is)
    (case cS => k_is)
    (case kS => k_is)
    (case aB => k_is)
    (case lB => k_is)
    (case cB => k_is)
    (case kB => k_is)
    (case aR => k_is)
    (case lR => k_is)
    (case cR => k_is)
    (case kR => k_is)
    (case aU => k_is)
    (case lU => k_is)
    (case cU => k_is)
    (case kU => k_is)
    (case aI => k_is)
    (case lI => k_is)
    (case cI => k_is)
    (case kI => k_is)
    (case aT => k_is)
    (case lT => k_is)
    (case cT => k_is)
    (case kT => k_is)
    (case aQ => k_is)
    (case lQ => k_is)
    (case cQ => k_is)
    (case kQ => k_is)
    (case aX => k_is)
    (case lX => k_is)
    (case cX => k_is)
    (case kX => k_is)
    (case z_list => k_is)
    (case z_int => k_is)
    (case z_len => k_is)
    (case z_range => k_is)
    (case z_tuple => k_is)
    (case z_isinstance => k_is)
    (case z_bool => k_is)
    (case z_str => k_is)
    (case z_all => k_is)
    (case z_zip => k_is)
    (case z_repr => k_is)
