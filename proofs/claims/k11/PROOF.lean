import PyProof.Rows.All
import Wide.All
import OpenK.AllK
import Wide.FinOn
import HandS.Base
import HandS.Call
import HandS.List
import HandS.Comp
import HandS.Ends
import HandS.Dict
import HandS.Iter
import HandS.Text
import HandS.Words
import HandS.WordsList
import HandS.IsInst
import HandS.Walk
import HandS.TupAny
import HandS.StrMore
import HandS.Evl
import HandS.Exc
import HandS.ExcOwn
import HandS.ExcIs
import HandS.WordsExc
import HandS.Zip
import HandS.SortInts
import HandS.Style
import HandS.RaiseMore
import PyProof.ReprReads
import PyProof.ReprRoads
import PyProof.Rows.NestShow
import HandS.TupLe
import HandS.Wide
import HandS.TupMul
import PyProof.CallFns
import PyProof.RangeFor
import PyProof.ListRange
import KE.GoesMore
import PyProof.Draws
import PyProof.EnumMake
import PyProof.EnumFor
import KE.GoesZip
import KE.GoesEnum
import PyProof.StrLawsRepr
import PyProof.FitsInt
import KE.BitLaws
import PySem.Challenge.RW_tunehall_k11_plans_looked_at
set_option Elab.async false
set_option linter.all false
set_option maxRecDepth 100000
set_option maxHeartbeats 4000000
namespace Pre
open PySem PySem.Spec PyProof.Rows L2
/-- a text of these signs -/
abbrev tx (l : List Nat) : Str := ⟨l.toArray⟩
theorem tx_len (l : List Nat) : (tx l).length = l.length := by simp [tx, PySem.Str.length]
theorem tx_of (z : Str) : tx z.cps.toList = z := by cases z; simp [tx]
theorem tx_tl (l : List Nat) : (tx l).cps.toList = l := rfl
theorem tx_inj {a b : List Nat} : tx a = tx b ↔ a = b := ⟨fun h => by have := congrArg (fun z : Str => z.cps.toList) h; simpa using this, fun h => by rw [h]⟩
theorem sz {n : Nat} (h : n ≤ 100000) : n ≤ sizeLine := Nat.le_trans h (by decide)
theorem szl {n : Nat} (h : n < 100000) : n < sizeLine := Nat.lt_of_lt_of_le h (by decide)
theorem same_new {H : Hp} {p : Addr} {o : HO} (h : H p = none) : Same H (upd H p o) := fun b x e => by
  rw [upd_ne (ne_of_none e h)]
  exact e
theorem same_mut {H H' : Hp} {p : Addr} {o : HO} (s : Same H H') (h : H p = none) : Same H (upd H' p o) := fun b x e => by
  rw [upd_ne (ne_of_none e h)]
  exact s _ _ e
/-- [e for c in text if t]: test and element pure, the heap as it is -/
theorem lc_text {i : Nat} {tl : TE} {tt : TT} {te : TE} {σ : L2.St} {H : Hp} {Q : VK} (l : List Nat) (p : Nat → Bool) (f : Nat → V) (hl : l.length ≤ 50000)
    (hj : ∀ R : V → Hp → Prop, R (.str (tx l)) H → tl σ H R) (hw : ∀ x, wipe ((wipe σ [i]).set i (some x)) [i] = wipe σ [i])
    (ht : ∀ c ∈ l, ∀ (H' : Hp) (R : Bool → Hp → Prop), R (p c) H' → tt ((wipe σ [i]).set i (some (.str (tx [c])))) H' R)
    (he : ∀ c ∈ l, p c = true → ∀ (H' : Hp) (R : VK), R (f c) H' → te ((wipe σ [i]).set i (some (.str (tx [c])))) H' R)
    (q : ∀ (D : Addr) (H' : Hp), H D = none → Same H H' → H' D = some (.lst ((l.filter p).map f)) → Q (.ref D) H') : tLc (iStr tl) (gName i) tt te [i] σ H Q := by
  refine hj _ ⟨_, rfl, fun D hD => ?_⟩
  refine lc_it walk_str (fun k H' => Same H H' ∧ H' D = some (.lst (((l.take k).filter p).map f))) ⟨same_new hD, by rw [upd_same]; rfl⟩ (fun _ _ _ _ => trivial) (fun k x H1 H2 hk hP hY => ?_) (fun H' hP => ?_)
  · obtain ⟨rfl, c, hc, rfl⟩ := hY
    obtain ⟨s1, h1⟩ := hP
    have hc' : l[k]? = some c := by simpa using hc
    have hm : c ∈ l := List.mem_of_getElem? hc'
    refine ⟨hw _, ht c hm _ _ ?_⟩
    have hkl : k < l.length := by
      have e : (tx l).cps.size = l.length := by simp
      omega
    have e2 : l.take (k + 1) = l.take k ++ [c] := by
      rw [List.take_add_one, hc']
      rfl
    by_cases hp : p c = true
    · rw [if_pos hp]
      refine he c hm hp _ _ ⟨_, h1, szl ?_, same_mut s1 hD, ?_⟩
      · have := List.length_filter_le p (l.take k)
        rw [List.length_map]
        have e3 : (l.take k).length ≤ l.length := List.length_take_le' _ _
        omega
      · rw [upd_same, e2, List.filter_append, List.map_append]
        simp [hp]
    · rw [if_neg hp]
      refine ⟨s1, ?_⟩
      rw [h1, e2, List.filter_append, List.map_append]
      simp [hp]
  · obtain ⟨s1, h1⟩ := hP
    have e : (tx l).cps.size = l.length := by simp
    rw [e, List.take_length] at h1
    exact q D H' hD s1 h1
/-- [e for x in list if t] over a list that stands -/
theorem lc_lst {i : Nat} {K : PySem.W.Frag} {tl : TE} {tt : TT} {te : TE} {σ : L2.St} {H : Hp} {Q : VK} (xs : List V) (p : V → Bool) (f : V → V) (hl : xs.length ≤ 50000)
    (hj : ∀ R : V → Hp → Prop, (∀ a H', Same H H' → SqL K H' a xs → R (.ref a) H') → tl σ H R) (hw : ∀ x, wipe ((wipe σ [i]).set i (some x)) [i] = wipe σ [i])
    (ht : ∀ x ∈ xs, ∀ (H' : Hp) (R : Bool → Hp → Prop), Same H H' → R (p x) H' → tt ((wipe σ [i]).set i (some x)) H' R)
    (he : ∀ x ∈ xs, p x = true → ∀ (H' : Hp) (R : VK), Same H H' → R (f x) H' → te ((wipe σ [i]).set i (some x)) H' R)
    (q : ∀ (D : Addr) (H' : Hp), H D = none → Same H H' → H' D = some (.lst ((xs.filter p).map f)) → Q (.ref D) H') : tLc (iList K tl) (gName i) tt te [i] σ H Q := by
  refine hj _ fun a H0 s0 hA => ⟨a, rfl, ⟨xs, hA⟩, fun D hD => ?_⟩
  refine lc_it (walk_list (xs := xs)) (fun k H' => Same H0 H' ∧ H' D = some (.lst (((xs.take k).filter p).map f))) ⟨same_new hD, by rw [upd_same]; rfl⟩ (fun _ _ _ hP => hP.1.seq hA) (fun k x H1 H2 hk hP hY => ?_) (fun H' hP => ?_)
  · obtain ⟨rfl, hc⟩ := hY
    obtain ⟨s1, h1⟩ := hP
    have hm : x ∈ xs := List.mem_of_getElem? hc
    refine ⟨hw _, ht x hm _ _ (s0.trans s1) ?_⟩
    have e2 : xs.take (k + 1) = xs.take k ++ [x] := by
      rw [List.take_add_one, hc]
      rfl
    by_cases hp : p x = true
    · rw [if_pos hp]
      refine he x hm hp _ _ (s0.trans s1) ⟨_, h1, szl ?_, same_mut s1 hD, ?_⟩
      · have := List.length_filter_le p (xs.take k)
        rw [List.length_map]
        have e3 : (xs.take k).length ≤ xs.length := List.length_take_le' _ _
        omega
      · rw [upd_same, e2, List.filter_append, List.map_append]
        simp [hp]
    · rw [if_neg hp]
      refine ⟨s1, ?_⟩
      rw [h1, e2, List.filter_append, List.map_append]
      simp [hp]
  · obtain ⟨s1, h1⟩ := hP
    rw [List.take_length] at h1
    exact q D H' (s0.free hD) (s0.trans s1) h1
theorem atI_lt {α : Type} {xs : List α} {i : Int} (h0 : 0 ≤ i) (h1 : i < xs.length) : ∃ v, atI xs i = some v ∧ v ∈ xs := by
  obtain ⟨n, rfl⟩ := Int.eq_ofNat_of_zero_le h0
  have hn : n < xs.length := by omega
  exact ⟨xs[n], atI_nat (by simp [hn]), List.getElem_mem hn⟩
theorem atI_zero {α : Type} {c : α} {r : List α} : atI (c :: r) 0 = some c := atI_nat (j := 0) rfl
theorem filt_true {α : Type} (l : List α) : l.filter (fun _ => true) = l := List.filter_eq_self.2 (by simp)
theorem takesNo {X : Cx} : Takes X (fun _ _ _ _ => False) := fun _ _ x => by
  obtain ⟨_, _, _, _, _, _, _, _, _, _, _, _, _, _, _, _, z⟩ := x
  exact z.elim
/-! lists of texts, by == -/
/-- signs below 128 -/
def Asc (l : List Nat) : Prop := ∀ c ∈ l, c < 128
def AscS (z : Str) : Prop := Asc z.cps.toList
theorem ascOk {z : Str} (h : AscS z) : PyData.strOk z = true := by
  unfold PyData.strOk
  rw [← Array.all_toList, List.all_eq_true]
  intro c hc
  have := h c hc
  exact decide_eq_true (by omega)
theorem canAll_strs {ss : List Str} (h : ∀ z ∈ ss, AscS z) : PyData.canLayAll0 (ss.map .str) = true := by
  induction ss with
  | nil => rfl
  | cons a r ih => simp [PyData.canLayAll0, PyData.canLay0, ih (fun z hz => h z (List.mem_cons_of_mem _ hz)), ascOk (h a List.mem_cons_self)]
theorem depthAll_strs (ss : List Str) : PyData.depthAll (ss.map .str) ≤ 1 := by
  induction ss with
  | nil => simp [PyData.depthAll]
  | cons a r ih => simp [PyData.depthAll, PyData.depth, ih]
theorem shaped_strs {ss : List Str} (h : ∀ z ∈ ss, AscS z) : SeqAt.shaped (.list (ss.map .str)) = true := by
  have h1 := depthAll_strs ss
  refine Bool.and_eq_true_iff.mpr ⟨by simp only [PyData.canLay0, canAll_strs h], decide_eq_true ?_⟩
  simp only [PyData.depth]
  omega
theorem eqvAll_strs : ∀ (a b : List Str), PyData.eqvAll (a.map .str) (b.map .str) = decide (a = b)
  | [], [] => by simp [PyData.eqvAll]
  | [], _ :: _ => by simp [PyData.eqvAll]
  | _ :: _, [] => by simp [PyData.eqvAll]
  | x :: r, y :: t => by
    have ih := eqvAll_strs r t
    simp only [List.map_cons, PyData.eqvAll, PyData.eqv, ih]
    by_cases h : x = y <;> by_cases h2 : r = t <;> simp [h, h2]
theorem eqv_strs (a b : List Str) : PyData.eqv (.list (a.map .str)) (.list (b.map .str)) = decide (a = b) := by
  simp only [PyData.eqv, eqvAll_strs]
theorem dpAll_strs {K : PySem.W.Frag} {H : Hp} : ∀ ss : List Str, DpAll K H (ss.map V.str) (ss.map .str)
  | [] => .nil
  | _ :: r => .cons (.str _) (dpAll_strs r)
theorem dp_strs {K : PySem.W.Frag} {H : Hp} {p : Addr} {ss : List Str} (h : SqL K H p (ss.map V.str)) : Dp K H (.ref p) (.list (ss.map .str)) := .lst h (dpAll_strs ss)
/-! slices, items -/
theorem cutS_tx (l : List Nat) (lo hi : Option Int) : ∃ k, cutS (tx l) lo hi = tx k ∧ (∀ c ∈ k, c ∈ l) ∧ k.length ≤ l.length :=
  ⟨_, rfl, fun c hc => List.mem_of_mem_drop (List.mem_of_mem_take hc), by simp only [List.length_take, List.length_drop]; omega⟩
theorem cutS_one (l : List Nat) : cutS (tx l) (some 1) none = tx l.tail := by
  unfold cutS
  rw [show HT.sIx (tx l).length 0 (some 1) = min 1 (tx l).length from HT.sIx_nat (tx l).length 0 1, HT.sIx_none, tx_len]
  cases l with
  | nil => rfl
  | cons c r =>
    rw [show min 1 (c :: r).length = 1 by rw [List.length_cons]; omega]
    show tx (List.take ((c :: r).length - 1) r) = tx r
    rw [List.length_cons, Nat.add_sub_cancel, List.take_length]
theorem starts_one (l : List Nat) (s : Nat) : Txt.startswith (tx l) (tx [s]) = decide (l.head? = some s) := by
  unfold Txt.startswith
  rw [StrLaws.subAt_eq, tx_len, tx_len]
  cases l with
  | nil => simp
  | cons c r =>
    simp [Bool.beq_eq_decide_eq]
theorem tx_app (a b : List Nat) : tx a ++ tx b = tx (a ++ b) := TL.ext_tl (by rw [TL.tl_append])
end Pre

namespace Dv
open PySem PySem.Spec PyProof.Rows L2 Pre
/-! ## data in heaps: a list stands as a tracked one; the script (locked) is told as a dict of its cells -/
/-- the locked script's data -/
def scr (ds : List PyData) : PyData := .dict (ds.map fun d => (d, .none))
/-- an error of an own class that is kept: its object -/
def exK (cls : Value) (d : Option Addr) (a : Addr) : HO := .ext fun h => ∃ (oe : Obj) (vs : Array Value), h.get? a = some oe ∧ Zc cls d oe ∧ oe.data = .fields vs
def exD (n : Str) : PyData := .dict [(.str n, .none)]
/-- the empty dict -/
def emD : PyData := .dict [(.none, .none)]
mutual
inductive Dq (K : PySem.W.Frag) (H : Hp) : V → PyData → Prop
  | non : Dq K H .non .none
  | bl (b : Bool) : Dq K H (.bl b) (.bool b)
  | int (i : Int) : Dq K H (.int i) (.int i)
  | str (x : Str) : Dq K H (.str x) (.str x)
  | lst {a : Addr} {xs : List V} {ds : List PyData} : H a = some (.lst xs) → DqAll K H xs ds → Dq K H (.ref a) (.list ds)
  | tup {a : Addr} {xs : List V} {ds : List PyData} : SqT K H a xs → DqAll K H xs ds → Dq K H (.ref a) (.tuple ds)
  | scr {a : Addr} {ns : List Int} : SqL K H a (ns.map V.int) → Dq K H (.ref a) (.dict (ns.map fun n => (.int n, .none)))
  | exc {a C : Addr} {n : Str} : PySem.W.nsIn K mainGlobals n = some (some (.ref C)) → H a = some (exK (.ref C) none a) → Dq K H (.ref a) (exD n)
  | emd {a : Addr} : H a = some (.dK []) → Dq K H (.ref a) emD
inductive DqAll (K : PySem.W.Frag) (H : Hp) : List V → List PyData → Prop
  | nil : DqAll K H [] []
  | cons {v : V} {vs : List V} {d : PyData} {ds : List PyData} : Dq K H v d → DqAll K H vs ds → DqAll K H (v :: vs) (d :: ds)
end
mutual
theorem dp_same {K : PySem.W.Frag} {H H' : Hp} (s : ∀ b o, H b = some o → H' b = some o) : ∀ (d : PyData) (v : V), Dq K H v d → Dq K H' v d
  | .none, _, h => by cases h; exact .non
  | .bool _, _, h => by cases h; exact .bl _
  | .int _, _, h => by cases h; exact .int _
  | .str _, _, h => by cases h; exact .str _
  | .list ds, _, h => by
    cases h with
    | lst h1 h2 => exact .lst (s _ _ h1) (dpAll_same s ds _ h2)
  | .tuple ds, _, h => by
    cases h with
    | tup h1 h2 => exact .tup (Evl.ex_t s h1) (dpAll_same s ds _ h2)
  | .dict _, _, h => by
    cases h with
    | scr h1 => exact .scr (Same.seq (show Same H H' from s) h1)
    | exc h0 h1 => exact .exc h0 (s _ _ h1)
    | emd h1 => exact .emd (s _ _ h1)
theorem dpAll_same {K : PySem.W.Frag} {H H' : Hp} (s : ∀ b o, H b = some o → H' b = some o) : ∀ (ds : List PyData) (vs : List V), DqAll K H vs ds → DqAll K H' vs ds
  | [], _, h => by cases h; exact .nil
  | d :: ds, _, h => by
    cases h with
    | cons h1 h2 => exact .cons (dp_same s d _ h1) (dpAll_same s ds _ h2)
end
mutual
theorem dq_dp {K : PySem.W.Frag} {H : Hp} : ∀ (d : PyData) (v : V), SeqAt.shaped d = true ∨ d.canLay0 = true → Dq K H v d → Dp K H v d
  | .none, _, _, h => by cases h; exact .non
  | .bool _, _, _, h => by cases h; exact .bl _
  | .int _, _, _, h => by cases h; exact .int _
  | .str _, _, _, h => by cases h; exact .str _
  | .list ds, _, c, h => by
    cases h with
    | lst h1 h2 => exact .lst (SqL.of h1) (dqAll_dp ds _ (by rcases c with c | c; exact (SeqAt.canLay_of_shaped c); exact c) h2)
  | .tuple ds, _, c, h => by
    cases h with
    | tup h1 h2 => exact .tup h1 (dqAll_dp ds _ (by rcases c with c | c; exact (SeqAt.canLay_of_shaped c); exact c) h2)
  | .dict _, _, c, _ => by
    rcases c with c | c
    · exact absurd (SeqAt.canLay_of_shaped c) (by simp [PyData.canLay0])
    · exact absurd c (by simp [PyData.canLay0])
theorem dqAll_dp {K : PySem.W.Frag} {H : Hp} : ∀ (ds : List PyData) (vs : List V), PyData.canLayAll0 ds = true → DqAll K H vs ds → DpAll K H vs ds
  | [], _, _, h => by cases h; exact .nil
  | d :: ds, _, c, h => by
    have c2 : d.canLay0 = true ∧ PyData.canLayAll0 ds = true := by simpa [PyData.canLayAll0] using c
    cases h with
    | cons h1 h2 => exact .cons (dq_dp d _ (.inr c2.1) h1) (dqAll_dp ds _ c2.2 h2)
end
theorem dpAll_len {K : PySem.W.Frag} {H : Hp} : ∀ {vs : List V} {ds : List PyData}, DqAll K H vs ds → vs.length = ds.length
  | _, _, .nil => rfl
  | _, _, .cons _ t => congrArg (· + 1) (dpAll_len t)
theorem dpAll_get {K : PySem.W.Frag} {H : Hp} : ∀ {vs : List V} {ds : List PyData} {i : Nat} {d : PyData}, DqAll K H vs ds → ds[i]? = some d → ∃ v, vs[i]? = some v ∧ Dq K H v d
  | _, _, _, _, .nil, h => by simp at h
  | _, _, 0, _, .cons h _, e => ⟨_, rfl, by have := Option.some.inj e; subst this; exact h⟩
  | _, _, i + 1, _, .cons _ t, e => by
    obtain ⟨v, h1, h2⟩ := dpAll_get (i := i) t e
    exact ⟨v, h1, h2⟩
theorem dpAll_getV {K : PySem.W.Frag} {H : Hp} {vs : List V} {ds : List PyData} {i : Nat} {v : V} (h : DqAll K H vs ds) (e : vs[i]? = some v) : ∃ d, ds[i]? = some d ∧ Dq K H v d := by
  have hl := dpAll_len h
  have hi := (List.getElem?_eq_some_iff.mp e).1
  have hd : ds[i]? = some ds[i] := List.getElem?_eq_getElem (by omega)
  obtain ⟨v', h1, h2⟩ := dpAll_get h hd
  rw [e] at h1
  cases h1
  exact ⟨_, hd, h2⟩
theorem dpAll_app {K : PySem.W.Frag} {H : Hp} : ∀ {vs ws : List V} {ds es : List PyData}, DqAll K H vs ds → DqAll K H ws es → DqAll K H (vs ++ ws) (ds ++ es)
  | _, _, _, _, .nil, h => h
  | _, _, _, _, .cons a t, h => .cons a (dpAll_app t h)
theorem dpAll_take {K : PySem.W.Frag} {H : Hp} : ∀ {vs : List V} {ds : List PyData} (n : Nat), DqAll K H vs ds → DqAll K H (vs.take n) (ds.take n)
  | _, _, 0, _ => by simpa using DqAll.nil
  | _, _, _ + 1, .nil => .nil
  | _, _, n + 1, .cons a t => .cons a (dpAll_take n t)
theorem dpAll_drop {K : PySem.W.Frag} {H : Hp} : ∀ {vs : List V} {ds : List PyData} (n : Nat), DqAll K H vs ds → DqAll K H (vs.drop n) (ds.drop n)
  | _, _, 0, h => h
  | _, _, _ + 1, .nil => .nil
  | _, _, n + 1, .cons _ t => dpAll_drop n t
theorem dp_list {K : PySem.W.Frag} {H : Hp} {v : V} {ds : List PyData} (h : Dq K H v (.list ds)) : ∃ a vs, v = .ref a ∧ H a = some (.lst vs) ∧ DqAll K H vs ds := by
  cases h with
  | lst h1 h2 => exact ⟨_, _, rfl, h1, h2⟩
theorem dp_tup {K : PySem.W.Frag} {H : Hp} {v : V} {ds : List PyData} (h : Dq K H v (.tuple ds)) : ∃ a vs, v = .ref a ∧ SqT K H a vs ∧ DqAll K H vs ds := by
  cases h with
  | tup h1 h2 => exact ⟨_, _, rfl, h1, h2⟩
theorem dp_int {K : PySem.W.Frag} {H : Hp} {v : V} {i : Int} (h : Dq K H v (.int i)) : v = .int i := by cases h; rfl
theorem dp_str {K : PySem.W.Frag} {H : Hp} {v : V} {i : Str} (h : Dq K H v (.str i)) : v = .str i := by cases h; rfl
theorem dp_bl {K : PySem.W.Frag} {H : Hp} {v : V} {i : Bool} (h : Dq K H v (.bool i)) : v = .bl i := by cases h; rfl
theorem dp_non {K : PySem.W.Frag} {H : Hp} {v : V} (h : Dq K H v .none) : v = .non := by cases h; rfl
/-! ## hidden addresses -/
def rm (O : List Addr) (H : Hp) : Hp := fun b => if b ∈ O then none else H b
theorem rm_nil (H : Hp) : rm [] H = H := by funext b; simp [rm]
theorem rm_at {O : List Addr} {H : Hp} {b : Addr} (h : b ∉ O) : rm O H b = H b := if_neg h
theorem rm_some {O : List Addr} {H : Hp} {b : Addr} {o : HO} (h : rm O H b = some o) : b ∉ O ∧ H b = some o := by
  unfold rm at h
  split at h
  · cases h
  · exact ⟨by assumption, h⟩
theorem rm_le {O : List Addr} {H : Hp} : Same (rm O H) H := fun b o h => (rm_some h).2
theorem rm_same {O : List Addr} {H H' : Hp} (s : Same H H') : Same (rm O H) (rm O H') := fun b o h => by
  obtain ⟨h1, h2⟩ := rm_some h
  rw [rm_at h1]
  exact s _ _ h2
theorem rm_sub {O O' : List Addr} {H : Hp} (h : ∀ b ∈ O', b ∈ O) : Same (rm O H) (rm O' H) := fun b o e => by
  obtain ⟨h1, h2⟩ := rm_some e
  rw [rm_at fun z => h1 (h b z)]
  exact h2
def Live (O : List Addr) (H : Hp) : Prop := ∀ b ∈ O, H b ≠ none
theorem Live.same {O : List Addr} {H H' : Hp} (l : Live O H) (s : Same H H') : Live O H' := fun b h => by
  cases e : H b with
  | none => exact absurd e (l b h)
  | some o =>
    rw [s _ _ e]
    simp
theorem Live.new {O : List Addr} {H : Hp} {p : Addr} (l : Live O H) (h : H p = none) : p ∉ O := fun z => l p z h
/-- v stands for d, away from the hidden ones -/
abbrev DO (K : PySem.W.Frag) (O : List Addr) (H : Hp) (v : V) (d : PyData) : Prop := Dq K (rm O H) v d
abbrev DA (K : PySem.W.Frag) (O : List Addr) (H : Hp) (vs : List V) (ds : List PyData) : Prop := DqAll K (rm O H) vs ds
theorem DO.same {K : PySem.W.Frag} {O : List Addr} {H H' : Hp} {v : V} {d : PyData} (h : DO K O H v d) (s : Same H H') : DO K O H' v d := dp_same (rm_same s) _ _ h
theorem DA.same {K : PySem.W.Frag} {O : List Addr} {H H' : Hp} {v : List V} {d : List PyData} (h : DA K O H v d) (s : Same H H') : DA K O H' v d := dpAll_same (rm_same s) _ _ h
theorem DO.low {K : PySem.W.Frag} {O : List Addr} {H : Hp} {v : V} {d : PyData} (h : DO K O H v d) : Dq K H v d := dp_same rm_le _ _ h
theorem DA.low {K : PySem.W.Frag} {O : List Addr} {H : Hp} {v : List V} {d : List PyData} (h : DA K O H v d) : DqAll K H v d := dpAll_same rm_le _ _ h
/-- a new list, tuple -/
theorem do_lst {K : PySem.W.Frag} {O : List Addr} {H : Hp} {p : Addr} {vs : List V} {ds : List PyData} (l : Live O H) (h : H p = none) (a : DA K O H vs ds) : DO K O (upd H p (.lst vs)) (.ref p) (.list ds) :=
  .lst (by rw [rm_at (l.new h), upd_same]) (DA.same a (same_new h))
theorem do_tup {K : PySem.W.Frag} {O : List Addr} {H : Hp} {p : Addr} {vs : List V} {ds : List PyData} (l : Live O H) (h : H p = none) (a : DA K O H vs ds) : DO K O (upd H p (.tup vs)) (.ref p) (.tuple ds) :=
  .tup (SqT.of (by rw [rm_at (l.new h), upd_same])) (DA.same a (same_new h))
/-! ## the state: env tells the data by slots; W the slots of own lists, f their addresses; B what stood before -/
abbrev Env := List (Option PyData)
structure SR (K : PySem.W.Frag) (B : Hp) (O : List Addr) (W : List Nat) (f : Nat → Addr) (H : Hp) (σ : L2.St) (env : Env) : Prop where
  base : Same B H
  live : Live (O ++ W.map f) H
  new : ∀ i ∈ W, B (f i) = none ∧ f i ∉ O
  inj : ∀ i ∈ W, ∀ j ∈ W, f i = f j → i = j
  len : σ.length = env.length
  val : ∀ (i : Nat) d, env[i]? = some (some d) → i ∉ W → ∃ v, σ[i]? = some (some v) ∧ DO K (O ++ W.map f) H v d
  own : ∀ i ∈ W, σ[i]? = some (some (.ref (f i))) ∧ ∃ ds vs, env[i]? = some (some (.list ds)) ∧ H (f i) = some (.lst vs) ∧ DA K (O ++ W.map f) H vs ds
section
variable {K : PySem.W.Frag} {B : Hp} {O : List Addr} {W : List Nat} {f : Nat → Addr} {H H' : Hp} {σ : L2.St} {env : Env}
theorem SR.same (r : SR K B O W f H σ env) (s : Same H H') : SR K B O W f H' σ env :=
  ⟨r.base.trans s, r.live.same s, r.new, r.inj, r.len, fun i d e n => let ⟨v, h1, h2⟩ := r.val i d e n; ⟨v, h1, DO.same h2 s⟩,
    fun i h => let ⟨h1, ds, vs, h2, h3, h4⟩ := r.own i h; ⟨h1, ds, vs, h2, s _ _ h3, DA.same h4 s⟩⟩
/-- a slot that is none of the own ones gets a value -/
theorem SR.set {i : Nat} {v : V} {d : PyData} (r : SR K B O W f H σ env) (hi : i ∉ W) (h : DO K (O ++ W.map f) H v d) : SR K B O W f H (σ.set i (some v)) (env.set i (some d)) := by
  refine ⟨r.base, r.live, r.new, r.inj, by simp [r.len], fun j e hj hn => ?_, fun j hj => ?_⟩
  · by_cases hij : i = j
    · subst hij
      rw [List.getElem?_set_self'] at hj ⊢
      cases he : env[i]? with
      | none => rw [he] at hj; cases hj
      | some x =>
        rw [he] at hj
        have hlt : i < σ.length := by
          have := (List.getElem?_eq_some_iff.mp he).1
          rw [r.len]; exact this
        rw [List.getElem?_eq_getElem hlt]
        have : d = e := by simpa using hj
        subst this
        exact ⟨v, rfl, h⟩
    · rw [List.getElem?_set_ne hij] at hj ⊢
      exact r.val j e hj hn
  · have hij : i ≠ j := fun z => hi (z ▸ hj)
    rw [List.getElem?_set_ne hij, List.getElem?_set_ne hij]
    exact r.own j hj
theorem SR.unset {i : Nat} (r : SR K B O W f H σ env) (hi : i ∉ W) (x : Option V) : SR K B O W f H (σ.set i x) (env.set i none) := by
  refine ⟨r.base, r.live, r.new, r.inj, by simp [r.len], fun j e hj hn => ?_, fun j hj => ?_⟩
  · by_cases hij : i = j
    · subst hij
      rw [List.getElem?_set_self'] at hj
      cases he : env[i]? with
      | none => rw [he] at hj; cases hj
      | some x => rw [he] at hj; simp at hj
    · rw [List.getElem?_set_ne hij] at hj ⊢
      exact r.val j e hj hn
  · have hij : i ≠ j := fun z => hi (z ▸ hj)
    rw [List.getElem?_set_ne hij, List.getElem?_set_ne hij]
    exact r.own j hj
/-- a slot's data forgotten -/
theorem SR.weak {env' : Env} (r : SR K B O W f H σ env) (hl : env'.length = env.length) (h : ∀ (i : Nat) (d : PyData), env'[i]? = some (some d) → env[i]? = some (some d)) (ho : ∀ i ∈ W, env'[i]? = env[i]?) : SR K B O W f H σ env' :=
  ⟨r.base, r.live, r.new, r.inj, by rw [r.len, hl], fun i d e n => r.val i d (h i d e) n, fun i hi => by rw [ho i hi]; exact r.own i hi⟩
end

/-! ## what evaluates to what, in an env -/
abbrev hid (O : List Addr) (W : List Nat) (f : Nat → Addr) : List Addr := O ++ W.map f
def EV (K : PySem.W.Frag) (W : List Nat) (te : TE) (env : Env) (d : PyData) : Prop := ∀ (B : Hp) (O : List Addr) (f : Nat → Addr) (H : Hp) (σ : L2.St), SR K B O W f H σ env → ∀ Q : VK, (∀ v H2, Same H H2 → DO K (hid O W f) H2 v d → Q v H2) → te σ H Q
/-- a list to be read (an own one, too) -/
def EL (K : PySem.W.Frag) (W : List Nat) (te : TE) (env : Env) (ds : List PyData) : Prop := ∀ (B : Hp) (O : List Addr) (f : Nat → Addr) (H : Hp) (σ : L2.St), SR K B O W f H σ env → ∀ Q : VK, (∀ a vs H2, Same H H2 → H2 a = some (.lst vs) → DA K (hid O W f) H2 vs ds → Q (.ref a) H2) → te σ H Q
/-- a list to be read, wherever it stands (the script, too) -/
def ES (K : PySem.W.Frag) (W : List Nat) (te : TE) (env : Env) (ds : List PyData) : Prop := ∀ (B : Hp) (O : List Addr) (f : Nat → Addr) (H : Hp) (σ : L2.St), SR K B O W f H σ env → ∀ Q : VK, (∀ a vs H2, Same H H2 → SqL K H2 a vs → DA K (hid O W f) H2 vs ds → Q (.ref a) H2) → te σ H Q
def EU (K : PySem.W.Frag) (W : List Nat) (te : TE) (env : Env) (ds : List PyData) : Prop := ∀ (B : Hp) (O : List Addr) (f : Nat → Addr) (H : Hp) (σ : L2.St), SR K B O W f H σ env → ∀ Q : VK, (∀ a vs H2, Same H H2 → SqT K (rm (hid O W f) H2) a vs → DA K (hid O W f) H2 vs ds → Q (.ref a) H2) → te σ H Q
def EA (K : PySem.W.Frag) (W : List Nat) (ta : TA) (env : Env) (ds : List PyData) : Prop := ∀ (B : Hp) (O : List Addr) (f : Nat → Addr) (H : Hp) (σ : L2.St), SR K B O W f H σ env → ∀ Q : List V → Hp → Prop, (∀ vs H2, Same H H2 → DA K (hid O W f) H2 vs ds → Q vs H2) → ta σ H Q
def ET (K : PySem.W.Frag) (W : List Nat) (tt : TT) (env : Env) (b : Bool) : Prop := ∀ (B : Hp) (O : List Addr) (f : Nat → Addr) (H : Hp) (σ : L2.St), SR K B O W f H σ env → ∀ Q : Bool → Hp → Prop, (∀ H2, Same H H2 → Q b H2) → tt σ H Q
def EO (K : PySem.W.Frag) (W : List Nat) (to : TO) (env : Env) (o : Option Int) : Prop := ∀ (B : Hp) (O : List Addr) (f : Nat → Addr) (H : Hp) (σ : L2.St), SR K B O W f H σ env → ∀ Q : Option Int → Hp → Prop, (∀ H2, Same H H2 → Q o H2) → to σ H Q
section
variable {K : PySem.W.Frag} {W : List Nat} {ta tb te tl : TE} {tt tu : TT} {env : Env} {d e : PyData} {ds es : List PyData}
theorem ev_var {i : Nat} (h : env[i]? = some (some d)) (hi : i ∉ W := by decide) : EV K W (tVar i) env d := fun B O f H σ r Q q => by
  obtain ⟨v, h1, h2⟩ := r.val i d h hi
  exact ⟨v, h1, q v H (Same.refl H) h2⟩
theorem ev_int {i : Int} : EV K W (tC (.int i)) env (.int i) := fun B O f H σ r Q q => q _ H (Same.refl H) (.int i)
theorem ev_str {i : Str} : EV K W (tC (.str i)) env (.str i) := fun B O f H σ r Q q => q _ H (Same.refl H) (.str i)
theorem ev_bl {i : Bool} : EV K W (tC (.bl i)) env (.bool i) := fun B O f H σ r Q q => q _ H (Same.refl H) (.bl i)
theorem ev_non : EV K W (tC .non) env .none := fun B O f H σ r Q q => q _ H (Same.refl H) .non
/-- a tuple that is written at the top -/
theorem ev_ktup {a : Addr} {vs : List V} (h : ∀ H, SqT K H a vs) (h2 : ∀ H, DqAll K H vs ds) : EV K W (tC (.ref a)) env (.tuple ds) := fun B O f H σ r Q q => q _ H (Same.refl H) (.tup (h _) (h2 _))
theorem EV.list (h : EV K W te env (.list ds)) : EL K W te env ds := fun B O f H σ r Q q => h B O f H σ r Q fun v H2 s hv => by
  obtain ⟨a, vs, rfl, h1, h2⟩ := dp_list hv
  exact q a vs H2 s (rm_le _ _ h1) h2
theorem EL.rd (h : EL K W te env ds) : ES K W te env ds := fun B O f H σ r Q q => h B O f H σ r Q fun a vs H2 s h1 h2 => q a vs H2 s (SqL.of h1) h2
theorem EV.rd (h : EV K W te env (.list ds)) : ES K W te env ds := h.list.rd
theorem ints_all {H : Hp} (ns : List Int) : DqAll K H (ns.map V.int) (ns.map .int) := by
  induction ns with
  | nil => exact .nil
  | cons n r ih => exact .cons (.int n) ih
theorem EV.scr {ns : List Int} (h : EV K W te env (scr (ns.map .int))) : ES K W te env (ns.map .int) := fun B O f H σ r Q q => h B O f H σ r Q fun v H2 s hv => by
  unfold Dv.scr at hv
  rw [List.map_map] at hv
  generalize hx : PyData.dict (List.map ((fun d => (d, PyData.none)) ∘ PyData.int) ns) = x at hv
  cases hv with
  | @scr a ms h1 =>
    have e : ms = ns := by
      have e1 := PyData.dict.inj hx
      have inj : ∀ {p q : List Int}, List.map ((fun d => (d, PyData.none)) ∘ PyData.int) p = List.map (fun n => (PyData.int n, PyData.none)) q → q = p := fun {p} => by
        induction p with
        | nil => intro q e; cases q with
          | nil => rfl
          | cons => cases e
        | cons a r ih => intro q e; cases q with
          | nil => cases e
          | cons b t =>
            simp only [List.map_cons, List.cons.injEq, Function.comp, Prod.mk.injEq, PyData.int.injEq, and_true] at e
            rw [e.1, ih e.2]
      exact inj e1
    subst e
    exact q a _ H2 s (Same.seq rm_le h1) (ints_all _)
  | exc => exfalso; cases ns <;> simp [exD] at hx
  | emd => exfalso; cases ns <;> simp [emD] at hx
  | non => cases hx
  | bl => cases hx
  | int => cases hx
  | str => cases hx
  | lst => cases hx
  | tup => cases hx
theorem EV.tup (h : EV K W te env (.tuple ds)) : EU K W te env ds := fun B O f H σ r Q q => h B O f H σ r Q fun v H2 s hv => by
  obtain ⟨a, vs, rfl, h1, h2⟩ := dp_tup hv
  exact q a vs H2 s h1 h2
theorem el_own {i : Nat} (h : env[i]? = some (some (.list ds))) (hi : i ∈ W := by decide) : EL K W (tVar i) env ds := fun B O f H σ r Q q => by
  obtain ⟨h1, ds', vs, h2, h3, h4⟩ := r.own i hi
  rw [h] at h2
  cases h2
  exact ⟨_, h1, q _ vs H (Same.refl H) h3 h4⟩
/-! ints -/
theorem ev_I0 {g : Int → Int → V} {i j : Int} (ha : EV K W ta env (.int i)) (hb : EV K W tb env (.int j)) (hg : ∀ H, Dq K H (g i j) d) : EV K W (tOp (rI0 g) ta tb) env d := fun B O f H σ r Q q =>
  ha B O f H σ r _ fun x H1 s1 hx => hb B O f H1 σ (r.same s1) _ fun y H2 s2 hy => by
    cases dp_int hx
    cases dp_int hy
    exact ⟨i, j, rfl, rfl, q _ H2 (s1.trans s2) (hg _)⟩
theorem ev_I {C : Int → Int → Prop} {g : Int → Int → V} {i j : Int} (ha : EV K W ta env (.int i)) (hb : EV K W tb env (.int j)) (hC : C i j) (hg : ∀ H, Dq K H (g i j) d) : EV K W (tOp (rI C g) ta tb) env d := fun B O f H σ r Q q =>
  ha B O f H σ r _ fun x H1 s1 hx => hb B O f H1 σ (r.same s1) _ fun y H2 s2 hy => by
    cases dp_int hx
    cases dp_int hy
    exact ⟨i, j, rfl, rfl, hC, q _ H2 (s1.trans s2) (hg _)⟩
theorem ev_I0i {g : Int → Int → Int} {i j : Int} (ha : EV K W ta env (.int i)) (hb : EV K W tb env (.int j)) : EV K W (tOp (rI0 fun i j => .int (g i j)) ta tb) env (.int (g i j)) := ev_I0 ha hb fun _ => .int _
theorem ev_I0b {g : Int → Int → Bool} {i j : Int} (ha : EV K W ta env (.int i)) (hb : EV K W tb env (.int j)) : EV K W (tOp (rI0 fun i j => .bl (g i j)) ta tb) env (.bool (g i j)) := ev_I0 ha hb fun _ => .bl _
theorem ev_Ii {C : Int → Int → Prop} {g : Int → Int → Int} {i j : Int} (ha : EV K W ta env (.int i)) (hb : EV K W tb env (.int j)) (hC : C i j) : EV K W (tOp (rI C fun i j => .int (g i j)) ta tb) env (.int (g i j)) := ev_I ha hb hC fun _ => .int _
theorem ev_neg {i : Int} (ha : EV K W ta env (.int i)) : EV K W (tUn (rU fun i => .int (-i)) ta) env (.int (-i)) := fun B O f H σ r Q q =>
  ha B O f H σ r _ fun x H1 s1 hx => by
    cases dp_int hx
    exact ⟨i, rfl, q _ H1 s1 (.int _)⟩
/-! == of flat things -/
def fl : PyData → Option V
  | .none => some .non
  | .bool b => some (.bl b)
  | .int i => some (.int i)
  | .str x => some (.str x)
  | _ => none
theorem fl_dp {H : Hp} {v w : V} {d : PyData} (h : Dq K H v d) (e : fl d = some w) : v = w := by
  cases h with
  | non => cases e; rfl
  | bl => cases e; rfl
  | int => cases e; rfl
  | str => cases e; rfl
  | lst => cases e
  | tup => cases e
  | scr => cases e
  | exc => cases e
  | emd => cases e
theorem ev_eq {x y : V} (ha : EV K W ta env d) (hb : EV K W tb env e) (hx : fl d = some x) (hy : fl e = some y) (hs : scal x y = true) : EV K W (tOp rEq ta tb) env (.bool (decide (x = y))) := fun B O f H σ r Q q =>
  ha B O f H σ r _ fun v H1 s1 hv => hb B O f H1 σ (r.same s1) _ fun u H2 s2 hu => by
    cases fl_dp hv hx
    cases fl_dp hu hy
    exact ⟨hs, q _ H2 (s1.trans s2) (.bl _)⟩
theorem ev_ne {x y : V} (ha : EV K W ta env d) (hb : EV K W tb env e) (hx : fl d = some x) (hy : fl e = some y) (hs : scal x y = true) : EV K W (tOp rNe ta tb) env (.bool (!decide (x = y))) := fun B O f H σ r Q q =>
  ha B O f H σ r _ fun v H1 s1 hv => hb B O f H1 σ (r.same s1) _ fun u H2 s2 hu => by
    cases fl_dp hv hx
    cases fl_dp hu hy
    exact ⟨hs, q _ H2 (s1.trans s2) (.bl _)⟩
theorem ev_eqI {i j : Int} (ha : EV K W ta env (.int i)) (hb : EV K W tb env (.int j)) : EV K W (tOp rEq ta tb) env (.bool (decide (i = j))) := by
  have h := ev_eq ha hb (x := .int i) (y := .int j) rfl rfl rfl
  have e : decide (V.int i = V.int j) = decide (i = j) := by simp
  rw [e] at h
  exact h
theorem ev_neI {i j : Int} (ha : EV K W ta env (.int i)) (hb : EV K W tb env (.int j)) : EV K W (tOp rNe ta tb) env (.bool (!decide (i = j))) := by
  have h := ev_ne ha hb (x := .int i) (y := .int j) rfl rfl rfl
  have e : decide (V.int i = V.int j) = decide (i = j) := by simp
  rw [e] at h
  exact h
theorem ev_eqS {i j : Str} (ha : EV K W ta env (.str i)) (hb : EV K W tb env (.str j)) : EV K W (tOp rEq ta tb) env (.bool (decide (i = j))) := by
  have h := ev_eq ha hb (x := .str i) (y := .str j) rfl rfl rfl
  have e : decide (V.str i = V.str j) = decide (i = j) := by simp
  rw [e] at h
  exact h
theorem ev_neS {i j : Str} (ha : EV K W ta env (.str i)) (hb : EV K W tb env (.str j)) : EV K W (tOp rNe ta tb) env (.bool (!decide (i = j))) := by
  have h := ev_ne ha hb (x := .str i) (y := .str j) rfl rfl rfl
  have e : decide (V.str i = V.str j) = decide (i = j) := by simp
  rw [e] at h
  exact h
/-! texts -/
theorem ev_cat {a b : Str} (ha : EV K W ta env (.str a)) (hb : EV K W tb env (.str b)) (hl : a.length + b.length ≤ 100000) :
    EV K W (tOp (fun x y H Q => ∃ i j, x = .str i ∧ y = .str j ∧ i.length + j.length ≤ sizeLine ∧ Q (.str (i ++ j)) H) ta tb) env (.str (a ++ b)) := fun B O f H σ r Q q =>
  ha B O f H σ r _ fun v H1 s1 hv => hb B O f H1 σ (r.same s1) _ fun u H2 s2 hu => by
    cases dp_str hv
    cases dp_str hu
    exact ⟨a, b, rfl, rfl, sz hl, q _ H2 (s1.trans s2) (.str _)⟩
theorem ev_ixS {z : Str} {i : Int} {c : Nat} (ha : EV K W ta env (.str z)) (hb : EV K W tb env (.int i)) (hl : z.length ≤ 100000) (hc : atI z.cps.toList i = some c) : EV K W (tOp rIxS ta tb) env (.str ⟨#[c]⟩) := fun B O f H σ r Q q =>
  ha B O f H σ r _ fun v H1 s1 hv => hb B O f H1 σ (r.same s1) _ fun u H2 s2 hu => by
    cases dp_str hv
    cases dp_int hu
    exact ⟨z, i, c, rfl, rfl, sz hl, hc, q _ H2 (s1.trans s2) (.str _)⟩
theorem ev_slS {z : Str} {t1 t2 : TO} {lo hi : Option Int} (ha : EV K W ta env (.str z)) (h1 : EO K W t1 env lo) (h2 : EO K W t2 env hi) (hl : z.length ≤ 100000) : EV K W (tSl rSlS ta t1 t2) env (.str (cutS z lo hi)) := fun B O f H σ r Q q =>
  ha B O f H σ r _ fun v H1 s1 hv => h1 B O f H1 σ (r.same s1) _ fun H2 s2 => h2 B O f H2 σ ((r.same s1).same s2) _ fun H3 s3 => by
    cases dp_str hv
    exact ⟨z, rfl, sz hl, q _ H3 ((s1.trans s2).trans s3) (.str _)⟩
theorem eo_none : EO K W tNoPart env none := fun B O f H σ r Q q => q H (Same.refl H)
theorem eo_some {i : Int} (h : EV K W te env (.int i)) : EO K W (tPart te) env (some i) := fun B O f H σ r Q q =>
  h B O f H σ r _ fun v H1 s1 hv => ⟨i, dp_int hv, q H1 s1⟩
/-! lists and tuples -/
theorem ea_nil : EA K W tNil env [] := fun B O f H σ r Q q => q [] H (Same.refl H) .nil
theorem ea_cons {tr : TA} (h : EV K W te env d) (hr : EA K W tr env ds) : EA K W (tCons te tr) env (d :: ds) := fun B O f H σ r Q q =>
  h B O f H σ r _ fun v H1 s1 hv => hr B O f H1 σ (r.same s1) _ fun vs H2 s2 hvs => q _ H2 (s1.trans s2) (.cons (DO.same hv s2) hvs)
theorem ev_lst {ta : TA} (h : EA K W ta env ds) (hl : ds.length ≤ 100000 := by decide) : EV K W (tLst ta) env (.list ds) := fun B O f H σ r Q q =>
  h B O f H σ r _ fun vs H1 s1 hv => ⟨by rw [dpAll_len hv]; exact sz hl, fun p np => q _ _ (s1.trans (same_new np)) (do_lst (r.same s1).live np hv)⟩
theorem ev_tup {ta : TA} (h : EA K W ta env ds) (hl : ds.length ≤ 100000 := by decide) : EV K W (tTup ta) env (.tuple ds) := fun B O f H σ r Q q =>
  h B O f H σ r _ fun vs H1 s1 hv => ⟨by rw [dpAll_len hv]; exact sz hl, fun p np => q _ _ (s1.trans (same_new np)) (do_tup (r.same s1).live np hv)⟩
theorem atI_dp {H : Hp} {vs : List V} {i : Int} (h : DqAll K H vs ds) (e : atI ds i = some d) : ∃ v, atI vs i = some v ∧ Dq K H v d := by
  have hl := dpAll_len h
  unfold atI at e ⊢
  rw [hl]
  cases hx : ixN ds.length i with
  | none => rw [hx] at e; cases e
  | some j =>
    rw [hx] at e
    exact dpAll_get h e
theorem ev_ixL {i : Int} (ha : ES K W ta env ds) (hb : EV K W tb env (.int i)) (hi : atI ds i = some d) : EV K W (tOp (rIxL K) ta tb) env d := fun B O f H σ r Q q =>
  ha B O f H σ r _ fun a vs H1 s1 h1 h2 => hb B O f H1 σ (r.same s1) _ fun u H2 s2 hu => by
    cases dp_int hu
    obtain ⟨v, e, hv⟩ := atI_dp (DA.same h2 s2) hi
    exact ⟨a, vs, i, v, rfl, rfl, s2.seq h1, e, q _ H2 (s1.trans s2) hv⟩
theorem ev_ixT {i : Int} (ha : EU K W ta env ds) (hb : EV K W tb env (.int i)) (hi : atI ds i = some d) : EV K W (tOp (rIxT K) ta tb) env d := fun B O f H σ r Q q =>
  ha B O f H σ r _ fun a vs H1 s1 h1 h2 => hb B O f H1 σ (r.same s1) _ fun u H2 s2 hu => by
    cases dp_int hu
    obtain ⟨v, e, hv⟩ := atI_dp (DA.same h2 s2) hi
    exact ⟨a, vs, i, v, rfl, rfl, Evl.ex_t (rm_le.trans s2) h1, e, q _ H2 (s1.trans s2) hv⟩
/-- the part of a list -/
def cutD (ds : List PyData) (lo hi : Option Int) : List PyData := (ds.drop (HT.sIx ds.length 0 lo)).take (HT.sIx ds.length ds.length hi - HT.sIx ds.length 0 lo)
theorem dpAll_cut {H : Hp} {vs : List V} (h : DqAll K H vs ds) (lo hi : Option Int) : DqAll K H (cutV vs lo hi) (cutD ds lo hi) := by
  unfold cutV cutD
  rw [dpAll_len h]
  exact dpAll_take _ (dpAll_drop _ h)
theorem ev_slL {t1 t2 : TO} {lo hi : Option Int} (ha : ES K W ta env ds) (h1 : EO K W t1 env lo) (h2 : EO K W t2 env hi) : EV K W (tSl (rSlL K) ta t1 t2) env (.list (cutD ds lo hi)) := fun B O f H σ r Q q =>
  ha B O f H σ r _ fun a vs H1 s1 hq hv => h1 B O f H1 σ (r.same s1) _ fun H2 s2 => h2 B O f H2 σ ((r.same s1).same s2) _ fun H3 s3 => by
    have s13 := s2.trans s3
    refine ⟨a, vs, rfl, s13.seq hq, fun p np => q _ _ ((s1.trans s13).trans (same_new np)) (do_lst ((r.same s1).same s13).live np ?_)⟩
    exact dpAll_cut (DA.same hv s13) lo hi
theorem cut_all (ds : List PyData) (lo hi : Option Int) (h : HT.sIx ds.length 0 lo = 0 ∧ HT.sIx ds.length ds.length hi = ds.length) : cutD ds lo hi = ds := by
  unfold cutD
  rw [h.1, h.2]
  simp
theorem ev_slT {t1 t2 : TO} {lo hi : Option Int} (ha : EU K W ta env ds) (h1 : EO K W t1 env lo) (h2 : EO K W t2 env hi) : EV K W (tSl (rSlA K) ta t1 t2) env (.tuple (cutD ds lo hi)) := fun B O f H σ r Q q =>
  ha B O f H σ r _ fun a vs H1 s1 hq hv => h1 B O f H1 σ (r.same s1) _ fun H2 s2 => h2 B O f H2 σ ((r.same s1).same s2) _ fun H3 s3 => by
    have s13 := s2.trans s3
    have hv3 := DA.same hv s13
    refine ⟨a, vs, rfl, Evl.ex_t (rm_le.trans s13) hq, fun hw => ?_, fun _ p np => q _ _ ((s1.trans s13).trans (same_new np)) (do_tup ((r.same s1).same s13).live np (dpAll_cut hv3 lo hi))⟩
    rw [dpAll_len hv] at hw
    have e := cut_all ds lo hi hw
    rw [e] at q
    exact q _ H3 (s1.trans s13) (.tup (Evl.ex_t (rm_same s13) hq) hv3)
theorem ev_catL (ha : EL K W ta env ds) (hb : EL K W tb env es) (hl : ds.length + es.length ≤ 100000) : EV K W (tOp rCat ta tb) env (.list (ds ++ es)) := fun B O f H σ r Q q =>
  ha B O f H σ r _ fun a vs H1 s1 hq hv => hb B O f H1 σ (r.same s1) _ fun b us H2 s2 hp hu => by
    refine ⟨a, b, vs, us, rfl, rfl, s2 _ _ hq, hp, by rw [dpAll_len hv, dpAll_len hu]; exact sz hl, fun p np => q _ _ ((s1.trans s2).trans (same_new np)) (do_lst ((r.same s1).same s2).live np ?_)⟩
    exact dpAll_app (DA.same hv s2) hu
theorem ev_catT (ha : EU K W ta env ds) (hb : EU K W tb env es) (hl : ds.length + es.length ≤ 100000) : EV K W (tOp (rCatA K) ta tb) env (.tuple (ds ++ es)) := fun B O f H σ r Q q =>
  ha B O f H σ r _ fun a vs H1 s1 hq hv => hb B O f H1 σ (r.same s1) _ fun b us H2 s2 hp hu => by
    have hv2 := DA.same hv s2
    refine ⟨a, b, vs, us, rfl, rfl, Evl.ex_t (rm_le.trans s2) hq, Evl.ex_t rm_le hp, by rw [dpAll_len hv, dpAll_len hu]; exact sz hl, fun e => ?_, fun _ e => ?_, fun _ _ p np => q _ _ ((s1.trans s2).trans (same_new np)) (do_tup ((r.same s1).same s2).live np (dpAll_app hv2 hu))⟩
    · subst e
      have : ds = [] := List.eq_nil_of_length_eq_zero (dpAll_len hv).symm
      rw [this] at q
      exact q _ H2 (s1.trans s2) (.tup hp hu)
    · subst e
      have : es = [] := List.eq_nil_of_length_eq_zero (dpAll_len hu).symm
      rw [this, List.append_nil] at q
      exact q _ H2 (s1.trans s2) (.tup (Evl.ex_t (rm_same s2) hq) hv2)
theorem ev_len (ha : ES K W ta env ds) : EV K W (tCB (fun xs H Q => ∃ p ys, xs = [.ref p] ∧ (SqL K H p ys ∨ SqT K H p ys) ∧ Q (.int ys.length) H) (tCons ta tNil)) env (.int ds.length) := fun B O f H σ r Q q =>
  ha B O f H σ r _ fun a vs H1 s1 h1 h2 => ⟨a, vs, rfl, .inl h1, by rw [dpAll_len h2]; exact q _ H1 s1 (.int _)⟩
theorem ev_lenT (ha : EU K W ta env ds) : EV K W (tCB (fun xs H Q => ∃ p ys, xs = [.ref p] ∧ (SqL K H p ys ∨ SqT K H p ys) ∧ Q (.int ys.length) H) (tCons ta tNil)) env (.int ds.length) := fun B O f H σ r Q q =>
  ha B O f H σ r _ fun a vs H1 s1 h1 h2 => ⟨a, vs, rfl, .inr (Evl.ex_t rm_le h1), by rw [dpAll_len h2]; exact q _ H1 s1 (.int _)⟩
theorem ev_lenS {z : Str} (ha : EV K W ta env (.str z)) (hl : z.length ≤ 100000) : EV K W (tCB (fun xs H Q => ∃ z, xs = [.str z] ∧ z.length ≤ sizeLine ∧ Q (.int z.length) H) (tCons ta tNil)) env (.int z.length) := fun B O f H σ r Q q =>
  ha B O f H σ r _ fun v H1 s1 hv => by
    cases dp_str hv
    exact ⟨z, rfl, sz hl, q _ H1 s1 (.int _)⟩
end

section
variable {K : PySem.W.Frag} {W : List Nat} {ta tb te tl : TE} {tt tu : TT} {env : Env} {d e : PyData} {ds es : List PyData}
/-! tests -/
theorem et_test {b : Bool} (h : EV K W te env (.bool b)) : ET K W (tTest te) env b := fun B O f H σ r Q q => h B O f H σ r _ fun v H2 s hv => ⟨b, dp_bl hv, q H2 s⟩
theorem et_B {b : Bool} (h : EV K W te env (.bool b)) : ET K W (tB te) env b := fun B O f H σ r Q q => h B O f H σ r _ fun v H2 s hv => ⟨b, dp_bl hv, q H2 s⟩
theorem et_not {b : Bool} (h : ET K W tt env b) : ET K W (tNot tt) env (!b) := fun B O f H σ r Q q => h B O f H σ r _ fun H2 s => q H2 s
theorem et_and {a b : Bool} (h : ET K W tt env a) (h2 : a = true → ET K W tu env b) : ET K W (tAnd tt tu) env (a && b) := fun B O f H σ r Q q => h B O f H σ r _ fun H2 s => by
  cases a with
  | true => rw [if_pos rfl]; exact h2 rfl B O f H2 σ (r.same s) Q fun H3 s3 => q H3 (s.trans s3)
  | false => rw [if_neg Bool.false_ne_true]; exact q H2 s
theorem et_or {a b : Bool} (h : ET K W tt env a) (h2 : a = false → ET K W tu env b) : ET K W (tOr tt tu) env (a || b) := fun B O f H σ r Q q => h B O f H σ r _ fun H2 s => by
  cases a with
  | true => rw [if_pos rfl]; exact q H2 s
  | false => rw [if_neg Bool.false_ne_true]; exact h2 rfl B O f H2 σ (r.same s) Q fun H3 s3 => q H3 (s.trans s3)
theorem ev_and {a b : Bool} (h : EV K W ta env (.bool a)) (h2 : a = true → EV K W tb env (.bool b)) : EV K W (tAndV ta tb) env (.bool (a && b)) := fun B O f H σ r Q q => h B O f H σ r _ fun v H2 s hv => by
  cases dp_bl hv
  refine ⟨a, rfl, ?_⟩
  cases a with
  | true => rw [if_pos rfl]; exact h2 rfl B O f H2 σ (r.same s) Q fun v H3 s3 => q v H3 (s.trans s3)
  | false => rw [if_neg Bool.false_ne_true]; exact q _ H2 s (.bl _)
theorem ev_or {a b : Bool} (h : EV K W ta env (.bool a)) (h2 : a = false → EV K W tb env (.bool b)) : EV K W (tOrV ta tb) env (.bool (a || b)) := fun B O f H σ r Q q => h B O f H σ r _ fun v H2 s hv => by
  cases dp_bl hv
  refine ⟨a, rfl, ?_⟩
  cases a with
  | true => rw [if_pos rfl]; exact q _ H2 s (.bl _)
  | false => rw [if_neg Bool.false_ne_true]; exact h2 rfl B O f H2 σ (r.same s) Q fun v H3 s3 => q v H3 (s.trans s3)
theorem ev_not {a : Bool} (h : EV K W ta env (.bool a)) : EV K W (tNotV ta) env (.bool (!a)) := fun B O f H σ r Q q => h B O f H σ r _ fun v H2 s hv => by
  cases dp_bl hv
  exact ⟨a, rfl, q _ H2 s (.bl _)⟩
theorem ev_if {b : Bool} (h : ET K W tt env b) (h1 : b = true → EV K W ta env d) (h2 : b = false → EV K W tb env d) : EV K W (tIf tt ta tb) env d := fun B O f H σ r Q q => h B O f H σ r _ fun H2 s => by
  cases b with
  | true => rw [if_pos rfl]; exact h1 rfl B O f H2 σ (r.same s) Q fun v H3 s3 => q v H3 (s.trans s3)
  | false => rw [if_neg Bool.false_ne_true]; exact h2 rfl B O f H2 σ (r.same s) Q fun v H3 s3 => q v H3 (s.trans s3)
theorem ev_chain {tc : TE} {x y z : Int} {p p' : Int → Int → Bool} (ha : EV K W ta env (.int x)) (hb : EV K W tb env (.int y)) (hc : EV K W tc env (.int z)) : EV K W (tChain (rI0 fun i j => .bl (p i j)) (rI0 fun i j => .bl (p' i j)) ta tb tc) env (.bool (p x y && p' y z)) := fun B O f H σ r Q q =>
  ha B O f H σ r _ fun u H1 s1 hu => hb B O f H1 σ (r.same s1) _ fun v H2 s2 hv => by
    cases dp_int hu
    cases dp_int hv
    refine ⟨x, y, rfl, rfl, _, rfl, ?_⟩
    cases hp : p x y with
    | true =>
      rw [if_pos rfl]
      refine hc B O f H2 σ ((r.same s1).same s2) _ fun w H3 s3 hw => ?_
      cases dp_int hw
      rw [hp] at q
      exact ⟨y, z, rfl, rfl, q _ H3 ((s1.trans s2).trans s3) (.bl _)⟩
    | false =>
      rw [if_neg Bool.false_ne_true]
      rw [hp] at q
      exact q _ H2 (s1.trans s2) (.bl _)
/-! is None; == of lists and tuples; in -/
def isNone : PyData → Bool
  | .none => true
  | _ => false
theorem ev_isN (ha : EV K W ta env d) (hb : EV K W tb env .none) : EV K W (tOp (fun x y H Q => y = .non ∧ Q (.bl (decide (x = .non))) H) ta tb) env (.bool (isNone d)) := fun B O f H σ r Q q =>
  ha B O f H σ r _ fun u H1 s1 hu => hb B O f H1 σ (r.same s1) _ fun v H2 s2 hv => by
    refine ⟨dp_non hv, ?_⟩
    have e : decide (u = V.non) = isNone d := by cases hu <;> rfl
    rw [e]
    exact q _ H2 (s1.trans s2) (.bl _)
theorem ev_notN (ha : EV K W ta env d) (hb : EV K W tb env .none) : EV K W (tOp (fun x y H Q => y = .non ∧ Q (.bl (!decide (x = .non))) H) ta tb) env (.bool (!isNone d)) := fun B O f H σ r Q q =>
  ha B O f H σ r _ fun u H1 s1 hu => hb B O f H1 σ (r.same s1) _ fun v H2 s2 hv => by
    refine ⟨dp_non hv, ?_⟩
    have e : (!decide (u = V.non)) = !isNone d := by cases hu <;> rfl
    rw [e]
    exact q _ H2 (s1.trans s2) (.bl _)
theorem ev_eqD (ha : EV K W ta env d) (hb : EV K W tb env e) (h1 : SeqAt.shaped d = true) (h2 : SeqAt.shaped e = true) : EV K W (tOp (rEqD K) ta tb) env (.bool (PyData.eqv d e)) := fun B O f H σ r Q q =>
  ha B O f H σ r _ fun u H1 s1 hu => hb B O f H1 σ (r.same s1) _ fun v H2 s2 hv =>
    ⟨d, e, dq_dp _ _ (.inl h1) (dp_same rm_le _ _ (DO.same hu s2)), dq_dp _ _ (.inl h2) (dp_same rm_le _ _ hv), h1, h2, q _ H2 (s1.trans s2) (.bl _)⟩
theorem ev_neD (ha : EV K W ta env d) (hb : EV K W tb env e) (h1 : SeqAt.shaped d = true) (h2 : SeqAt.shaped e = true) : EV K W (tOp (rNeD K) ta tb) env (.bool (!PyData.eqv d e)) := fun B O f H σ r Q q =>
  ha B O f H σ r _ fun u H1 s1 hu => hb B O f H1 σ (r.same s1) _ fun v H2 s2 hv =>
    ⟨d, e, dq_dp _ _ (.inl h1) (dp_same rm_le _ _ (DO.same hu s2)), dq_dp _ _ (.inl h2) (dp_same rm_le _ _ hv), h1, h2, q _ H2 (s1.trans s2) (.bl _)⟩
/-- .. where one side is an own list -/
theorem ev_eqDL (ha : ES K W ta env ds) (hb : EV K W tb env e) (h1 : SeqAt.shaped (.list ds) = true) (h2 : SeqAt.shaped e = true) : EV K W (tOp (rEqD K) ta tb) env (.bool (PyData.eqv (.list ds) e)) := fun B O f H σ r Q q =>
  ha B O f H σ r _ fun a vs H1 s1 hq hu => hb B O f H1 σ (r.same s1) _ fun v H2 s2 hv =>
    ⟨.list ds, e, .lst (s2.seq hq) (dqAll_dp _ _ (SeqAt.canLay_of_shaped h1) (dpAll_same rm_le _ _ (DA.same hu s2))), dq_dp _ _ (.inl h2) (dp_same rm_le _ _ hv), h1, h2, q _ H2 (s1.trans s2) (.bl _)⟩
theorem ev_neDL (ha : ES K W ta env ds) (hb : EV K W tb env e) (h1 : SeqAt.shaped (.list ds) = true) (h2 : SeqAt.shaped e = true) : EV K W (tOp (rNeD K) ta tb) env (.bool (!PyData.eqv (.list ds) e)) := fun B O f H σ r Q q =>
  ha B O f H σ r _ fun a vs H1 s1 hq hu => hb B O f H1 σ (r.same s1) _ fun v H2 s2 hv =>
    ⟨.list ds, e, .lst (s2.seq hq) (dqAll_dp _ _ (SeqAt.canLay_of_shaped h1) (dpAll_same rm_le _ _ (DA.same hu s2))), dq_dp _ _ (.inl h2) (dp_same rm_le _ _ hv), h1, h2, q _ H2 (s1.trans s2) (.bl _)⟩
/-- x in a list or tuple of flat things -/
def flV : PyData → V
  | .none => .non
  | .bool b => .bl b
  | .int i => .int i
  | .str x => .str x
  | _ => .non
theorem flV_dp {H : Hp} {v : V} {d : PyData} (h : Dq K H v d) (e : (fl d).isSome = true) : v = flV d ∧ flatV v = true := by
  cases h <;> first | exact ⟨rfl, rfl⟩ | cases e
theorem flV_all {H : Hp} : ∀ {vs : List V} {ds : List PyData}, DqAll K H vs ds → ds.all (fun d => (fl d).isSome) = true → vs = ds.map flV ∧ vs.all flatV = true
  | _, _, .nil, _ => ⟨rfl, rfl⟩
  | _, _, .cons h t, e => by
    simp only [List.all_cons, Bool.and_eq_true] at e
    obtain ⟨h1, h2⟩ := flV_dp h e.1
    obtain ⟨h3, h4⟩ := flV_all t e.2
    exact ⟨by rw [h1, h3]; rfl, by simp [h2, h4]⟩
theorem ev_inL {neg : Bool} (ha : EV K W ta env d) (hb : ES K W tb env ds) (h1 : (fl d).isSome = true) (h2 : ds.all (fun d => (fl d).isSome) = true) : EV K W (tOp (rIn K neg) ta tb) env (.bool (if neg then !inV (flV d) (ds.map flV) else inV (flV d) (ds.map flV))) := fun B O f H σ r Q q =>
  ha B O f H σ r _ fun u H1 s1 hu => hb B O f H1 σ (r.same s1) _ fun a vs H2 s2 hq hv => by
    obtain ⟨e1, e2⟩ := flV_dp hu h1
    obtain ⟨e3, e4⟩ := flV_all hv h2
    subst e1 e3
    exact ⟨a, _, rfl, .inl hq, e2, e4, q _ H2 (s1.trans s2) (.bl _)⟩
theorem ev_inT {neg : Bool} (ha : EV K W ta env d) (hb : EU K W tb env ds) (h1 : (fl d).isSome = true) (h2 : ds.all (fun d => (fl d).isSome) = true) : EV K W (tOp (rIn K neg) ta tb) env (.bool (if neg then !inV (flV d) (ds.map flV) else inV (flV d) (ds.map flV))) := fun B O f H σ r Q q =>
  ha B O f H σ r _ fun u H1 s1 hu => hb B O f H1 σ (r.same s1) _ fun a vs H2 s2 hq hv => by
    obtain ⟨e1, e2⟩ := flV_dp hu h1
    obtain ⟨e3, e4⟩ := flV_all hv h2
    subst e1 e3
    exact ⟨a, _, rfl, .inr (Evl.ex_t rm_le hq), e2, e4, q _ H2 (s1.trans s2) (.bl _)⟩
/-! calls -/
/-- a def's promise by data: x the arguments' meaning, g what it gives -/
def SpT (K : PySem.W.Frag) {α : Type} (enc : α → List PyData) (pre : α → Prop) (g : α → PyData) : Sp := fun vs H Q _ => ∃ (O : List Addr) (x : α), Live O H ∧ DA K O H vs (enc x) ∧ pre x ∧ ∀ v H', Same H H' → DO K O H' v (g x) → Q v H'
theorem ev_call {α : Type} {enc : α → List PyData} {pre : α → Prop} {g : α → PyData} {E : XK} {tr : TA} (x : α) (ha : EA K W tr env (enc x)) (hp : pre x) : EV K W (tCall (SpT K enc pre g) [] E tr) env (g x) := fun B O f H σ r Q q =>
  ha B O f H σ r _ fun vs H1 s1 hv => ⟨hid O W f, x, (r.same s1).live, by rw [List.append_nil]; exact hv, hp, fun v H2 s2 h2 => q v H2 (s1.trans s2) h2⟩
end

section
variable {K : PySem.W.Frag} {W : List Nat} {ta tb te tl : TE} {tt tu : TT} {env : Env} {d e : PyData} {ds es : List PyData}
/-! comprehensions: the slot i is the block's own -/
theorem sr_lc {B : Hp} {O : List Addr} {f : Nat → Addr} {H : Hp} {σ : L2.St} {i : Nat} {v : V} (r : SR K B O W f H σ env) (hi : i ∉ W) (h : DO K (hid O W f) H v d) : SR K B O W f H ((wipe σ [i]).set i (some v)) (env.set i (some d)) := by
  have e : (wipe σ [i]).set i (some v) = σ.set i (some v) := by
    show (σ.set i none).set i (some v) = σ.set i (some v)
    rw [List.set_set]
  rw [e]
  exact r.set hi h
theorem rm_new {O : List Addr} {H H' : Hp} {D : Addr} (h : H D = none) (s : Same H H') : Same (rm O H) (rm (D :: O) H') := fun b o e => by
  obtain ⟨n1, n2⟩ := rm_some e
  have hb : b ≠ D := fun z => by
    rw [z, h] at n2
    cases n2
  rw [rm_at fun z => (List.mem_cons.mp z).elim hb n1]
  exact s _ _ n2
theorem rm_mut {O : List Addr} {H : Hp} {D : Addr} {o : HO} (h : D ∈ O) : Same (rm O H) (rm O (upd H D o)) := fun b u e => by
  obtain ⟨n1, n2⟩ := rm_some e
  rw [rm_at n1, upd_ne (fun z => n1 (by rw [z]; exact h))]
  exact n2
theorem live_mut {O : List Addr} {H : Hp} {D : Addr} {o : HO} (l : Live O H) : Live O (upd H D o) := fun b hb => by
  by_cases e : b = D
  · rw [e, upd_same]
    simp
  · rw [upd_ne e]
    exact l b hb
/-- a new object, hidden from now on -/
theorem SR.hideNew {B : Hp} {O : List Addr} {f : Nat → Addr} {H : Hp} {σ : L2.St} {D : Addr} {o : HO} (r : SR K B O W f H σ env) (h : H D = none) : SR K B (D :: O) W f (upd H D o) σ env := by
  have sn := same_new (o := o) h
  refine ⟨r.base.trans sn, fun b hb => ?_, fun i hi => ⟨(r.new i hi).1, fun z => ?_⟩, r.inj, r.len, fun i d e n => ?_, fun i hi => ?_⟩
  · rcases List.mem_cons.mp hb with e | hb
    · rw [e, upd_same]
      simp
    · exact (r.live.same sn) b hb
  · rcases List.mem_cons.mp z with e | z
    · obtain ⟨_, _, _, _, h3, _⟩ := r.own i hi
      rw [e, h] at h3
      cases h3
    · exact (r.new i hi).2 z
  · obtain ⟨v, h1, h2⟩ := r.val i d e n
    exact ⟨v, h1, dp_same (rm_new h sn) _ _ h2⟩
  · obtain ⟨h1, ds, vs, h2, h3, h4⟩ := r.own i hi
    exact ⟨h1, ds, vs, h2, sn _ _ h3, dpAll_same (rm_new h sn) _ _ h4⟩
theorem SR.mutHid {B : Hp} {O : List Addr} {f : Nat → Addr} {H : Hp} {σ : L2.St} {D : Addr} {o : HO} (r : SR K B O W f H σ env) (h : D ∈ O) (hB : B D = none) : SR K B O W f (upd H D o) σ env := by
  have hm : D ∈ hid O W f := List.mem_append_left _ h
  refine ⟨fun b u e => ?_, live_mut r.live, r.new, r.inj, r.len, fun i d e n => ?_, fun i hi => ?_⟩
  · rw [upd_ne fun z => by rw [z, hB] at e; cases e]
    exact r.base _ _ e
  · obtain ⟨v, h1, h2⟩ := r.val i d e n
    exact ⟨v, h1, dp_same (rm_mut hm) _ _ h2⟩
  · obtain ⟨h1, ds, vs, h2, h3, h4⟩ := r.own i hi
    have hne : f i ≠ D := fun z => (r.new i hi).2 (z ▸ h)
    exact ⟨h1, ds, vs, h2, by rw [upd_ne hne]; exact h3, dpAll_same (rm_mut hm) _ _ h4⟩
/-- the turns of a comprehension: ds what is walked -/
theorem lc_core {B : Hp} {O : List Addr} {f : Nat → Addr} {H1 : Hp} {σ : L2.St} {i : Nat} {J : It} {G : Hp → Prop} {Y : Nat → Hp → V → Hp → Prop} {Q : VK} (p : PyData → Bool) (g : PyData → PyData)
    (r : SR K B O W f H1 σ env) (hi : i ∉ W) (w : Walk J ds.length G Y) (hG : ∀ H2, Same H1 H2 → G H2)
    (hY : ∀ (D : Addr) k H2 x H3, H1 D = none → H2 D ≠ none → k < ds.length → Same H1 H2 → Y k H2 x H3 → Same H2 H3 ∧ ∃ d, ds[k]? = some d ∧ DO K (D :: hid O W f) H3 x d)
    (hl : ds.length ≤ 50000)
    (ht : ∀ d ∈ ds, ET K W tt (env.set i (some d)) (p d)) (he : ∀ d ∈ ds, p d = true → EV K W te (env.set i (some d)) (g d))
    (q : ∀ (D : Addr) vs (H' : Hp), H1 D = none → Same H1 H' → H' D = some (.lst vs) → DA K (D :: hid O W f) H' vs ((ds.filter p).map g) → Q (.ref D) H') :
    ∀ D, H1 D = none → ∃ W' : Nat → Nat → Hp → Prop, (∃ m, W' 0 m (upd H1 D (.lst []))) ∧ ∀ i' m H, W' i' m H →
      (J.stop i' H ∧ Q (.ref D) H) ∨ (J.go i' H ∧ ∃ Nx : Hp → Prop, (∀ H', Nx H' → ∃ m', m' < m ∧ W' (i' + 1) m' H') ∧ ∀ x H', J.yld i' H x H' → gName i x (wipe σ [i]) H' fun σ2 H2 => wipe σ2 [i] = wipe σ [i] ∧ tt σ2 H2 fun b H3 =>
        if b = true then te σ2 H3 fun y H4 => ∃ acc, H4 D = some (.lst acc) ∧ acc.length < sizeLine ∧ Nx (upd H4 D (.lst (acc ++ [y]))) else Nx H3) := by
  intro D hD
  have hB : B D = none := r.base.free hD
  refine lc_it w (fun k H' => SR K B (D :: O) W f H' σ env ∧ Same H1 H' ∧ ∃ vs, H' D = some (.lst vs) ∧ DA K (D :: hid O W f) H' vs (((ds.take k).filter p).map g)) ⟨r.hideNew hD, same_new hD, [], upd_same, .nil⟩ (fun k H' _ hP => hG H' hP.2.1) (fun k x H2 H3 hk hP hy => ?_) (fun H' hP => ?_)
  · obtain ⟨r2, s2, vs, h2, h3⟩ := hP
    obtain ⟨s3, d, hd, hx⟩ := hY D k H2 x H3 hD (by rw [h2]; simp) hk s2 hy
    have hm : d ∈ ds := List.mem_of_getElem? hd
    have r3 := sr_lc (r2.same s3) hi hx
    have e2 : ds.take (k + 1) = ds.take k ++ [d] := by
      rw [List.take_add_one, hd]
      rfl
    refine ⟨?_, ht d hm B _ f H3 _ r3 _ fun H4 s4 => ?_⟩
    · show (((σ.set i none).set i (some x)).set i none) = σ.set i none
      rw [List.set_set, List.set_set]
    cases hp : p d with
    | true =>
      rw [if_pos rfl]
      refine he d hm hp B _ f H4 _ (r3.same s4) _ fun y H5 s5 hy5 => ?_
      have h5 : H5 D = some (.lst vs) := s5 _ _ (s4 _ _ (s3 _ _ h2))
      refine ⟨vs, h5, szl ?_, ?_, ?_, vs ++ [y], upd_same, ?_⟩
      · rw [dpAll_len h3, List.length_map]
        have := List.length_filter_le p (ds.take k)
        have e3 : (ds.take k).length ≤ ds.length := List.length_take_le' _ _
        omega
      · exact (((r2.same s3).same s4).same s5).mutHid List.mem_cons_self hB
      · exact same_mut (((s2.trans s3).trans s4).trans s5) hD
      · have hs : Same (rm (D :: hid O W f) H5) (rm (D :: hid O W f) (upd H5 D (.lst (vs ++ [y])))) := rm_mut List.mem_cons_self
        rw [e2, List.filter_append, List.map_append]
        have h3' := dpAll_same (rm_same ((s3.trans s4).trans s5)) _ _ h3
        simp only [List.filter_cons, hp, if_true, List.filter_nil, List.map_cons, List.map_nil]
        exact dpAll_app (dpAll_same hs _ _ h3') (.cons (dp_same hs _ _ hy5) .nil)
    | false =>
      rw [if_neg Bool.false_ne_true]
      refine ⟨((r2.same s3).same s4), ((s2.trans s3).trans s4), vs, s4 _ _ (s3 _ _ h2), ?_⟩
      rw [e2, List.filter_append, List.map_append]
      simp only [List.filter_cons, hp, List.filter_nil, if_neg Bool.false_ne_true, List.map_nil, List.append_nil]
      exact dpAll_same (rm_same (s3.trans s4)) _ _ h3
  · obtain ⟨_, s2, vs, h2, h3⟩ := hP
    rw [List.take_length] at h3
    exact q D vs H' hD s2 h2 h3
/-- a new list that nothing else holds -/
def EF (K : PySem.W.Frag) (W : List Nat) (te : TE) (env : Env) (ds : List PyData) : Prop := ∀ (B : Hp) (O : List Addr) (f : Nat → Addr) (H : Hp) (σ : L2.St), SR K B O W f H σ env → ∀ Q : VK,
  (∀ p vs H2, H p = none → Same H H2 → H2 p = some (.lst vs) → DA K (p :: hid O W f) H2 vs ds → Q (.ref p) H2) → te σ H Q
theorem rm_cons {O : List Addr} {H : Hp} {D : Addr} : Same (rm (D :: O) H) (rm O H) := rm_sub fun b h => List.mem_cons_of_mem _ h
theorem EF.ev (h : EF K W te env ds) : EV K W te env (.list ds) := fun B O f H σ r Q q => h B O f H σ r Q fun p vs H2 hp s h1 h2 =>
  q _ H2 s (.lst (by rw [rm_at (r.live.new hp)]; exact h1) (dpAll_same rm_cons _ _ h2))
theorem EF.el (h : EF K W te env ds) : EL K W te env ds := h.ev.list
theorem ef_lst {ta : TA} (h : EA K W ta env ds) (hl : ds.length ≤ 100000 := by decide) : EF K W (tLst ta) env ds := fun B O f H σ r Q q =>
  h B O f H σ r _ fun vs H1 s1 hv => ⟨by rw [dpAll_len hv]; exact sz hl, fun p np => q p vs _ (s1.free np) (s1.trans (same_new np)) upd_same (dpAll_same (rm_new np (same_new np)) _ _ hv)⟩
theorem ef_lcL {i : Nat} (p : PyData → Bool) (g : PyData → PyData) (h : ES K W tl env ds) (ht : ∀ d ∈ ds, ET K W tt (env.set i (some d)) (p d)) (he : ∀ d ∈ ds, p d = true → EV K W te (env.set i (some d)) (g d)) (hl : ds.length ≤ 50000) (hi : i ∉ W := by decide) :
    EF K W (tLc (iList K tl) (gName i) tt te [i]) env ((ds.filter p).map g) := fun B O f H σ r Q q =>
  h B O f H σ r _ fun a vs H1 s1 h1 h2 => by
    have hlen := dpAll_len h2
    refine ⟨a, rfl, ⟨vs, h1⟩, lc_core p g (r.same s1) hi (by rw [← hlen]; exact walk_list (xs := vs)) (fun H2 s2 => s2.seq h1) (fun D k H2 x H3 nD _ hk s2 hy => ?_) hl ht he (fun D ws H' nD s2 h3 h4 => q D ws H' (s1.free nD) (s1.trans s2) h3 h4)⟩
    obtain ⟨rfl, hx⟩ := hy
    obtain ⟨d, hd, hv⟩ := dpAll_getV h2 hx
    exact ⟨Same.refl _, d, hd, dp_same (rm_new nD s2) _ _ hv⟩
theorem ef_lcT {i : Nat} (p : PyData → Bool) (g : PyData → PyData) (h : EU K W tl env ds) (ht : ∀ d ∈ ds, ET K W tt (env.set i (some d)) (p d)) (he : ∀ d ∈ ds, p d = true → EV K W te (env.set i (some d)) (g d)) (hl : ds.length ≤ 50000) (hi : i ∉ W := by decide) :
    EF K W (tLc (iTup K tl) (gName i) tt te [i]) env ((ds.filter p).map g) := fun B O f H σ r Q q =>
  h B O f H σ r _ fun a vs H1 s1 h1 h2 => by
    have hlen := dpAll_len h2
    refine ⟨a, rfl, ⟨vs, Evl.ex_t rm_le h1⟩, lc_core p g (r.same s1) hi (by rw [← hlen]; exact walk_tup (xs := vs)) (fun H2 s2 => Evl.ex_t (rm_le.trans s2) h1) (fun D k H2 x H3 nD _ hk s2 hy => ?_) hl ht he (fun D ws H' nD s2 h3 h4 => q D ws H' (s1.free nD) (s1.trans s2) h3 h4)⟩
    obtain ⟨rfl, hx⟩ := hy
    obtain ⟨d, hd, hv⟩ := dpAll_getV h2 hx
    exact ⟨Same.refl _, d, hd, dp_same (rm_new nD s2) _ _ hv⟩
/-- the signs of a text, as data -/
def signs (z : Str) : List PyData := z.cps.toList.map fun c => .str (tx [c])
theorem ef_lcS {i : Nat} {z : Str} (p : PyData → Bool) (g : PyData → PyData) (h : EV K W tl env (.str z)) (ht : ∀ d ∈ signs z, ET K W tt (env.set i (some d)) (p d)) (he : ∀ d ∈ signs z, p d = true → EV K W te (env.set i (some d)) (g d)) (hl : z.length ≤ 50000) (hi : i ∉ W := by decide) :
    EF K W (tLc (iStr tl) (gName i) tt te [i]) env (((signs z).filter p).map g) := fun B O f H σ r Q q =>
  h B O f H σ r _ fun v H1 s1 hv => by
    cases dp_str hv
    have hlen : (signs z).length = z.cps.size := by simp [signs]
    refine ⟨z, rfl, lc_core p g (r.same s1) hi (by rw [hlen]; exact walk_str (z := z)) (fun H2 s2 => trivial) (fun D k H2 x H3 nD _ hk s2 hy => ?_) (by rw [hlen]; exact hl) ht he (fun D ws H' nD s2 h3 h4 => q D ws H' (s1.free nD) (s1.trans s2) h3 h4)⟩
    obtain ⟨rfl, c, hc, rfl⟩ := hy
    have hc' : z.cps.toList[k]? = some c := by simpa using hc
    refine ⟨Same.refl _, .str (tx [c]), ?_, .str _⟩
    unfold signs
    rw [List.getElem?_map, hc']
    rfl
/-- lo, lo + 1, .. as data -/
def rngD (lo : Int) (n : Nat) : List PyData := (List.range n).map fun (k : Nat) => .int (lo + (k : Int))
theorem ef_lcR {i : Nat} {n : Int} {ta : TA} (p : PyData → Bool) (g : PyData → PyData) (h : EA K W ta env [.int n]) (hn : n ≤ 50000) (ht : ∀ d ∈ rngD 0 n.toNat, ET K W tt (env.set i (some d)) (p d)) (he : ∀ d ∈ rngD 0 n.toNat, p d = true → EV K W te (env.set i (some d)) (g d)) (hn0 : -50000 ≤ n) (hi : i ∉ W := by decide) :
    EF K W (tLc (iRng1 ta) (gName i) tt te [i]) env (((rngD 0 n.toNat).filter p).map g) := fun B O f H σ r Q q =>
  h B O f H σ r _ fun vs H1 s1 hv => by
    cases hv with
    | cons h1 h2 =>
    cases h2
    cases dp_int h1
    have hlen : (rngD 0 n.toNat).length = n.toNat := by simp [rngD]
    refine ⟨n, rfl, by omega, by omega, lc_core p g (r.same s1) hi (by rw [hlen]; exact walk_range) (fun H2 s2 => trivial) (fun D k H2 x H3 nD _ hk s2 hy => ?_) (by rw [hlen]; omega) ht he (fun D ws H' nD s2 h3 h4 => q D ws H' (s1.free nD) (s1.trans s2) h3 h4)⟩
    obtain ⟨rfl, rfl⟩ := hy
    refine ⟨Same.refl _, _, ?_, .int _⟩
    unfold rngD
    rw [List.getElem?_map, List.getElem?_range (by omega)]
    rfl
end

/-! ## statements -/
/-- what is wanted behind a statement, by data -/
structure PEnds where
  nx : List Nat → Env → Prop
  rt : PyData → Prop
  bk : List Nat → Env → Prop := fun _ _ => False
  ct : List Nat → Env → Prop := fun _ _ => False
def ST (K : PySem.W.Frag) (W : List Nat) (ts : TS) (env : Env) (D' : PEnds) : Prop := ∀ (B : Hp) (O : List Addr) (f : Nat → Addr) (H : Hp) (σ : L2.St) (D : Ends), SR K B O W f H σ env →
  (∀ W' f' H' σ' env', SR K B O W' f' H' σ' env' → D'.nx W' env' → D.nx σ' H') →
  (∀ v H' d, Same B H' → DO K O H' v d → D'.rt d → D.rt v H') →
  (∀ W' f' H' σ' env', SR K B O W' f' H' σ' env' → D'.bk W' env' → D.bk σ' H') →
  (∀ W' f' H' σ' env', SR K B O W' f' H' σ' env' → D'.ct W' env' → D.ct σ' H') → ts D σ H
section
variable {K : PySem.W.Frag} {W : List Nat} {ta tb te tl : TE} {tt : TT} {t u : TS} {env : Env} {d e : PyData} {ds es : List PyData} {D' : PEnds}
theorem st_cons (h : ST K W t env { D' with nx := fun W1 env1 => ST K W1 u env1 D' }) : ST K W (tSeq t u) env D' := fun B O f H σ D r n1 n2 n3 n4 =>
  h B O f H σ { D with nx := u D } r (fun W' f' H' σ' env' r' hu => hu B O f' H' σ' D r' n1 n2 n3 n4) n2 n3 n4
theorem st_cut (M : List Nat → Env → Prop) (h : ST K W t env { D' with nx := M }) (k : ∀ W1 env1, M W1 env1 → ST K W1 u env1 D') : ST K W (Evl.tCut t u) env D' := fun B O f H σ D r n1 n2 n3 n4 =>
  ⟨fun σ1 H1 => ∃ W1 f1 env1, SR K B O W1 f1 H1 σ1 env1 ∧ M W1 env1, h B O f H σ { D with nx := _ } r (fun W' f' H' σ' env' r' hm => ⟨W', f', env', r', hm⟩) n2 n3 n4,
    fun σ1 H1 ⟨W1, f1, env1, r1, m1⟩ => k W1 env1 m1 B O f1 H1 σ1 D r1 n1 n2 n3 n4⟩
theorem st_next (h : D'.nx W env) : ST K W tNext env D' := fun B O f H σ D r n1 n2 n3 n4 => n1 W f H σ env r h
theorem st_break (h : D'.bk W env) : ST K W tBreak env D' := fun B O f H σ D r n1 n2 n3 n4 => n3 W f H σ env r h
theorem st_cont (h : D'.ct W env) : ST K W tCont env D' := fun B O f H σ D r n1 n2 n3 n4 => n4 W f H σ env r h
theorem st_set {i : Nat} (h : EV K W te env d) (k : D'.nx W (env.set i (some d))) (hi : i ∉ W := by decide) : ST K W (tAsg te (gName i)) env D' := fun B O f H σ D r n1 n2 n3 n4 =>
  h B O f H σ r _ fun v H2 s hv => n1 W f H2 _ _ ((r.same s).set hi hv) k
theorem st_drop (h : EV K W te env d) (k : D'.nx W env) : ST K W (tDrop te) env D' := fun B O f H σ D r n1 n2 n3 n4 =>
  h B O f H σ r _ fun v H2 s hv => n1 W f H2 _ _ (r.same s) k
theorem st_ret (h : EV K W te env d) (k : D'.rt d) : ST K W (tRet te) env D' := fun B O f H σ D r n1 n2 n3 n4 =>
  h B O f H σ r _ fun v H2 s hv => n2 v H2 d (r.base.trans s) (dp_same (rm_sub fun b hb => List.mem_append_left _ hb) _ _ hv) k
theorem st_retN (k : D'.rt .none) : ST K W tRetN env D' := fun B O f H σ D r n1 n2 n3 n4 => n2 .non H .none r.base .non k
/-- an own list is handed back -/
theorem st_retO {i : Nat} (h : env[i]? = some (some (.list ds))) (k : D'.rt (.list ds)) (hi : i ∈ W := by decide) : ST K W (tRet (tVar i)) env D' := fun B O f H σ D r n1 n2 n3 n4 => by
  obtain ⟨h1, ds', vs, h2, h3, h4⟩ := r.own i hi
  rw [h] at h2
  cases h2
  have h5 : DA K O H vs ds := dpAll_same (rm_sub fun b hb => List.mem_append_left _ hb) _ _ h4
  exact ⟨_, h1, n2 _ H _ r.base (.lst (by rw [rm_at (r.new i hi).2]; exact h3) h5) k⟩
theorem st_if {b : Bool} (h : ET K W tt env b) (h1 : b = true → ST K W t env D') (h2 : b = false → ST K W u env D') : ST K W (tIfS tt t u) env D' := fun B O f H σ D r n1 n2 n3 n4 =>
  h B O f H σ r _ fun H2 s => by
    cases b with
    | true => rw [if_pos rfl]; exact h1 rfl B O f H2 σ D (r.same s) n1 n2 n3 n4
    | false => rw [if_neg Bool.false_ne_true]; exact h2 rfl B O f H2 σ D (r.same s) n1 n2 n3 n4
/-! own lists -/
theorem SR.addOwn {B : Hp} {O : List Addr} {f : Nat → Addr} {H H2 : Hp} {σ : L2.St} {i : Nat} {p : Addr} {vs : List V} (r : SR K B O W f H σ env) (hi : i ∉ W) (hlt : i < env.length) (hp : H p = none) (s : Same H H2) (h1 : H2 p = some (.lst vs)) (h2 : DA K (p :: hid O W f) H2 vs ds) :
    SR K B O (i :: W) (fun j => if j = i then p else f j) H2 (σ.set i (some (.ref p))) (env.set i (some (.list ds))) := by
  have hf : ∀ j ∈ W, (if j = i then p else f j) = f j := fun j hj => if_neg fun z => by
    rw [z] at hj
    exact hi hj
  have hm : W.map (fun j => if j = i then p else f j) = W.map f := List.map_congr_left hf
  have hn : ∀ b ∈ hid O W f, b ≠ p := fun b hb z => r.live b hb (by rw [z]; exact hp)
  have hmem : ∀ b, b ∈ hid O (i :: W) (fun j => if j = i then p else f j) ↔ b ∈ p :: hid O W f := fun b => by
    simp only [hid, List.map_cons, if_pos, hm, List.mem_append, List.mem_cons]
    constructor
    · rintro (h | h | h)
      · exact .inr (.inl h)
      · exact .inl h
      · exact .inr (.inr h)
    · rintro (h | h | h)
      · exact .inr (.inl h)
      · exact .inl h
      · exact .inr (.inr h)
  have hsub : Same (rm (p :: hid O W f) H2) (rm (hid O (i :: W) (fun j => if j = i then p else f j)) H2) := rm_sub fun b hb => (hmem b).1 hb
  refine ⟨r.base.trans s, fun b hb => ?_, fun j hj => ?_, fun j hj k hk e => ?_, by simp [r.len], fun j d hd hj => ?_, fun j hj => ?_⟩
  · rcases List.mem_cons.mp ((hmem b).1 hb) with e | hb
    · rw [e, h1]
      simp
    · exact (r.live.same s) b hb
  · by_cases e : j = i
    · rw [if_pos e]
      exact ⟨r.base.free hp, fun z => hn p (List.mem_append_left _ z) rfl⟩
    · rw [if_neg e]
      exact r.new j ((List.mem_cons.mp hj).resolve_left e)
  · by_cases e1 : j = i
    · by_cases e2 : k = i
      · rw [e1, e2]
      · rw [if_pos e1, if_neg e2] at e
        have hk' := (List.mem_cons.mp hk).resolve_left e2
        exact absurd e.symm (hn (f k) (List.mem_append_right _ (List.mem_map_of_mem hk')))
    · by_cases e2 : k = i
      · rw [if_neg e1, if_pos e2] at e
        have hj' := (List.mem_cons.mp hj).resolve_left e1
        exact absurd e (hn (f j) (List.mem_append_right _ (List.mem_map_of_mem hj')))
      · rw [if_neg e1, if_neg e2] at e
        exact r.inj j ((List.mem_cons.mp hj).resolve_left e1) k ((List.mem_cons.mp hk).resolve_left e2) e
  · have hji : j ≠ i := fun z => hj (z ▸ List.mem_cons_self)
    rw [List.getElem?_set_ne (Ne.symm hji)] at hd ⊢
    obtain ⟨v, e1, e2⟩ := r.val j d hd fun z => hj (List.mem_cons_of_mem _ z)
    exact ⟨v, e1, dp_same hsub _ _ (dp_same (rm_new hp s) _ _ e2)⟩
  · by_cases e : j = i
    · subst e
      have h3 : (σ.set j (some (V.ref p)))[j]? = some (some (.ref p)) := List.getElem?_set_self (by rw [r.len]; exact hlt)
      have h4 : (env.set j (some (PyData.list ds)))[j]? = some (some (.list ds)) := List.getElem?_set_self hlt
      rw [if_pos rfl]
      exact ⟨h3, ds, vs, h4, h1, dpAll_same hsub _ _ h2⟩
    · have hj' := (List.mem_cons.mp hj).resolve_left e
      obtain ⟨g1, ds', vs', g2, g3, g4⟩ := r.own j hj'
      rw [if_neg e, List.getElem?_set_ne (Ne.symm e), List.getElem?_set_ne (Ne.symm e)]
      exact ⟨g1, ds', vs', g2, s _ _ g3, dpAll_same hsub _ _ (dpAll_same (rm_new hp s) _ _ g4)⟩
theorem st_own {i : Nat} (h : EF K W te env ds) (k : D'.nx (i :: W) (env.set i (some (.list ds)))) (hi : i ∉ W := by decide) (hlt : i < env.length := by decide) : ST K W (tAsg te (gName i)) env D' := fun B O f H σ D r n1 n2 n3 n4 =>
  h B O f H σ r _ fun p vs H2 hp s h1 h2 => n1 _ _ H2 _ _ (r.addOwn hi hlt hp s h1 h2) k
theorem SR.app {B : Hp} {O : List Addr} {f : Nat → Addr} {H : Hp} {σ : L2.St} {i : Nat} {vs : List V} (r : SR K B O W f H σ env) (hi : i ∈ W) (h2 : DA K (hid O W f) H vs ds) :
    SR K B O W f (upd H (f i) (.lst vs)) σ (env.set i (some (.list ds))) := by
  have hm : f i ∈ hid O W f := List.mem_append_right _ (List.mem_map_of_mem hi)
  have hlt : i < env.length := by
    obtain ⟨_, _, _, g2, _⟩ := r.own i hi
    exact (List.getElem?_eq_some_iff.mp g2).1
  refine ⟨fun b u e => ?_, live_mut r.live, r.new, r.inj, by simp [r.len], fun j d hd hj => ?_, fun j hj => ?_⟩
  · rw [upd_ne fun z => by rw [z, (r.new i hi).1] at e; cases e]
    exact r.base _ _ e
  · have hji : j ≠ i := fun z => hj (z ▸ hi)
    rw [List.getElem?_set_ne (Ne.symm hji)] at hd
    obtain ⟨v, e1, e2⟩ := r.val j d hd hj
    exact ⟨v, e1, dp_same (rm_mut hm) _ _ e2⟩
  · by_cases e : j = i
    · subst e
      have h4 : (env.set j (some (PyData.list ds)))[j]? = some (some (.list ds)) := List.getElem?_set_self hlt
      exact ⟨(r.own j hj).1, ds, vs, h4, upd_same, dpAll_same (rm_mut hm) _ _ h2⟩
    · obtain ⟨g1, ds', vs', g2, g3, g4⟩ := r.own j hj
      rw [List.getElem?_set_ne (Ne.symm e)]
      exact ⟨g1, ds', vs', g2, by rw [upd_ne fun z => e (r.inj j hj i hi z)]; exact g3, dpAll_same (rm_mut hm) _ _ g4⟩
/-- xs.append(e) of an own list -/
theorem st_app {i : Nat} (hx : env[i]? = some (some (.list ds))) (h : EV K W te env d) (hl : ds.length < 100000) (k : D'.nx W (env.set i (some (.list (ds ++ [d]))))) (hi : i ∈ W := by decide) :
    ST K W (tDrop (tBM K "list" rAppend (tVar i) (tCons te tNil))) env D' := fun B O f H σ D r n1 n2 n3 n4 => by
  obtain ⟨h1, ds', vs, h2, h3, h4⟩ := r.own i hi
  rw [hx] at h2
  cases h2
  refine ⟨_, h1, .inl ⟨rfl, _, SqL.of h3⟩, h B O f H σ r _ fun v H2 s hv => ?_⟩
  refine ⟨f i, vs, v, rfl, rfl, s _ _ h3, by rw [dpAll_len h4]; exact szl hl, ?_⟩
  exact n1 W f _ _ _ ((r.same s).app hi (dpAll_app (DA.same h4 s) (.cons hv .nil))) k
/-- an own list becomes a plain one -/
theorem st_disown {i : Nat} (h : ST K (W.filter (fun j => decide (j ≠ i))) t env D') : ST K W t env D' := fun B O f H σ D r n1 n2 n3 n4 => by
  refine h B O f H σ D ?_ n1 n2 n3 n4
  have hmW : ∀ j, j ∈ W.filter (fun j => decide (j ≠ i)) ↔ j ∈ W ∧ j ≠ i := fun j => by simp
  have hsub : Same (rm (hid O W f) H) (rm (hid O (W.filter (fun j => decide (j ≠ i))) f) H) := rm_sub fun b hb => by
    rcases List.mem_append.mp hb with h | h
    · exact List.mem_append_left _ h
    · obtain ⟨j, hj, e⟩ := List.mem_map.mp h
      exact List.mem_append_right _ (List.mem_map.mpr ⟨j, ((hmW j).1 hj).1, e⟩)
  refine ⟨r.base, fun b hb => r.live b ?_, fun j hj => r.new j ((hmW j).1 hj).1, fun j hj k hk => r.inj j ((hmW j).1 hj).1 k ((hmW k).1 hk).1, r.len, fun j d hd hj => ?_, fun j hj => ?_⟩
  · rcases List.mem_append.mp hb with h | h
    · exact List.mem_append_left _ h
    · obtain ⟨j, hj, e⟩ := List.mem_map.mp h
      exact List.mem_append_right _ (List.mem_map.mpr ⟨j, ((hmW j).1 hj).1, e⟩)
  · by_cases hjW : j ∈ W
    · have e : j = i := Classical.byContradiction fun z => hj ((hmW j).2 ⟨hjW, z⟩)
      subst e
      obtain ⟨g1, ds, vs, g2, g3, g4⟩ := r.own j hjW
      rw [hd] at g2
      cases g2
      refine ⟨_, g1, .lst ?_ (dpAll_same hsub _ _ g4)⟩
      rw [rm_at]
      · exact g3
      · intro z
        rcases List.mem_append.mp z with h | h
        · exact (r.new j hjW).2 h
        · obtain ⟨k, hk, e⟩ := List.mem_map.mp h
          exact ((hmW k).1 hk).2 (r.inj k ((hmW k).1 hk).1 j hjW e)
    · obtain ⟨v, g1, g2⟩ := r.val j d hd hjW
      exact ⟨v, g1, dp_same hsub _ _ g2⟩
  · obtain ⟨g1, ds, vs, g2, g3, g4⟩ := r.own j ((hmW j).1 hj).1
    exact ⟨g1, ds, vs, g2, g3, dpAll_same hsub _ _ g4⟩
/-! loops: the invariant by the turn, the own slots stay W -/
theorem SR.inB {B : Hp} {O : List Addr} {f : Nat → Addr} {H : Hp} {σ : L2.St} (r : SR K B O W f H σ env) : SR K (rm (W.map f) H) O W f H σ env :=
  ⟨rm_le, r.live, fun i hi => ⟨if_pos (List.mem_map_of_mem hi), (r.new i hi).2⟩, r.inj, r.len, r.val, r.own⟩
theorem SR.leB {B : Hp} {O : List Addr} {f : Nat → Addr} {H : Hp} {σ : L2.St} (r : SR K B O W f H σ env) : Same B (rm (W.map f) H) := fun b o e => by
  rw [rm_at]
  · exact r.base _ _ e
  · intro z
    obtain ⟨i, hi, e2⟩ := List.mem_map.mp z
    rw [← e2, (r.new i hi).1] at e
    cases e
theorem SR.outB {B B' : Hp} {O : List Addr} {f : Nat → Addr} {H : Hp} {σ : L2.St} (r : SR K B' O W f H σ env) (s : Same B B') : SR K B O W f H σ env :=
  ⟨s.trans r.base, r.live, fun i hi => ⟨s.free (r.new i hi).1, (r.new i hi).2⟩, r.inj, r.len, r.val, r.own⟩
theorem for_core {B : Hp} {O : List Addr} {f : Nat → Addr} {H1 : Hp} {σ : L2.St} {D : Ends} {J : It} {n : Nat} {G : Hp → Prop} {Y : Nat → Hp → V → Hp → Prop} {g : TG} {tb : TS} (Inv : Nat → Env → Prop)
    (w : Walk J n G Y) (r : SR K B O W f H1 σ env) (h0 : Inv 0 env) (hG : ∀ H2, Same (rm (W.map f) H1) H2 → G H2)
    (hs : ∀ k x f2 H2 H3 σ2 env2, k < n → SR K (rm (W.map f) H1) O W f2 H2 σ2 env2 → Inv k env2 → Y k H2 x H3 → ∀ R : L2.St → Hp → Prop, (∀ f3 H4 σ3 env3, SR K (rm (W.map f) H1) O W f3 H4 σ3 env3 →
      ST K W tb env3 { nx := fun W' e' => W' = W ∧ Inv (k + 1) e', ct := fun W' e' => W' = W ∧ Inv (k + 1) e', bk := D'.nx, rt := D'.rt } → R σ3 H4) → g x σ2 H3 R)
    (hd : ∀ env2, Inv n env2 → D'.nx W env2)
    (n1 : ∀ W' f' H' σ' env', SR K B O W' f' H' σ' env' → D'.nx W' env' → D.nx σ' H') (n2 : ∀ v H' d, Same B H' → DO K O H' v d → D'.rt d → D.rt v H') :
    ∃ W' : Nat → Nat → L2.St → Hp → Prop, (∃ m, W' 0 m σ H1) ∧ ∀ i m σ H, W' i m σ H →
      (J.stop i H ∧ D.nx σ H) ∨ (J.go i H ∧ ∃ N : L2.St → Hp → Prop, (∀ σ' H', N σ' H' → ∃ m', m' < m ∧ W' (i + 1) m' σ' H') ∧ ∀ x H', J.yld i H x H' → g x σ H' fun σ2 H2 => tb { D with nx := N, ct := N, bk := D.nx } σ2 H2) := by
  have le := r.leB
  refine for_it w (fun k σ' H' => ∃ f2 env2, SR K (rm (W.map f) H1) O W f2 H' σ' env2 ∧ Inv k env2) ⟨f, env, r.inB, h0⟩ (fun k σ' H' _ ⟨f2, env2, r2, _⟩ => hG H' r2.base) (fun k x σ' H2 H3 hk hP hy => ?_) (fun σ' H' hP => ?_)
  · obtain ⟨f2, env2, r2, i2⟩ := hP
    refine hs k x f2 H2 H3 σ' env2 hk r2 i2 hy _ fun f3 H4 σ3 env3 r3 h3 => ?_
    refine h3 _ _ _ _ _ _ r3 (fun W' f' H' σ' env' r' hn => ?_) (fun v H' d sb hv hr => n2 v H' d (le.trans sb) hv hr) (fun W' f' H' σ' env' r' hn => n1 W' f' H' σ' env' (r'.outB le) hn) (fun W' f' H' σ' env' r' hn => ?_)
    · obtain ⟨rfl, hi⟩ := hn
      exact ⟨f', env', r', hi⟩
    · obtain ⟨rfl, hi⟩ := hn
      exact ⟨f', env', r', hi⟩
  · obtain ⟨f2, env2, r2, i2⟩ := hP
    exact n1 W f2 H' σ' env2 (r2.outB le) (hd env2 i2)
theorem own_free {B : Hp} {O : List Addr} {f : Nat → Addr} {H1 : Hp} {σ : L2.St} {a : Addr} {vs : List V} (r : SR K B O W f H1 σ env) (h : rm (hid O W f) H1 a = some (.lst vs)) : rm (W.map f) H1 a = some (.lst vs) := by
  obtain ⟨n1, n2⟩ := rm_some h
  rw [rm_at fun z => n1 (List.mem_append_right _ z)]
  exact n2
/-- for x in a list that is no own one -/
theorem st_forL {i : Nat} {tb : TS} (Inv : Nat → Env → Prop) (h : EV K W tl env (.list ds)) (h0 : Inv 0 env)
    (hs : ∀ k d env2, ds[k]? = some d → Inv k env2 → ST K W tb (env2.set i (some d)) { nx := fun W' e' => W' = W ∧ Inv (k + 1) e', ct := fun W' e' => W' = W ∧ Inv (k + 1) e', bk := D'.nx, rt := D'.rt })
    (hd : ∀ env2, Inv ds.length env2 → D'.nx W env2) (hi : i ∉ W := by decide) : ST K W (tFor (iList K tl) (gName i) tb) env D' := fun B O f H σ D r n1 n2 n3 n4 =>
  h B O f H σ r _ fun v H1 s1 hv => by
    obtain ⟨a, vs, rfl, h1, h2⟩ := dp_list hv
    have r1 := r.same s1
    have ha := own_free r1 h1
    refine ⟨a, rfl, ⟨vs, SqL.of (rm_le _ _ h1)⟩, for_core Inv (by rw [← dpAll_len h2]; exact walk_list (xs := vs)) r1 h0 (fun H2 s2 => SqL.of (s2 _ _ ha)) (fun k x f2 H2 H3 σ2 env2 hk r2 i2 hy R hR => ?_) hd n1 n2⟩
    obtain ⟨rfl, hx⟩ := hy
    obtain ⟨d, hd', hv'⟩ := dpAll_getV h2 hx
    refine hR f2 H3 _ _ (r2.set hi ?_) (hs k d env2 hd' i2)
    refine dp_same ?_ _ _ hv'
    intro b o hb
    obtain ⟨m1, m2⟩ := rm_some hb
    have hb2 : rm (W.map f) H1 b = some o := by
      rw [rm_at fun z => m1 (List.mem_append_right _ z)]
      exact m2
    rw [rm_at]
    · exact r2.base _ _ hb2
    · intro z
      rcases List.mem_append.mp z with z | z
      · exact m1 (List.mem_append_left _ z)
      · obtain ⟨j, hj, e⟩ := List.mem_map.mp z
        rw [← e, (r2.new j hj).1] at hb2
        cases hb2
theorem st_forT {i : Nat} {tb : TS} (Inv : Nat → Env → Prop) (h : EV K W tl env (.tuple ds)) (h0 : Inv 0 env)
    (hs : ∀ k d env2, ds[k]? = some d → Inv k env2 → ST K W tb (env2.set i (some d)) { nx := fun W' e' => W' = W ∧ Inv (k + 1) e', ct := fun W' e' => W' = W ∧ Inv (k + 1) e', bk := D'.nx, rt := D'.rt })
    (hd : ∀ env2, Inv ds.length env2 → D'.nx W env2) (hi : i ∉ W := by decide) : ST K W (tFor (iTup K tl) (gName i) tb) env D' := fun B O f H σ D r n1 n2 n3 n4 =>
  h B O f H σ r _ fun v H1 s1 hv => by
    obtain ⟨a, vs, rfl, h1, h2⟩ := dp_tup hv
    have r1 := r.same s1
    have hsub : Same (rm (hid O W f) H1) (rm (W.map f) H1) := rm_sub fun b hb => List.mem_append_right _ hb
    refine ⟨a, rfl, ⟨vs, Evl.ex_t rm_le h1⟩, for_core Inv (by rw [← dpAll_len h2]; exact walk_tup (xs := vs)) r1 h0 (fun H2 s2 => Evl.ex_t (hsub.trans s2) h1) (fun k x f2 H2 H3 σ2 env2 hk r2 i2 hy R hR => ?_) hd n1 n2⟩
    obtain ⟨rfl, hx⟩ := hy
    obtain ⟨d, hd', hv'⟩ := dpAll_getV h2 hx
    refine hR f2 H3 _ _ (r2.set hi ?_) (hs k d env2 hd' i2)
    refine dp_same ?_ _ _ hv'
    intro b o hb
    obtain ⟨m1, m2⟩ := rm_some hb
    have hb2 := hsub _ _ hb
    rw [rm_at]
    · exact r2.base _ _ hb2
    · intro z
      rcases List.mem_append.mp z with z | z
      · exact m1 (List.mem_append_left _ z)
      · obtain ⟨j, hj, e⟩ := List.mem_map.mp z
        rw [← e, (r2.new j hj).1] at hb2
        cases hb2
/-- for k in range(n), range(lo, hi) -/
theorem st_forR1 {i : Nat} {n : Int} {tb : TS} {tr : TA} (Inv : Nat → Env → Prop) (h : EA K W tr env [.int n]) (hn : -1000000 ≤ n ∧ n ≤ 1000000) (h0 : Inv 0 env)
    (hs : ∀ (k : Nat) env2, k < n.toNat → Inv k env2 → ST K W tb (env2.set i (some (.int (0 + (k : Int))))) { nx := fun W' e' => W' = W ∧ Inv (k + 1) e', ct := fun W' e' => W' = W ∧ Inv (k + 1) e', bk := D'.nx, rt := D'.rt })
    (hd : ∀ env2, Inv n.toNat env2 → D'.nx W env2) (hi : i ∉ W := by decide) : ST K W (tFor (iRng1 tr) (gName i) tb) env D' := fun B O f H σ D r n1 n2 n3 n4 =>
  h B O f H σ r _ fun vs H1 s1 hv => by
    cases hv with
    | cons h1 h2 =>
    cases h2
    cases dp_int h1
    refine ⟨n, rfl, by omega, by omega, for_core Inv walk_range (r.same s1) h0 (fun H2 s2 => trivial) (fun k x f2 H2 H3 σ2 env2 hk r2 i2 hy R hR => ?_) hd n1 n2⟩
    obtain ⟨rfl, rfl⟩ := hy
    exact hR f2 H3 _ _ (r2.set hi (.int _)) (hs k env2 hk i2)
theorem st_forR2 {i : Nat} {lo n : Int} {tb : TS} {tr : TA} (Inv : Nat → Env → Prop) (h : EA K W tr env [.int lo, .int n]) (hn : (-1000000 ≤ lo ∧ lo ≤ 1000000) ∧ -1000000 ≤ n ∧ n ≤ 1000000) (h0 : Inv 0 env)
    (hs : ∀ (k : Nat) env2, k < (n - lo).toNat → Inv k env2 → ST K W tb (env2.set i (some (.int (lo + (k : Int))))) { nx := fun W' e' => W' = W ∧ Inv (k + 1) e', ct := fun W' e' => W' = W ∧ Inv (k + 1) e', bk := D'.nx, rt := D'.rt })
    (hd : ∀ env2, Inv (n - lo).toNat env2 → D'.nx W env2) (hi : i ∉ W := by decide) : ST K W (tFor (iRng2 tr) (gName i) tb) env D' := fun B O f H σ D r n1 n2 n3 n4 =>
  h B O f H σ r _ fun vs H1 s1 hv => by
    cases hv with
    | cons h1 h2 =>
    cases h2 with
    | cons h3 h4 =>
    cases h4
    cases dp_int h1
    cases dp_int h3
    refine ⟨lo, n, rfl, by omega, for_core Inv walk_range (r.same s1) h0 (fun H2 s2 => trivial) (fun k x f2 H2 H3 σ2 env2 hk r2 i2 hy R hR => ?_) hd n1 n2⟩
    obtain ⟨rfl, rfl⟩ := hy
    exact hR f2 H3 _ _ (r2.set hi (.int _)) (hs k env2 hk i2)
/-- for c in a text -/
theorem st_forS {i : Nat} {z : Str} {tb : TS} (Inv : Nat → Env → Prop) (h : EV K W tl env (.str z)) (h0 : Inv 0 env)
    (hs : ∀ (k : Nat) c env2, z.cps.toList[k]? = some c → Inv k env2 → ST K W tb (env2.set i (some (.str (tx [c])))) { nx := fun W' e' => W' = W ∧ Inv (k + 1) e', ct := fun W' e' => W' = W ∧ Inv (k + 1) e', bk := D'.nx, rt := D'.rt })
    (hd : ∀ env2, Inv z.cps.size env2 → D'.nx W env2) (hi : i ∉ W := by decide) : ST K W (tFor (iStr tl) (gName i) tb) env D' := fun B O f H σ D r n1 n2 n3 n4 =>
  h B O f H σ r _ fun v H1 s1 hv => by
    cases dp_str hv
    refine ⟨z, rfl, for_core Inv walk_str (r.same s1) h0 (fun H2 s2 => trivial) (fun k x f2 H2 H3 σ2 env2 hk r2 i2 hy R hR => ?_) hd n1 n2⟩
    obtain ⟨rfl, c, hc, rfl⟩ := hy
    exact hR f2 H3 _ _ (r2.set hi (.str _)) (hs k c env2 (by simpa using hc) i2)
end
/-! ## a def -/
section
variable {P : Program} {w : World} {K : PySem.W.Frag} {mg : Str → Option Value} {base : Heap}
/-- the env at a def's entry -/
def envOf (N : List Str) (ds : List PyData) : Env := ds.map some ++ List.replicate (N.length - ds.length) none
theorem sr_start {H : Hp} {O : List Addr} {N : List Str} {vs : List V} {ds : List PyData} (l : Live O H) (h : DA K O H vs ds) : SR K H O [] (fun _ => 0) H (L2.start N vs) (envOf N ds) := by
  have hl := dpAll_len h
  refine ⟨Same.refl _, by simpa using l, (fun _ z => nomatch z), (fun _ z => nomatch z), ?_, fun i d hd _ => ?_, (fun _ z => nomatch z)⟩
  · simp [L2.start, envOf, hl]
  · unfold envOf at hd
    unfold L2.start
    by_cases hi : i < ds.length
    · rw [List.getElem?_append_left (by simpa using hi), List.getElem?_map] at hd
      cases e : ds[i]? with
      | none => rw [e] at hd; cases hd
      | some d' =>
        rw [e] at hd
        have : d' = d := by simpa using hd
        subst this
        obtain ⟨v, h1, h2⟩ := dpAll_get h e
        refine ⟨v, ?_, by simpa using h2⟩
        rw [List.getElem?_append_left (by rw [List.length_map, hl]; exact hi), List.getElem?_map, h1]
        rfl
    · rw [List.getElem?_append_right (by simpa using Nat.le_of_not_lt hi), List.getElem?_replicate] at hd
      split at hd <;> cases hd
/-- THE RULE for a def by data -/
theorem dv_ok {α : Type} {enc : α → List PyData} {pre : α → Prop} {g : α → PyData} {x qual : Str} {st : Stmt} {f : Addr} {fd : FuncData} {N ps : List Str} {k : Nat} (F : Fun K x qual st f fd) (S : FnScope N ps (defScope st)) (hlen : ∀ a, (enc a).length = ps.length)
    (hbody : ∀ (cdv : Value) (A : Around) (outer : List PySem.Env) (s : Shared) (H : Hp) (E : XK), Room k (A.deeper (envOfC qual (defScope st) s.heap.objs.size f cdv)) →
      ∃ t, PSs (cxOf CX0 P w K mg base N qual (defScope st) f cdv A outer s H E).nox (defBody st) t ∧ ∀ a, pre a → ST K [] t (envOf N (enc a)) { nx := fun _ _ => g a = .none, rt := fun d => d = g a }) :
    FnOk P w K mg base CX0 (k + 1) f fd ps (SpT K enc pre g) := by
  refine F.ok S (fun vs H Q E h => ?_) (fun cdv A outer s H vs Q E hr h => ?_)
  · obtain ⟨O, a, _, h2, _⟩ := h
    rw [dpAll_len h2, hlen]
  · obtain ⟨O, a, l, h2, hp, q⟩ := h
    obtain ⟨t, ht, hst⟩ := hbody cdv A outer s H E hr
    refine ⟨t, ht, hst a hp H O _ H _ _ (sr_start l h2) (fun W' f' H' σ' env' r' hn => ?_) (fun v H' d sb hv hr => ?_) (fun _ _ _ _ _ _ z => z.elim) (fun _ _ _ _ _ _ z => z.elim)⟩
    · refine q _ H' r'.base ?_
      rw [hn]
      exact .non
    · rw [hr] at hv
      exact q v H' sb hv
end

/-! lists of ints, by == -/
theorem canAll_ints (ns : List Int) : PyData.canLayAll0 (ns.map .int) = true := by
  induction ns with
  | nil => rfl
  | cons a r ih => simp [PyData.canLayAll0, PyData.canLay0, ih]
theorem depthAll_ints (ns : List Int) : PyData.depthAll (ns.map .int) ≤ 1 := by
  induction ns with
  | nil => simp [PyData.depthAll]
  | cons a r ih => simp [PyData.depthAll, PyData.depth, ih]
theorem shaped_ints (ns : List Int) : SeqAt.shaped (.list (ns.map .int)) = true := by
  have h1 := depthAll_ints ns
  refine Bool.and_eq_true_iff.mpr ⟨by simp only [PyData.canLay0, canAll_ints], decide_eq_true ?_⟩
  simp only [PyData.depth]
  omega
theorem eqv_nil (ns : List Int) : PyData.eqv (.list (ns.map .int)) (.list []) = decide (ns = []) := by
  cases ns <;> simp [PyData.eqv, PyData.eqvAll]
theorem atI_map {α β : Type} {xs : List α} {f : α → β} {i : Int} {x : α} (h : atI xs i = some x) : atI (xs.map f) i = some (f x) := by
  unfold atI at h ⊢
  rw [List.length_map]
  cases e : ixN xs.length i with
  | none => rw [e] at h; cases h
  | some j =>
    rw [e] at h
    have h' : xs[j]? = some x := h
    show (xs.map f)[j]? = some (f x)
    rw [List.getElem?_map, h']
    rfl
theorem atI_getD {α : Type} {xs : List α} {i : Int} (d : α) (h0 : 0 ≤ i) (h1 : i < xs.length) : atI xs i = some (xs.getD i.toNat d) := by
  obtain ⟨n, rfl⟩ := Int.eq_ofNat_of_zero_le h0
  have hn : n < xs.length := by omega
  have e : xs[n]? = some (xs.getD n d) := by simp [List.getD, hn]
  exact atI_nat e
end Dv

namespace Sv
open PySem PySem.Spec PyProof.Rows L2 Pre Dv
abbrev Env := List (Option PyData)
/-! ## own trees of lists: n deep -/
inductive OwA (P : V → PyData → List Addr → Prop) : List V → List PyData → List Addr → Prop
  | nil : OwA P [] [] []
  | cons {v : V} {vs : List V} {d : PyData} {ds : List PyData} {A A' : List Addr} : P v d A → OwA P vs ds A' → (∀ a ∈ A, a ∉ A') → OwA P (v :: vs) (d :: ds) (A ++ A')
def Ow (K : PySem.W.Frag) (O : List Addr) (H : Hp) : Nat → V → PyData → List Addr → Prop
  | 0 => fun v d A => A = [] ∧ DO K O H v d
  | n + 1 => fun v d A => ∃ (a : Addr) (vs : List V) (ds : List PyData) (A' : List Addr), v = .ref a ∧ d = .list ds ∧ A = a :: A' ∧ H a = some (.lst vs) ∧ a ∉ A' ∧ OwA (Ow K O H n) vs ds A'
section
variable {K : PySem.W.Frag} {O O' : List Addr} {H H' : Hp}
theorem OwA.mono {P P' : V → PyData → List Addr → Prop} {vs : List V} {ds : List PyData} {A : List Addr} (h : OwA P vs ds A) (hp : ∀ v d B, (∀ b ∈ B, b ∈ A) → P v d B → P' v d B) : OwA P' vs ds A := by
  induction h with
  | nil => exact .nil
  | cons h1 h2 h3 ih => exact .cons (hp _ _ _ (fun b hb => List.mem_append_left _ hb) h1) (ih fun v d B hb => hp v d B fun b z => List.mem_append_right _ (hb b z)) h3
theorem OwA.len {P : V → PyData → List Addr → Prop} {vs : List V} {ds : List PyData} {A : List Addr} (h : OwA P vs ds A) : vs.length = ds.length := by
  induction h with
  | nil => rfl
  | cons h1 h2 h3 ih => simp [ih]
theorem ow_keep (s : Same (rm O H) (rm O' H')) : ∀ (n : Nat) (v : V) (d : PyData) (A : List Addr), Ow K O H n v d A → (∀ a ∈ A, ∀ o, H a = some o → H' a = some o) → Ow K O' H' n v d A
  | 0, v, d, A, h, _ => ⟨h.1, dp_same s _ _ h.2⟩
  | n + 1, v, d, A, h, k => by
    obtain ⟨a, vs, ds, A', rfl, rfl, rfl, h1, h2, h3⟩ := h
    refine ⟨a, vs, ds, A', rfl, rfl, rfl, k _ List.mem_cons_self _ h1, h2, h3.mono fun v d B hB hv => ?_⟩
    exact ow_keep s n v d B hv fun b hb => k b (List.mem_cons_of_mem _ (hB b hb))
theorem owA_all {P : V → PyData → List Addr → Prop} {R : Addr → Prop} {vs : List V} {ds : List PyData} {A : List Addr} (h : OwA P vs ds A) (hp : ∀ v d B, P v d B → ∀ b ∈ B, R b) : ∀ a ∈ A, R a := by
  induction h with
  | nil => intro a ha; cases ha
  | cons h1 h2 h3 ih =>
    intro a ha
    rcases List.mem_append.mp ha with ha | ha
    · exact hp _ _ _ h1 a ha
    · exact ih a ha
theorem ow_lst : ∀ (n : Nat) (v : V) (d : PyData) (A : List Addr), Ow K O H n v d A → ∀ a ∈ A, ∃ vs, H a = some (.lst vs)
  | 0, v, d, A, h, a, ha => by rw [h.1] at ha; cases ha
  | n + 1, v, d, A, h, a, ha => by
    obtain ⟨b, vs, ds, A', rfl, rfl, rfl, h1, h2, h3⟩ := h
    rcases List.mem_cons.mp ha with e | ha
    · rw [e]; exact ⟨_, h1⟩
    · exact owA_all (R := fun a => ∃ vs, H a = some (.lst vs)) h3 (fun v d B hv => ow_lst n v d B hv) a ha
/-- an own tree as plain data, once its nodes are hidden no more -/
theorem ow_plain (hs : Same (rm O H) (rm O' H)) : ∀ (n : Nat) (v : V) (d : PyData) (A : List Addr), Ow K O H n v d A → (∀ a ∈ A, a ∉ O') → Dq K (rm O' H) v d
  | 0, v, d, A, h, _ => dp_same hs _ _ h.2
  | n + 1, v, d, A, h, k => by
    obtain ⟨a, vs, ds, A', rfl, rfl, rfl, h1, h2, h3⟩ := h
    refine .lst (by rw [rm_at (k _ List.mem_cons_self)]; exact h1) ?_
    have k' : ∀ b ∈ A', b ∉ O' := fun b hb => k b (List.mem_cons_of_mem _ hb)
    clear h1 h2 k
    induction h3 with
    | nil => exact .nil
    | cons g1 g2 g3 ih => exact .cons (ow_plain hs n _ _ _ g1 fun b hb => k' b (List.mem_append_left _ hb)) (ih fun b hb => k' b (List.mem_append_right _ hb))
theorem owA_of : ∀ {vs : List V} {ds : List PyData}, DA K O H vs ds → OwA (Ow K O H 0) vs ds []
  | _, _, .nil => .nil
  | _, _, .cons h1 h2 => .cons (A := []) ⟨rfl, h1⟩ (owA_of h2) (fun _ z => nomatch z)
theorem owA_to {vs : List V} {ds : List PyData} {A : List Addr} (h : OwA (Ow K O H 0) vs ds A) : A = [] ∧ DA K O H vs ds := by
  induction h with
  | nil => exact ⟨rfl, .nil⟩
  | cons h1 h2 h3 ih => exact ⟨by rw [h1.1, ih.1]; rfl, .cons h1.2 ih.2⟩
/-- data in which no list stands -/
def noL : PyData → Bool
  | .none | .bool _ | .int _ | .str _ => true
  | .tuple ds => noLs ds
  | _ => false
where noLs : List PyData → Bool
  | [] => true
  | d :: ds => noL d && noLs ds
mutual
theorem noL_up (hl : ∀ a ∈ O, a ∉ O' → ∃ vs, H a = some (.lst vs)) : ∀ (d : PyData) (v : V), noL d = true → Dq K (rm O' H) v d → Dq K (rm O H) v d
  | .none, _, _, h => by cases h; exact .non
  | .bool _, _, _, h => by cases h; exact .bl _
  | .int _, _, _, h => by cases h; exact .int _
  | .str _, _, _, h => by cases h; exact .str _
  | .list _, _, c, _ => by simp [noL] at c
  | .dict _, _, c, _ => by simp [noL] at c
  | .tuple ds, _, c, h => by
    cases h with
    | @tup a vs _ h1 h2 =>
      refine .tup ?_ (noLs_up hl ds _ (by simpa [noL] using c) h2)
      have key : ∀ {o : HO}, rm O' H a = some o → (∀ vs, o ≠ .lst vs) → rm O H a = some o := fun {o} e n => by
        obtain ⟨e1, e2⟩ := rm_some e
        rw [rm_at]
        · exact e2
        · intro z
          obtain ⟨ws, e3⟩ := hl a z e1
          rw [e2] at e3
          cases e3
          exact n _ rfl
      rcases h1 with (h1 | ⟨o, h1⟩) | h1
      · exact .inl (.inl (key h1 fun _ z => nomatch z))
      · exact .inl (.inr ⟨o, key h1 fun _ z => nomatch z⟩)
      · exact .inr h1
theorem noLs_up (hl : ∀ a ∈ O, a ∉ O' → ∃ vs, H a = some (.lst vs)) : ∀ (ds : List PyData) (vs : List V), noL.noLs ds = true → DqAll K (rm O' H) vs ds → DqAll K (rm O H) vs ds
  | [], _, _, h => by cases h; exact .nil
  | d :: ds, _, c, h => by
    have c2 : noL d = true ∧ noL.noLs ds = true := by simpa [noL.noLs] using c
    cases h with
    | cons h1 h2 => exact .cons (noL_up hl d _ c2.1 h1) (noLs_up hl ds _ c2.2 h2)
end
end
/-! ## the state -/
structure Fr where
  B : Hp
  O : List Addr
  M : List (Nat × V)
def hid (O : List Addr) (W : List Nat) (f : Nat → List Addr) : List Addr := O ++ W.flatMap f
theorem mem_hid {O : List Addr} {W : List Nat} {f : Nat → List Addr} {a : Addr} : a ∈ hid O W f ↔ a ∈ O ∨ ∃ i ∈ W, a ∈ f i := by
  unfold hid
  rw [List.mem_append, List.mem_flatMap]
structure SR (K : PySem.W.Frag) (G : Nat → Nat) (c : Fr) (W : List Nat) (f : Nat → List Addr) (H : Hp) (σ : L2.St) (env : Env) : Prop where
  base : Same c.B H
  live : Live (hid c.O W f) H
  new : ∀ i ∈ W, ∀ a ∈ f i, c.B a = none ∧ a ∉ c.O
  dis : ∀ i ∈ W, ∀ j ∈ W, i ≠ j → ∀ a ∈ f i, a ∉ f j
  len : σ.length = env.length
  val : ∀ (i : Nat) d, env[i]? = some (some d) → i ∉ W → ∃ v, σ[i]? = some (some v) ∧ DO K (hid c.O W f) H v d
  own : ∀ i ∈ W, ∃ v d, σ[i]? = some (some v) ∧ env[i]? = some (some d) ∧ Ow K (hid c.O W f) H (G i) v d (f i)
  fix : ∀ p ∈ c.M, p.1 ∈ W ∧ σ[p.1]? = some (some p.2)
section
variable {K : PySem.W.Frag} {G : Nat → Nat} {c : Fr} {W : List Nat} {f f' f2 : Nat → List Addr} {H H' H2 H3 : Hp} {σ : L2.St} {env env' env2 : Env} {p p2 : Bool}
theorem SR.same (r : SR K G c W f H σ env) (s : Same H H') : SR K G c W f H' σ env :=
  ⟨r.base.trans s, r.live.same s, r.new, r.dis, r.len, fun i d e n => let ⟨v, h1, h2⟩ := r.val i d e n; ⟨v, h1, DO.same h2 s⟩,
    fun i h => let ⟨v, d, h1, h2, h3⟩ := r.own i h; ⟨v, d, h1, h2, ow_keep (rm_same s) _ _ _ _ h3 fun a _ o e => s _ _ e⟩, r.fix⟩
theorem SR.set {i : Nat} {v : V} {d : PyData} (r : SR K G c W f H σ env) (hi : i ∉ W) (h : DO K (hid c.O W f) H v d) : SR K G c W f H (σ.set i (some v)) (env.set i (some d)) := by
  refine ⟨r.base, r.live, r.new, r.dis, by simp [r.len], fun j e hj hn => ?_, fun j hj => ?_, fun q hq => ?_⟩
  · by_cases hij : i = j
    · subst hij
      rw [List.getElem?_set_self'] at hj ⊢
      cases he : env[i]? with
      | none => rw [he] at hj; cases hj
      | some x =>
        rw [he] at hj
        have hlt : i < σ.length := by
          have := (List.getElem?_eq_some_iff.mp he).1
          rw [r.len]; exact this
        rw [List.getElem?_eq_getElem hlt]
        have : d = e := by simpa using hj
        subst this
        exact ⟨v, rfl, h⟩
    · rw [List.getElem?_set_ne hij] at hj ⊢
      exact r.val j e hj hn
  · have hij : i ≠ j := fun z => hi (z ▸ hj)
    rw [List.getElem?_set_ne hij, List.getElem?_set_ne hij]
    exact r.own j hj
  · obtain ⟨h1, h2⟩ := r.fix q hq
    have hij : i ≠ q.1 := fun z => hi (z ▸ h1)
    rw [List.getElem?_set_ne hij]
    exact ⟨h1, h2⟩
theorem SR.unset {i : Nat} (r : SR K G c W f H σ env) (hi : i ∉ W) (x : Option V) : SR K G c W f H (σ.set i x) (env.set i none) := by
  refine ⟨r.base, r.live, r.new, r.dis, by simp [r.len], fun j e hj hn => ?_, fun j hj => ?_, fun q hq => ?_⟩
  · by_cases hij : i = j
    · subst hij
      rw [List.getElem?_set_self'] at hj
      cases he : env[i]? with
      | none => rw [he] at hj; cases hj
      | some x => rw [he] at hj; simp at hj
    · rw [List.getElem?_set_ne hij] at hj ⊢
      exact r.val j e hj hn
  · have hij : i ≠ j := fun z => hi (z ▸ hj)
    rw [List.getElem?_set_ne hij, List.getElem?_set_ne hij]
    exact r.own j hj
  · obtain ⟨h1, h2⟩ := r.fix q hq
    have hij : i ≠ q.1 := fun z => hi (z ▸ h1)
    rw [List.getElem?_set_ne hij]
    exact ⟨h1, h2⟩
/-- behind an evaluation; p: nothing but new things came -/
structure Aft (K : PySem.W.Frag) (G : Nat → Nat) (c : Fr) (W : List Nat) (σ : L2.St) (p : Bool) (f : Nat → List Addr) (H : Hp) (env : Env) (f' : Nat → List Addr) (H2 : Hp) (env' : Env) : Prop where
  r : SR K G c W f' H2 σ env'
  k : Same (rm (hid c.O W f) H) (rm (hid c.O W f') H2)
  pu : p = true → f' = f ∧ Same H H2 ∧ env' = env
theorem Aft.rfl (r : SR K G c W f H σ env) : Aft K G c W σ p f H env f H env := ⟨r, Same.refl _, fun _ => ⟨Eq.refl _, Same.refl _, Eq.refl _⟩⟩
theorem Aft.step (a : Aft K G c W σ p f H env f' H2 env') (s : Same H2 H3) : Aft K G c W σ p f H env f' H3 env' := ⟨a.r.same s, a.k.trans (rm_same s), fun h => let ⟨h1, h2, h3⟩ := a.pu h; ⟨h1, h2.trans s, h3⟩⟩
theorem Aft.trans (a : Aft K G c W σ p f H env f' H2 env') (b : Aft K G c W σ p2 f' H2 env' f2 H3 env2) : Aft K G c W σ (p && p2) f H env f2 H3 env2 := ⟨b.r, a.k.trans b.k, fun h => by
  rw [Bool.and_eq_true] at h
  obtain ⟨h1, h2, h3⟩ := a.pu h.1
  obtain ⟨g1, g2, g3⟩ := b.pu h.2
  exact ⟨g1.trans h1, h2.trans g2, g3.trans h3⟩⟩
theorem Aft.weak (a : Aft K G c W σ p f H env f' H2 env') (h : p2 = true → p = true) : Aft K G c W σ p2 f H env f' H2 env' := ⟨a.r, a.k, fun z => a.pu (h z)⟩
/-- the trees of the slots of S seen -/
def cutf (S : List Nat) (f : Nat → List Addr) : Nat → List Addr := fun i => if i ∈ S then [] else f i
theorem cutf_nil : cutf [] f = f := by funext i; simp [cutf]
theorem cutf_sub {S : List Nat} {b : Addr} (h : b ∈ hid c.O W (cutf S f)) : b ∈ hid c.O W f := by
  rcases mem_hid.mp h with h | ⟨i, hi, h⟩
  · exact mem_hid.mpr (.inl h)
  · unfold cutf at h
    split at h
    · cases h
    · exact mem_hid.mpr (.inr ⟨i, hi, h⟩)
abbrev hidS (c : Fr) (W S : List Nat) (f : Nat → List Addr) : List Addr := hid c.O W (cutf S f)
theorem see {S : List Nat} {v : V} {d : PyData} (h : DO K (hid c.O W f) H v d) : DO K (hidS c W S f) H v d := dp_same (rm_sub fun b hb => cutf_sub hb) _ _ h
/-- what no list stands in is hidden nowhere -/
theorem unsee {S : List Nat} {v : V} {d : PyData} (r : SR K G c W f H σ env) (n : noL d = true) (h : DO K (hidS c W S f) H v d) : DO K (hid c.O W f) H v d := by
  refine noL_up (fun a ha hn => ?_) d v n h
  rcases mem_hid.mp ha with h | ⟨i, hi, h⟩
  · exact absurd (mem_hid.mpr (.inl h)) hn
  · obtain ⟨v, d, _, _, h3⟩ := r.own i hi
    exact ow_lst _ _ _ _ h3 a h
/-- an own slot seen -/
theorem SR.seen {S : List Nat} {i : Nat} {d : PyData} (r : SR K G c W f H σ env) (hi : i ∈ W) (hS : i ∈ S) (he : env[i]? = some (some d)) : ∃ v, σ[i]? = some (some v) ∧ DO K (hidS c W S f) H v d := by
  obtain ⟨v, d', h1, h2, h3⟩ := r.own i hi
  rw [he] at h2
  cases h2
  refine ⟨v, h1, ow_plain (rm_sub fun b hb => cutf_sub hb) _ _ _ _ h3 fun a ha z => ?_⟩
  rcases mem_hid.mp z with z | ⟨j, hj, z⟩
  · exact (r.new i hi a ha).2 z
  · unfold cutf at z
    split at z
    · cases z
    · rename_i hjS
      by_cases e : i = j
      · exact hjS (e ▸ hS)
      · exact r.dis i hi j hj e a ha z
theorem Aft.live (a : Aft K G c W σ p f H env f' H2 env') {S : List Nat} : Live (hidS c W S f') H2 := fun b hb => a.r.live b (cutf_sub hb)
/-- a seen thing stays where what comes next is nothing but new things; else what is hidden wholly stays -/
theorem Aft.seen {S : List Nat} {v : V} {d : PyData} (b : Aft K G c W σ p f H env f' H2 env') (hS : S = [] ∨ p = true) (h : DO K (hidS c W S f) H v d) : DO K (hidS c W S f') H2 v d := by
  rcases hS with hS | hS
  · subst hS
    unfold hidS at h ⊢
    rw [cutf_nil] at h ⊢
    exact dp_same b.k _ _ h
  · obtain ⟨h1, h2, _⟩ := b.pu hS
    rw [h1]
    exact DO.same h h2
theorem Aft.seenA {S : List Nat} {v : List V} {d : List PyData} (b : Aft K G c W σ p f H env f' H2 env') (hS : S = [] ∨ p = true) (h : DA K (hidS c W S f) H v d) : DA K (hidS c W S f') H2 v d := by
  rcases hS with hS | hS
  · subst hS
    unfold hidS at h ⊢
    rw [cutf_nil] at h ⊢
    exact dpAll_same b.k _ _ h
  · obtain ⟨h1, h2, _⟩ := b.pu hS
    rw [h1]
    exact DA.same h h2
end
/-! ## expressions as functions of data -/
abbrev Fx := Env → Option (PyData × Env)
abbrev Ft := Env → Option (Bool × Env)
abbrev Fa := Env → Option (List PyData × Env)
abbrev Fo := Env → Option (Option Int × Env)
section
variable (K : PySem.W.Frag) (G : Nat → Nat) (W S : List Nat) (p : Bool)
def fEV (te : TE) (F : Fx) : Prop := ∀ env d env', F env = some (d, env') → ∀ c f H σ, SR K G c W f H σ env → ∀ Q : VK, (∀ f' v H2, Aft K G c W σ p f H env f' H2 env' → DO K (hidS c W S f') H2 v d → Q v H2) → te σ H Q
def fEA (ta : TA) (F : Fa) : Prop := ∀ env ds env', F env = some (ds, env') → ∀ c f H σ, SR K G c W f H σ env → ∀ Q : List V → Hp → Prop, (∀ f' vs H2, Aft K G c W σ p f H env f' H2 env' → DA K (hidS c W S f') H2 vs ds → Q vs H2) → ta σ H Q
def fET (tt : TT) (F : Ft) : Prop := ∀ env b env', F env = some (b, env') → ∀ c f H σ, SR K G c W f H σ env → ∀ Q : Bool → Hp → Prop, (∀ f' H2, Aft K G c W σ p f H env f' H2 env' → Q b H2) → tt σ H Q
def fEO (to : TO) (F : Fo) : Prop := ∀ env b env', F env = some (b, env') → ∀ c f H σ, SR K G c W f H σ env → ∀ Q : Option Int → Hp → Prop, (∀ f' H2, Aft K G c W σ p f H env f' H2 env' → Q b H2) → to σ H Q
end
/-- a rule of two values -/
def R2ok (K : PySem.W.Frag) (r : R2) (p : PyData → PyData → Option PyData) : Prop := ∀ a b d, p a b = some d → ∀ (O : List Addr) (H : Hp) (x y : V) (Q : VK), Live O H → DO K O H x a → DO K O H y b → (∀ v H', Same H H' → DO K O H' v d → Q v H') → r x y H Q
def BNok (K : PySem.W.Frag) (r : List V → Hp → VK → Prop) (p : List PyData → Option PyData) : Prop := ∀ ds d, p ds = some d → ∀ (O : List Addr) (H : Hp) (xs : List V) (Q : VK), Live O H → DA K O H xs ds → (∀ v H', Same H H' → DO K O H' v d → Q v H') → r xs H Q
def vr (i : Nat) : Fx := fun env => match env[i]? with
  | some (some d) => some (d, env)
  | _ => none
def cc (d : PyData) : Fx := fun env => some (d, env)
def op2 (p : PyData → PyData → Option PyData) (F G : Fx) : Fx := fun env => (F env).bind fun x => (G x.2).bind fun y => (p x.1 y.1).map fun d => (d, y.2)
def bn (p : List PyData → Option PyData) (L : Fa) : Fx := fun env => (L env).bind fun x => (p x.1).map fun d => (d, x.2)
def flF (F : Fx) : Fx := fun env => (F env).bind fun x => if noL x.1 = true then some x else none
def aN : Fa := fun env => some ([], env)
def aC (F : Fx) (L : Fa) : Fa := fun env => (F env).bind fun x => (L x.2).map fun y => (x.1 :: y.1, y.2)
theorem bd {α β : Type} {o : Option α} {f : α → Option β} {b : β} (h : o.bind f = some b) : ∃ a, o = some a ∧ f a = some b := Option.bind_eq_some_iff.mp h
theorem mp {α β : Type} {o : Option α} {f : α → β} {b : β} (h : o.map f = some b) : ∃ a, o = some a ∧ f a = b := Option.map_eq_some_iff.mp h
theorem vr_eq {i : Nat} {env env' : Env} {d : PyData} (h : vr i env = some (d, env')) : env[i]? = some (some d) ∧ env' = env := by
  unfold vr at h
  split at h
  · cases h
    exact ⟨by assumption, rfl⟩
  · cases h
section
variable {K : PySem.W.Frag} {G : Nat → Nat} {W S : List Nat} {p p2 : Bool} {ta tb te : TE} {F F2 : Fx} {L L' : Fa} {tt tu : TT} {T U : Ft}
theorem fv_var {i : Nat} (hi : i ∉ W := by decide) : fEV K G W S true (tVar i) (vr i) := fun env d env' h c f H σ r Q q => by
  obtain ⟨h1, rfl⟩ := vr_eq h
  obtain ⟨v, g1, g2⟩ := r.val i d h1 hi
  exact ⟨v, g1, q f v H (.rfl r) (see g2)⟩
/-- an own slot, seen -/
theorem fv_see {i : Nat} (hi : i ∈ W := by decide) (hS : i ∈ S := by decide) : fEV K G W S true (tVar i) (vr i) := fun env d env' h c f H σ r Q q => by
  obtain ⟨h1, rfl⟩ := vr_eq h
  obtain ⟨v, g1, g2⟩ := r.seen hi hS h1
  exact ⟨v, g1, q f v H (.rfl r) g2⟩
theorem fv_c {v : V} {d : PyData} (h : ∀ H, Dq K H v d) : fEV K G W S true (tC v) (cc d) := fun env d' env' e c f H σ r Q q => by
  cases e
  exact q f v H (.rfl r) (h _)
theorem fv_int {i : Int} : fEV K G W S true (tC (.int i)) (cc (.int i)) := fv_c fun _ => .int i
theorem fv_str {i : Str} : fEV K G W S true (tC (.str i)) (cc (.str i)) := fv_c fun _ => .str i
theorem fv_bl {i : Bool} : fEV K G W S true (tC (.bl i)) (cc (.bool i)) := fv_c fun _ => .bl i
theorem fv_non : fEV K G W S true (tC .non) (cc .none) := fv_c fun _ => .non
/-- what was seen and has no list in it is a plain thing -/
theorem fv_flat (h : fEV K G W S p te F) : fEV K G W [] p te (flF F) := fun env d env' e c f H σ r Q q => by
  obtain ⟨x, e1, e2⟩ := bd e
  split at e2
  · rename_i hn
    cases e2
    refine h env d env' e1 c f H σ r Q fun f' v H2 a hv => q f' v H2 a ?_
    unfold hidS
    rw [cutf_nil]
    exact unsee a.r hn hv
  · cases e2
theorem fv_sub {S' : List Nat} (h : fEV K G W [] p te F) : fEV K G W S' p te F := fun env d env' e c f H σ r Q q => h env d env' e c f H σ r Q fun f' v H2 a hv => q f' v H2 a (by
  unfold hidS at hv
  rw [cutf_nil] at hv
  exact see hv)
theorem fv_op {r : R2} {pp : PyData → PyData → Option PyData} (ok : R2ok K r pp) (ha : fEV K G W S p ta F) (hb : fEV K G W S p2 tb F2) (hS : S = [] ∨ p2 = true := by decide) : fEV K G W S (p && p2) (tOp r ta tb) (op2 pp F F2) := fun env d env' e c f H σ rr Q q => by
  obtain ⟨x, e1, e⟩ := bd e
  obtain ⟨y, e2, e⟩ := bd e
  obtain ⟨d', e3, e⟩ := mp e
  cases e
  refine ha env x.1 x.2 e1 c f H σ rr _ fun f1 u H1 a1 hu => hb x.2 y.1 y.2 e2 c f1 H1 σ a1.r _ fun f2 v H2 a2 hv => ?_
  exact ok _ _ _ e3 _ H2 u v Q a2.live (a2.seen hS hu) hv fun w H3 s hw => q f2 w H3 ((a1.trans a2).step s) hw
theorem fa_nil : fEA K G W S true tNil aN := fun env ds env' e c f H σ r Q q => by
  cases e
  exact q f [] H (.rfl r) .nil
theorem fa_cons {tr : TA} (ha : fEV K G W S p te F) (hb : fEA K G W S p2 tr L) (hS : S = [] ∨ p2 = true := by decide) : fEA K G W S (p && p2) (tCons te tr) (aC F L) := fun env ds env' e c f H σ rr Q q => by
  obtain ⟨x, e1, e⟩ := bd e
  obtain ⟨y, e2, e⟩ := mp e
  cases e
  refine ha env x.1 x.2 e1 c f H σ rr _ fun f1 u H1 a1 hu => hb x.2 y.1 y.2 e2 c f1 H1 σ a1.r _ fun f2 vs H2 a2 hv => ?_
  exact q f2 (u :: vs) H2 (a1.trans a2) (.cons (a2.seen hS hu) hv)
theorem fv_bn {r : List V → Hp → VK → Prop} {pp : List PyData → Option PyData} {tr : TA} (ok : BNok K r pp) (h : fEA K G W S p tr L) : fEV K G W S p (tCB r tr) (bn pp L) := fun env d env' e c f H σ rr Q q => by
  obtain ⟨x, e1, e⟩ := bd e
  obtain ⟨d', e3, e⟩ := mp e
  cases e
  refine h env x.1 x.2 e1 c f H σ rr _ fun f1 vs H1 a1 hv => ?_
  exact ok _ _ e3 _ H1 vs Q a1.live hv fun w H3 s hw => q f1 w H3 (a1.step s) hw
end
end Sv

namespace Sv
open PySem PySem.Spec PyProof.Rows L2 Pre Dv
/-! ## what the operators and builtins do, by data -/
def gI : PyData → Option Int | .int i => some i | _ => none
def gS : PyData → Option Str | .str i => some i | _ => none
def gB : PyData → Option Bool | .bool i => some i | _ => none
def gL : PyData → Option (List PyData) | .list ds => some ds | _ => none
def gT : PyData → Option (List PyData) | .tuple ds => some ds | _ => none
def cellsD : List (PyData × PyData) → Option (List Int)
  | [] => some []
  | (.int i, .none) :: r => (cellsD r).map (i :: ·)
  | _ => none
/-- a list to be read: the script's cells, too -/
def gR : PyData → Option (List PyData) | .list ds => some ds | .dict kvs => (cellsD kvs).map fun ns => ns.map .int | _ => none
/-- .. or a tuple -/
def gQ : PyData → Option (List PyData) | .list ds => some ds | .tuple ds => some ds | .dict kvs => (cellsD kvs).map fun ns => ns.map .int | _ => none
theorem gI_eq {d : PyData} {i : Int} (h : gI d = some i) : d = .int i := by cases d <;> simp [gI] at h; rw [h]
theorem gS_eq {d : PyData} {i : Str} (h : gS d = some i) : d = .str i := by cases d <;> simp [gS] at h; rw [h]
theorem gB_eq {d : PyData} {i : Bool} (h : gB d = some i) : d = .bool i := by cases d <;> simp [gB] at h; rw [h]
theorem gL_eq {d : PyData} {i : List PyData} (h : gL d = some i) : d = .list i := by cases d <;> simp [gL] at h; rw [h]
theorem gT_eq {d : PyData} {i : List PyData} (h : gT d = some i) : d = .tuple i := by cases d <;> simp [gT] at h; rw [h]
theorem cells_eq : ∀ {kvs : List (PyData × PyData)} {ns : List Int}, cellsD kvs = some ns → kvs = ns.map fun n => (PyData.int n, PyData.none)
  | [], ns, h => by cases h; rfl
  | (.int i, .none) :: r, ns, h => by
    obtain ⟨ms, e, h⟩ := mp h
    subst h
    rw [cells_eq e]
    rfl
  | (.none, _) :: _, _, h => by simp [cellsD] at h
  | (.bool _, _) :: _, _, h => by simp [cellsD] at h
  | (.str _, _) :: _, _, h => by simp [cellsD] at h
  | (.list _, _) :: _, _, h => by simp [cellsD] at h
  | (.tuple _, _) :: _, _, h => by simp [cellsD] at h
  | (.dict _, _) :: _, _, h => by simp [cellsD] at h
  | (.int _, .bool _) :: _, _, h => by simp [cellsD] at h
  | (.int _, .int _) :: _, _, h => by simp [cellsD] at h
  | (.int _, .str _) :: _, _, h => by simp [cellsD] at h
  | (.int _, .list _) :: _, _, h => by simp [cellsD] at h
  | (.int _, .tuple _) :: _, _, h => by simp [cellsD] at h
  | (.int _, .dict _) :: _, _, h => by simp [cellsD] at h
/-- the script as data -/
def scr (ns : List Int) : PyData := .dict (ns.map fun n => (.int n, .none))
theorem gR_scr (ns : List Int) : gR (scr ns) = some (ns.map .int) := by
  have h : cellsD (ns.map fun n => (PyData.int n, PyData.none)) = some ns := by
    induction ns with
    | nil => rfl
    | cons n r ih =>
      simp only [List.map_cons, cellsD]
      rw [ih]
      rfl
  simp [gR, scr, h]
section
variable {K : PySem.W.Frag} {O : List Addr} {H : Hp}
theorem dq_scr {v : V} {kvs : List (PyData × PyData)} {ns : List Int} (h : Dq K H v (.dict kvs)) (e : cellsD kvs = some ns) : ∃ a, v = .ref a ∧ SqL K H a (ns.map V.int) := by
  rw [cells_eq e] at h
  generalize hx : PyData.dict (ns.map fun n => (PyData.int n, PyData.none)) = x at h
  cases h with
  | @scr a ms h1 =>
    have e1 := PyData.dict.inj hx
    have inj : ∀ {p q : List Int}, List.map (fun n => (PyData.int n, PyData.none)) p = List.map (fun n => (PyData.int n, PyData.none)) q → q = p := fun {p} => by
      induction p with
      | nil => intro q e; cases q with
        | nil => rfl
        | cons => cases e
      | cons a r ih => intro q e; cases q with
        | nil => cases e
        | cons b t =>
          simp only [List.map_cons, List.cons.injEq, Prod.mk.injEq, PyData.int.injEq, and_true] at e
          rw [e.1, ih e.2]
    have e := inj e1
    subst e
    exact ⟨a, rfl, h1⟩
  | exc => exfalso; cases ns <;> simp [exD] at hx
  | emd => exfalso; cases ns <;> simp [emD] at hx
  | non => cases hx
  | bl => cases hx
  | int => cases hx
  | str => cases hx
  | lst => cases hx
  | tup => cases hx
theorem do_R {v : V} {d : PyData} {ds : List PyData} (h : DO K O H v d) (e : gR d = some ds) : ∃ a vs, v = .ref a ∧ SqL K (rm O H) a vs ∧ DA K O H vs ds := by
  cases d <;> simp [gR] at e
  · subst e
    obtain ⟨a, vs, rfl, h1, h2⟩ := dp_list h
    exact ⟨a, vs, rfl, SqL.of h1, h2⟩
  · obtain ⟨ns, e1, rfl⟩ := e
    obtain ⟨a, rfl, h1⟩ := dq_scr h e1
    exact ⟨a, _, rfl, h1, ints_all _⟩
theorem do_Q {v : V} {d : PyData} {ds : List PyData} (h : DO K O H v d) (e : gQ d = some ds) : ∃ a vs, v = .ref a ∧ (SqL K (rm O H) a vs ∨ SqT K (rm O H) a vs) ∧ DA K O H vs ds := by
  cases d <;> simp [gQ] at e
  · subst e
    obtain ⟨a, vs, rfl, h1, h2⟩ := dp_list h
    exact ⟨a, vs, rfl, .inl (SqL.of h1), h2⟩
  · subst e
    obtain ⟨a, vs, rfl, h1, h2⟩ := dp_tup h
    exact ⟨a, vs, rfl, .inr h1, h2⟩
  · obtain ⟨ns, e1, rfl⟩ := e
    obtain ⟨a, rfl, h1⟩ := dq_scr h e1
    exact ⟨a, _, rfl, .inl h1, ints_all _⟩
theorem q_low {a : Addr} {vs : List V} (h : SqL K (rm O H) a vs ∨ SqT K (rm O H) a vs) : SqL K H a vs ∨ SqT K H a vs := h.imp (Same.seq rm_le) (Evl.ex_t rm_le)
end
/-! ints -/
def ipi (g : Int → Int → Int) : PyData → PyData → Option PyData := fun a b => (gI a).bind fun i => (gI b).map fun j => .int (g i j)
def ipb (g : Int → Int → Bool) : PyData → PyData → Option PyData := fun a b => (gI a).bind fun i => (gI b).map fun j => .bool (g i j)
def ipc (c : Int → Int → Bool) (g : Int → Int → Int) : PyData → PyData → Option PyData := fun a b => (gI a).bind fun i => (gI b).bind fun j => if c i j = true then some (.int (g i j)) else none
abbrev addP := ipi fun i j => i + j
abbrev subP := ipi fun i j => i - j
abbrev mulP := ipc (fun i j => decide ((-(2 ^ 64) < i ∧ i < 2 ^ 64) ∨ (-(2 ^ 64) < j ∧ j < 2 ^ 64))) fun i j => i * j
abbrev modP := ipc (fun _ j => decide (0 < j)) fun i j => i % j
abbrev divP := ipc (fun _ j => decide (0 < j ∧ j < 1073741824)) fun i j => i / j
abbrev powP := ipc (fun i j => decide (0 ≤ j ∧ j ≤ 1000000 ∧ i.natAbs < 2 ^ 64)) fun i j => i ^ j.toNat
abbrev shlP := ipc (fun i j => decide (0 ≤ j ∧ j ≤ 1000000 ∧ i.natAbs < 2 ^ 64)) fun i j => i * 2 ^ j.toNat
abbrev shrP := ipc (fun _ j => decide (0 ≤ j)) fun i j => i / 2 ^ j.toNat
abbrev bandP := ipi fun i j => Builtin.bitAnd i j
abbrev borP := ipi fun i j => Builtin.bitOr i j
abbrev ltP := ipb fun i j => decide (i < j)
abbrev leP := ipb fun i j => decide (i ≤ j)
abbrev gtP := ipb fun i j => decide (j < i)
abbrev geP := ipb fun i j => decide (j ≤ i)
section
variable {K : PySem.W.Frag}
theorem ok_i {g : Int → Int → Int} : R2ok K (rI0 fun i j => .int (g i j)) (ipi g) := fun a b d h O H x y Q l hx hy q => by
  obtain ⟨i, h1, h⟩ := bd h
  obtain ⟨j, h2, h⟩ := mp h
  rw [gI_eq h1] at hx
  rw [gI_eq h2] at hy
  subst h
  exact ⟨i, j, dp_int hx, dp_int hy, q _ H (Same.refl H) (.int _)⟩
theorem ok_b {g : Int → Int → Bool} : R2ok K (rI0 fun i j => .bl (g i j)) (ipb g) := fun a b d h O H x y Q l hx hy q => by
  obtain ⟨i, h1, h⟩ := bd h
  obtain ⟨j, h2, h⟩ := mp h
  rw [gI_eq h1] at hx
  rw [gI_eq h2] at hy
  subst h
  exact ⟨i, j, dp_int hx, dp_int hy, q _ H (Same.refl H) (.bl _)⟩
theorem ok_c {C : Int → Int → Prop} {c : Int → Int → Bool} {g : Int → Int → Int} (hc : ∀ i j, c i j = true → C i j) : R2ok K (rI C fun i j => .int (g i j)) (ipc c g) := fun a b d h O H x y Q l hx hy q => by
  obtain ⟨i, h1, h⟩ := bd h
  obtain ⟨j, h2, h⟩ := bd h
  rw [gI_eq h1] at hx
  rw [gI_eq h2] at hy
  split at h
  · rename_i hh
    cases h
    exact ⟨i, j, dp_int hx, dp_int hy, hc i j hh, q _ H (Same.refl H) (.int _)⟩
  · cases h
/-! ==, is None, in -/
def eqP (neg : Bool) : PyData → PyData → Option PyData := fun a b => (fl a).bind fun x => (fl b).bind fun y => if scal x y = true then some (.bool (if neg then !decide (x = y) else decide (x = y))) else none
/-- the script as the list that it is -/
def asL (d : PyData) : PyData := match gR d with
  | some ds => .list ds
  | none => d
def eqDP (neg : Bool) : PyData → PyData → Option PyData := fun a b => if SeqAt.shaped (asL a) = true ∧ SeqAt.shaped (asL b) = true then some (.bool (if neg then !PyData.eqv (asL a) (asL b) else PyData.eqv (asL a) (asL b))) else none
theorem asL_dp {H : Hp} {v : V} {d : PyData} (h : Dq K H v d) (c : SeqAt.shaped (asL d) = true) : Dp K H v (asL d) := by
  unfold asL at c ⊢
  cases e : gR d with
  | none =>
    rw [e] at c
    exact dq_dp _ _ (.inl c) h
  | some ds =>
    rw [e] at c
    have h0 : DO K [] H v d := by unfold DO; rw [rm_nil]; exact h
    obtain ⟨a, vs, rfl, h1, h2⟩ := do_R h0 e
    rw [rm_nil] at h1
    exact .lst h1 (dqAll_dp _ _ (SeqAt.canLay_of_shaped c) h2.low)
def isP (neg : Bool) : PyData → PyData → Option PyData := fun a b => if Dv.isNone b = true then some (.bool (if neg then !Dv.isNone a else Dv.isNone a)) else none
def inP (neg : Bool) : PyData → PyData → Option PyData := fun a b => (gQ b).bind fun ds => if (fl a).isSome = true ∧ ds.all (fun d => (fl d).isSome) = true then some (.bool (if neg then !inV (flV a) (ds.map flV) else inV (flV a) (ds.map flV))) else none
def inSP (neg : Bool) : PyData → PyData → Option PyData := fun a b => (gS a).bind fun x => (gS b).bind fun z => match x.cps.toList with
  | [c] => some (.bool (if neg then !decide (c ∈ z.cps.toList) else decide (c ∈ z.cps.toList)))
  | _ => none
theorem ok_eq : R2ok K rEq (eqP false) := fun a b d h O H x y Q l hx hy q => by
  obtain ⟨u, h1, h⟩ := bd h
  obtain ⟨w, h2, h⟩ := bd h
  split at h
  · rename_i hs
    cases h
    cases fl_dp hx h1
    cases fl_dp hy h2
    exact ⟨hs, q _ H (Same.refl H) (.bl _)⟩
  · cases h
theorem ok_ne : R2ok K rNe (eqP true) := fun a b d h O H x y Q l hx hy q => by
  obtain ⟨u, h1, h⟩ := bd h
  obtain ⟨w, h2, h⟩ := bd h
  split at h
  · rename_i hs
    cases h
    cases fl_dp hx h1
    cases fl_dp hy h2
    exact ⟨hs, q _ H (Same.refl H) (.bl _)⟩
  · cases h
theorem ok_eqD : R2ok K (rEqD K) (eqDP false) := fun a b d h O H x y Q l hx hy q => by
  unfold eqDP at h
  split at h
  · rename_i hs
    cases h
    exact ⟨asL a, asL b, asL_dp (DO.low hx) hs.1, asL_dp (DO.low hy) hs.2, hs.1, hs.2, q _ H (Same.refl H) (.bl _)⟩
  · cases h
theorem ok_neD : R2ok K (rNeD K) (eqDP true) := fun a b d h O H x y Q l hx hy q => by
  unfold eqDP at h
  split at h
  · rename_i hs
    cases h
    exact ⟨asL a, asL b, asL_dp (DO.low hx) hs.1, asL_dp (DO.low hy) hs.2, hs.1, hs.2, q _ H (Same.refl H) (.bl _)⟩
  · cases h
theorem isN_dq {v : V} {H : Hp} {d : PyData} (h : Dq K H v d) : decide (v = V.non) = Dv.isNone d := by cases h <;> rfl
theorem ok_isN : R2ok K (fun x y H Q => y = .non ∧ Q (.bl (decide (x = .non))) H) (isP false) := fun a b d h O H x y Q l hx hy q => by
  unfold isP at h
  split at h
  · rename_i hs
    cases h
    cases b <;> simp [Dv.isNone] at hs
    refine ⟨dp_non hy, ?_⟩
    rw [isN_dq hx]
    exact q _ H (Same.refl H) (.bl _)
  · cases h
theorem ok_notN : R2ok K (fun x y H Q => y = .non ∧ Q (.bl (!decide (x = .non))) H) (isP true) := fun a b d h O H x y Q l hx hy q => by
  unfold isP at h
  split at h
  · rename_i hs
    cases h
    cases b <;> simp [Dv.isNone] at hs
    refine ⟨dp_non hy, ?_⟩
    rw [isN_dq hx]
    exact q _ H (Same.refl H) (.bl _)
  · cases h
theorem ok_in {neg : Bool} : R2ok K (rIn K neg) (inP neg) := fun a b d h O H x y Q l hx hy q => by
  obtain ⟨ds, h1, h⟩ := bd h
  obtain ⟨p, vs, rfl, h2, h3⟩ := do_Q hy h1
  split at h
  · rename_i hs
    cases h
    obtain ⟨e1, e2⟩ := flV_dp hx hs.1
    obtain ⟨e3, e4⟩ := flV_all h3 hs.2
    subst e1 e3
    exact ⟨p, _, rfl, q_low h2, e2, e4, q _ H (Same.refl H) (.bl _)⟩
  · cases h
theorem one_of {z : Str} {k : Nat} (h : z.cps.toList = [k]) : z = ⟨#[k]⟩ := by
  obtain ⟨a⟩ := z
  obtain ⟨l⟩ := a
  have h' : l = [k] := h
  rw [h']
theorem ok_inS : R2ok K (fun x y H Q => ∃ (c : Nat) (z : Str), x = .str ⟨#[c]⟩ ∧ y = .str z ∧ Q (.bl (decide (c ∈ z.cps.toList))) H) (inSP false) := fun a b d h O H x y Q l hx hy q => by
  obtain ⟨u, h1, h⟩ := bd h
  obtain ⟨w, h2, h⟩ := bd h
  rw [gS_eq h1] at hx
  rw [gS_eq h2] at hy
  split at h
  · rename_i k hk
    cases h
    exact ⟨k, w, by rw [dp_str hx, one_of hk], dp_str hy, q _ H (Same.refl H) (.bl _)⟩
  · cases h
theorem ok_notInS : R2ok K (fun x y H Q => ∃ (c : Nat) (z : Str), x = .str ⟨#[c]⟩ ∧ y = .str z ∧ Q (.bl (!decide (c ∈ z.cps.toList))) H) (inSP true) := fun a b d h O H x y Q l hx hy q => by
  obtain ⟨u, h1, h⟩ := bd h
  obtain ⟨w, h2, h⟩ := bd h
  rw [gS_eq h1] at hx
  rw [gS_eq h2] at hy
  split at h
  · rename_i k hk
    cases h
    exact ⟨k, w, by rw [dp_str hx, one_of hk], dp_str hy, q _ H (Same.refl H) (.bl _)⟩
  · cases h
/-! texts, lists, tuples -/
def catSP : PyData → PyData → Option PyData := fun a b => (gS a).bind fun x => (gS b).bind fun y => if x.length + y.length ≤ 100000 then some (.str (x ++ y)) else none
def catLP : PyData → PyData → Option PyData := fun a b => (gL a).bind fun x => (gL b).bind fun y => if x.length + y.length ≤ 100000 then some (.list (x ++ y)) else none
def catTP : PyData → PyData → Option PyData := fun a b => (gT a).bind fun x => (gT b).bind fun y => if x.length + y.length ≤ 100000 then some (.tuple (x ++ y)) else none
def ixLP : PyData → PyData → Option PyData := fun a b => (gR a).bind fun ds => (gI b).bind fun i => atI ds i
def ixTP : PyData → PyData → Option PyData := fun a b => (gT a).bind fun ds => (gI b).bind fun i => atI ds i
def ixSP : PyData → PyData → Option PyData := fun a b => (gS a).bind fun z => (gI b).bind fun i => if z.length ≤ 100000 then (atI z.cps.toList i).map fun c => .str (tx [c]) else none
theorem ok_cat : R2ok K (fun x y H Q => ∃ i j, x = .str i ∧ y = .str j ∧ i.length + j.length ≤ sizeLine ∧ Q (.str (i ++ j)) H) catSP := fun a b d h O H x y Q l hx hy q => by
  obtain ⟨u, h1, h⟩ := bd h
  obtain ⟨w, h2, h⟩ := bd h
  rw [gS_eq h1] at hx
  rw [gS_eq h2] at hy
  split at h
  · rename_i hl
    cases h
    exact ⟨u, w, dp_str hx, dp_str hy, sz hl, q _ H (Same.refl H) (.str _)⟩
  · cases h
theorem ok_catL : R2ok K rCat catLP := fun a b d h O H x y Q l hx hy q => by
  obtain ⟨u, h1, h⟩ := bd h
  obtain ⟨w, h2, h⟩ := bd h
  rw [gL_eq h1] at hx
  rw [gL_eq h2] at hy
  split at h
  · rename_i hl
    cases h
    obtain ⟨p, vs, rfl, g1, g2⟩ := dp_list hx
    obtain ⟨p2, ws, rfl, g3, g4⟩ := dp_list hy
    exact ⟨p, p2, vs, ws, rfl, rfl, rm_le _ _ g1, rm_le _ _ g3, by rw [dpAll_len g2, dpAll_len g4]; exact sz hl, fun z nz => q _ _ (same_new nz) (do_lst l nz (dpAll_app g2 g4))⟩
  · cases h
theorem ok_catT : R2ok K (rCatA K) catTP := fun a b d h O H x y Q l hx hy q => by
  obtain ⟨u, h1, h⟩ := bd h
  obtain ⟨w, h2, h⟩ := bd h
  rw [gT_eq h1] at hx
  rw [gT_eq h2] at hy
  split at h
  · rename_i hl
    cases h
    obtain ⟨p, vs, rfl, g1, g2⟩ := dp_tup hx
    obtain ⟨p2, ws, rfl, g3, g4⟩ := dp_tup hy
    refine ⟨p, p2, vs, ws, rfl, rfl, Evl.ex_t rm_le g1, Evl.ex_t rm_le g3, by rw [dpAll_len g2, dpAll_len g4]; exact sz hl, fun e => ?_, fun _ e => ?_, fun _ _ z nz => q _ _ (same_new nz) (do_tup l nz (dpAll_app g2 g4))⟩
    · subst e
      have : u = [] := List.eq_nil_of_length_eq_zero (dpAll_len g2).symm
      rw [this] at q
      exact q _ H (Same.refl H) (.tup g3 g4)
    · subst e
      have : w = [] := List.eq_nil_of_length_eq_zero (dpAll_len g4).symm
      rw [this, List.append_nil] at q
      exact q _ H (Same.refl H) (.tup g1 g2)
  · cases h
theorem ok_ixL : R2ok K (rIxL K) ixLP := fun a b d h O H x y Q l hx hy q => by
  obtain ⟨u, h1, h⟩ := bd h
  obtain ⟨i, h2, h⟩ := bd h
  rw [gI_eq h2] at hy
  obtain ⟨p, vs, rfl, g1, g2⟩ := do_R hx h1
  obtain ⟨v, e, hv⟩ := atI_dp g2 h
  exact ⟨p, vs, i, v, rfl, dp_int hy, Same.seq rm_le g1, e, q _ H (Same.refl H) hv⟩
theorem ok_ixT : R2ok K (rIxT K) ixTP := fun a b d h O H x y Q l hx hy q => by
  obtain ⟨u, h1, h⟩ := bd h
  obtain ⟨i, h2, h⟩ := bd h
  rw [gI_eq h2] at hy
  rw [gT_eq h1] at hx
  obtain ⟨p, vs, rfl, g1, g2⟩ := dp_tup hx
  obtain ⟨v, e, hv⟩ := atI_dp g2 h
  exact ⟨p, vs, i, v, rfl, dp_int hy, Evl.ex_t rm_le g1, e, q _ H (Same.refl H) hv⟩
theorem ok_ixS : R2ok K rIxS ixSP := fun a b d h O H x y Q l hx hy q => by
  obtain ⟨u, h1, h⟩ := bd h
  obtain ⟨i, h2, h⟩ := bd h
  rw [gS_eq h1] at hx
  rw [gI_eq h2] at hy
  split at h
  · rename_i hl
    obtain ⟨k, hc, h⟩ := mp h
    subst h
    exact ⟨u, i, k, dp_str hx, dp_int hy, sz hl, hc, q _ H (Same.refl H) (.str _)⟩
  · cases h
/-! builtins -/
def o1 (g : PyData → Option PyData) : List PyData → Option PyData
  | [a] => g a
  | _ => none
def o2 (g : PyData → PyData → Option PyData) : List PyData → Option PyData
  | [a, b] => g a b
  | _ => none
theorem ok1 {r : List V → Hp → VK → Prop} {g : PyData → Option PyData} (h : ∀ a d, g a = some d → ∀ (O : List Addr) (H : Hp) (x : V) (Q : VK), Live O H → DO K O H x a → (∀ v H', Same H H' → DO K O H' v d → Q v H') → r [x] H Q) : BNok K r (o1 g) := fun ds d e O H xs Q l hx q => by
  match ds, e with
  | [a], e =>
    cases hx with
    | cons h1 h2 =>
      cases h2
      exact h a d e O H _ Q l h1 q
theorem ok2 {r : List V → Hp → VK → Prop} {g : PyData → PyData → Option PyData} (h : ∀ a b d, g a b = some d → ∀ (O : List Addr) (H : Hp) (x y : V) (Q : VK), Live O H → DO K O H x a → DO K O H y b → (∀ v H', Same H H' → DO K O H' v d → Q v H') → r [x, y] H Q) : BNok K r (o2 g) := fun ds d e O H xs Q l hx q => by
  match ds, e with
  | [a, b], e =>
    cases hx with
    | cons h1 h2 =>
      cases h2 with
      | cons h2 h3 =>
        cases h3
        exact h a b d e O H _ _ Q l h1 h2 q
abbrev lenP := o1 fun a => (gQ a).map fun ds => .int ds.length
theorem ok_len : BNok K (fun xs H Q => ∃ p ys, xs = [.ref p] ∧ (SqL K H p ys ∨ SqT K H p ys) ∧ Q (.int ys.length) H) lenP := ok1 fun a d h O H x Q l hx q => by
  obtain ⟨ds, h1, h⟩ := mp h
  subst h
  obtain ⟨p, vs, rfl, h2, h3⟩ := do_Q hx h1
  exact ⟨p, vs, rfl, q_low h2, by rw [dpAll_len h3]; exact q _ H (Same.refl H) (.int _)⟩
abbrev lenSP := o1 fun a => (gS a).bind fun z => if z.length ≤ 100000 then some (.int z.length) else none
theorem ok_lenS : BNok K (fun xs H Q => ∃ z, xs = [.str z] ∧ z.length ≤ sizeLine ∧ Q (.int z.length) H) lenSP := ok1 fun a d h O H x Q l hx q => by
  obtain ⟨z, h1, h⟩ := bd h
  rw [gS_eq h1] at hx
  split at h
  · rename_i hl
    cases h
    exact ⟨z, by rw [dp_str hx], sz hl, q _ H (Same.refl H) (.int _)⟩
  · cases h
theorem ok_ii {g : Int → Int → Int} : BNok K (fun xs H Q => ∃ i j, xs = [.int i, .int j] ∧ Q (.int (g i j)) H) (o2 (ipi g)) := ok2 fun a b d h O H x y Q l hx hy q => by
  obtain ⟨i, h1, h⟩ := bd h
  obtain ⟨j, h2, h⟩ := mp h
  rw [gI_eq h1] at hx
  rw [gI_eq h2] at hy
  subst h
  exact ⟨i, j, by rw [dp_int hx, dp_int hy], q _ H (Same.refl H) (.int _)⟩
abbrev absP := o1 fun a => (gI a).map fun i => .int (if i < 0 then -i else i)
theorem ok_abs : BNok K (fun xs H Q => ∃ i, xs = [.int i] ∧ Q (.int (if i < 0 then -i else i)) H) absP := ok1 fun a d h O H x Q l hx q => by
  obtain ⟨i, h1, h⟩ := mp h
  rw [gI_eq h1] at hx
  subst h
  exact ⟨i, by rw [dp_int hx], q _ H (Same.refl H) (.int _)⟩
def intO : PyData → Option PyData
  | .int i => some (.int i)
  | .bool k => some (.int (if k then 1 else 0))
  | _ => none
theorem ok_int1 : BNok K (fun xs H Q => (∃ i, xs = [.int i] ∧ Q (.int i) H) ∨ ∃ k, xs = [.bl k] ∧ Q (.int (if k then 1 else 0)) H) (o1 intO) := ok1 fun a d h O H x Q l hx q => by
  cases a <;> simp [intO] at h
  · subst h
    cases dp_bl hx
    exact .inr ⟨_, rfl, q _ H (Same.refl H) (.int _)⟩
  · subst h
    cases dp_int hx
    exact .inl ⟨_, rfl, q _ H (Same.refl H) (.int _)⟩
def boolO : PyData → Option PyData
  | .int i => some (.bool (i != 0))
  | .bool k => some (.bool k)
  | _ => none
theorem ok_bool1 : BNok K (fun xs H Q => (∃ i, xs = [.int i] ∧ Q (.bl (i != 0)) H) ∨ ∃ k, xs = [.bl k] ∧ Q (.bl k) H) (o1 boolO) := ok1 fun a d h O H x Q l hx q => by
  cases a <;> simp [boolO] at h
  · subst h
    cases dp_bl hx
    exact .inr ⟨_, rfl, q _ H (Same.refl H) (.bl _)⟩
  · subst h
    cases dp_int hx
    exact .inl ⟨_, rfl, q _ H (Same.refl H) (.bl _)⟩
abbrev intSP := o1 fun a => (gS a).bind fun z => if z.length ≤ 640 then (PySem.intText? z).map .int else none
theorem ok_intS : BNok K (fun xs H Q => ∃ a n, xs = [.str a] ∧ PySem.intText? a = some n ∧ a.length ≤ 640 ∧ Q (.int n) H) intSP := ok1 fun a d h O H x Q l hx q => by
  obtain ⟨z, h1, h⟩ := bd h
  rw [gS_eq h1] at hx
  split at h
  · rename_i hl
    obtain ⟨n, h2, h⟩ := mp h
    subst h
    exact ⟨z, n, by rw [dp_str hx], h2, hl, q _ H (Same.refl H) (.int _)⟩
  · cases h
abbrev strSP := o1 fun a => (gS a).map fun i => .str i
theorem ok_strS : BNok K (fun xs H Q => ∃ a, xs = [.str a] ∧ Q (.str a) H) strSP := ok1 fun a d h O H x Q l hx q => by
  obtain ⟨z, h1, h⟩ := mp h
  rw [gS_eq h1] at hx
  subst h
  exact ⟨z, by rw [dp_str hx], q _ H (Same.refl H) (.str _)⟩
abbrev strIP := o1 fun a => (gI a).bind fun i => if i.natAbs.log2 < 1920 then some (.str (toString i : Str)) else none
theorem ok_strI : BNok K (fun xs H Q => ∃ i, xs = [.int i] ∧ i.natAbs.log2 < 1920 ∧ Q (.str (toString i : Str)) H) strIP := ok1 fun a d h O H x Q l hx q => by
  obtain ⟨z, h1, h⟩ := bd h
  rw [gI_eq h1] at hx
  split at h
  · rename_i hl
    cases h
    exact ⟨z, by rw [dp_int hx], hl, q _ H (Same.refl H) (.str _)⟩
  · cases h
/-- tuple(xs) -/
abbrev tupP := o1 fun a => (gQ a).map .tuple
theorem ok_tup : BNok K (fun xs H Q => ∃ p ys, xs = [.ref p] ∧ ((SqL K H p ys ∧ ∀ l, H l = none → Q (.ref l) (upd H l (.tup ys))) ∨ (SqT K H p ys ∧ Q (.ref p) H))) tupP := ok1 fun a d h O H x Q l hx q => by
  obtain ⟨ds, h1, h⟩ := mp h
  subst h
  obtain ⟨p, vs, rfl, h2, h3⟩ := do_Q hx h1
  refine ⟨p, vs, rfl, ?_⟩
  rcases h2 with h2 | h2
  · exact .inl ⟨Same.seq rm_le h2, fun z nz => q _ _ (same_new nz) (do_tup l nz h3)⟩
  · exact .inr ⟨Evl.ex_t rm_le h2, q _ H (Same.refl H) (.tup h2 h3)⟩
def gIs : List PyData → Option (List Int)
  | [] => some []
  | .int i :: r => (gIs r).map (i :: ·)
  | _ => none
def gBs : List PyData → Option (List Bool)
  | [] => some []
  | .bool i :: r => (gBs r).map (i :: ·)
  | _ => none
def gSs : List PyData → Option (List Str)
  | [] => some []
  | .str i :: r => (gSs r).map (i :: ·)
  | _ => none
theorem gIs_dq {H : Hp} : ∀ {ds : List PyData} {ns : List Int} {vs : List V}, gIs ds = some ns → DqAll K H vs ds → vs = ns.map V.int
  | [], ns, vs, h, hv => by cases h; cases hv; rfl
  | .int i :: r, ns, vs, h, hv => by
    obtain ⟨ms, g1, h⟩ := mp h
    subst h
    cases hv with
    | cons h1 h2 => rw [dp_int h1, gIs_dq g1 h2]; rfl
  | .none :: _, _, _, h, _ => by simp [gIs] at h
  | .bool _ :: _, _, _, h, _ => by simp [gIs] at h
  | .str _ :: _, _, _, h, _ => by simp [gIs] at h
  | .list _ :: _, _, _, h, _ => by simp [gIs] at h
  | .tuple _ :: _, _, _, h, _ => by simp [gIs] at h
  | .dict _ :: _, _, _, h, _ => by simp [gIs] at h
theorem gBs_dq {H : Hp} : ∀ {ds : List PyData} {ns : List Bool} {vs : List V}, gBs ds = some ns → DqAll K H vs ds → vs = ns.map V.bl
  | [], ns, vs, h, hv => by cases h; cases hv; rfl
  | .bool i :: r, ns, vs, h, hv => by
    obtain ⟨ms, g1, h⟩ := mp h
    subst h
    cases hv with
    | cons h1 h2 => rw [dp_bl h1, gBs_dq g1 h2]; rfl
  | .none :: _, _, _, h, _ => by simp [gBs] at h
  | .int _ :: _, _, _, h, _ => by simp [gBs] at h
  | .str _ :: _, _, _, h, _ => by simp [gBs] at h
  | .list _ :: _, _, _, h, _ => by simp [gBs] at h
  | .tuple _ :: _, _, _, h, _ => by simp [gBs] at h
  | .dict _ :: _, _, _, h, _ => by simp [gBs] at h
theorem gSs_dq {H : Hp} : ∀ {ds : List PyData} {ns : List Str} {vs : List V}, gSs ds = some ns → DqAll K H vs ds → vs = ns.map V.str
  | [], ns, vs, h, hv => by cases h; cases hv; rfl
  | .str i :: r, ns, vs, h, hv => by
    obtain ⟨ms, g1, h⟩ := mp h
    subst h
    cases hv with
    | cons h1 h2 => rw [dp_str h1, gSs_dq g1 h2]; rfl
  | .none :: _, _, _, h, _ => by simp [gSs] at h
  | .int _ :: _, _, _, h, _ => by simp [gSs] at h
  | .bool _ :: _, _, _, h, _ => by simp [gSs] at h
  | .list _ :: _, _, _, h, _ => by simp [gSs] at h
  | .tuple _ :: _, _, _, h, _ => by simp [gSs] at h
  | .dict _ :: _, _, _, h, _ => by simp [gSs] at h
def qI (g : List Int → Option PyData) : List PyData → Option PyData := o1 fun a => (gR a).bind fun ds => (gIs ds).bind g
def qB (g : List Bool → PyData) : List PyData → Option PyData := o1 fun a => (gR a).bind fun ds => (gBs ds).map g
theorem ok_sum : BNok K (rSum K) (qI fun ns => some (.int ns.sum)) := ok1 fun a d h O H x Q l hx q => by
  obtain ⟨ds, h1, h⟩ := bd h
  obtain ⟨ns, h2, h⟩ := bd h
  cases h
  obtain ⟨p, vs, rfl, h3, h4⟩ := do_R hx h1
  cases gIs_dq h2 h4
  exact ⟨p, ns, rfl, Same.seq rm_le h3, q _ H (Same.refl H) (.int _)⟩
theorem ok_any : BNok K (rAny K) (qB fun bs => .bool (bs.any id)) := ok1 fun a d h O H x Q l hx q => by
  obtain ⟨ds, h1, h⟩ := bd h
  obtain ⟨ns, h2, h⟩ := mp h
  subst h
  obtain ⟨p, vs, rfl, h3, h4⟩ := do_R hx h1
  cases gBs_dq h2 h4
  exact ⟨p, ns, rfl, Same.seq rm_le h3, q _ H (Same.refl H) (.bl _)⟩
theorem ok_all : BNok K (rAll K) (qB fun bs => .bool (bs.all id)) := ok1 fun a d h O H x Q l hx q => by
  obtain ⟨ds, h1, h⟩ := bd h
  obtain ⟨ns, h2, h⟩ := mp h
  subst h
  obtain ⟨p, vs, rfl, h3, h4⟩ := do_R hx h1
  cases gBs_dq h2 h4
  exact ⟨p, ns, rfl, Same.seq rm_le h3, q _ H (Same.refl H) (.bl _)⟩
def mxL : List Int → Option PyData
  | [] => none
  | i :: r => some (.int (r.foldl max i))
def mnL : List Int → Option PyData
  | [] => none
  | i :: r => some (.int (r.foldl min i))
theorem foldl_max_ge : ∀ (r : List Int) (i : Int), i ≤ r.foldl max i ∧ (∀ y ∈ r, y ≤ r.foldl max i) ∧ (r.foldl max i = i ∨ r.foldl max i ∈ r)
  | [], i => ⟨Int.le_refl _, by simp, .inl rfl⟩
  | a :: r, i => by
    obtain ⟨h1, h2, h3⟩ := foldl_max_ge r (max i a)
    rw [List.foldl_cons]
    refine ⟨by omega, fun y hy => ?_, ?_⟩
    · rcases List.mem_cons.mp hy with e | hy
      · omega
      · exact h2 y hy
    · rcases h3 with h3 | h3
      · by_cases hc : i ≤ a
        · exact .inr (by rw [h3, Int.max_eq_right hc]; exact List.mem_cons_self)
        · exact .inl (by rw [h3]; omega)
      · exact .inr (List.mem_cons_of_mem _ h3)
theorem foldl_min_le : ∀ (r : List Int) (i : Int), r.foldl min i ≤ i ∧ (∀ y ∈ r, r.foldl min i ≤ y) ∧ (r.foldl min i = i ∨ r.foldl min i ∈ r)
  | [], i => ⟨Int.le_refl _, by simp, .inl rfl⟩
  | a :: r, i => by
    obtain ⟨h1, h2, h3⟩ := foldl_min_le r (min i a)
    rw [List.foldl_cons]
    refine ⟨by omega, fun y hy => ?_, ?_⟩
    · rcases List.mem_cons.mp hy with e | hy
      · omega
      · exact h2 y hy
    · rcases h3 with h3 | h3
      · by_cases hc : a ≤ i
        · exact .inr (by rw [h3, Int.min_eq_right hc]; exact List.mem_cons_self)
        · exact .inl (by rw [h3]; omega)
      · exact .inr (List.mem_cons_of_mem _ h3)
theorem ok_maxL : BNok K (rMax K) (qI mxL) := ok1 fun a d h O H x Q l hx q => by
  obtain ⟨ds, h1, h⟩ := bd h
  obtain ⟨ns, h2, h⟩ := bd h
  obtain ⟨p, vs, rfl, h3, h4⟩ := do_R hx h1
  cases gIs_dq h2 h4
  cases ns with
  | nil => cases h
  | cons i rr =>
    cases h
    refine ⟨p, i :: rr, rfl, Same.seq rm_le h3, by simp, fun m hm hmax => ?_⟩
    obtain ⟨k1, k2, k3⟩ := foldl_max_ge rr i
    have hmem : rr.foldl max i ∈ i :: rr := by
      rcases k3 with k3 | k3
      · rw [k3]; exact List.mem_cons_self
      · exact List.mem_cons_of_mem _ k3
    have e1 := hmax _ hmem
    have e2 : m ≤ rr.foldl max i := by
      rcases List.mem_cons.mp hm with z | z
      · rw [z]; exact k1
      · exact k2 m z
    have : m = rr.foldl max i := by omega
    subst this
    exact q _ H (Same.refl H) (.int _)
theorem ok_minL : BNok K (rMin K) (qI mnL) := ok1 fun a d h O H x Q l hx q => by
  obtain ⟨ds, h1, h⟩ := bd h
  obtain ⟨ns, h2, h⟩ := bd h
  obtain ⟨p, vs, rfl, h3, h4⟩ := do_R hx h1
  cases gIs_dq h2 h4
  cases ns with
  | nil => cases h
  | cons i rr =>
    cases h
    refine ⟨p, i :: rr, rfl, Same.seq rm_le h3, by simp, fun m hm hmin => ?_⟩
    obtain ⟨k1, k2, k3⟩ := foldl_min_le rr i
    have hmem : rr.foldl min i ∈ i :: rr := by
      rcases k3 with k3 | k3
      · rw [k3]; exact List.mem_cons_self
      · exact List.mem_cons_of_mem _ k3
    have e1 := hmin _ hmem
    have e2 : rr.foldl min i ≤ m := by
      rcases List.mem_cons.mp hm with z | z
      · rw [z]; exact k1
      · exact k2 m z
    have : m = rr.foldl min i := by omega
    subst this
    exact q _ H (Same.refl H) (.int _)
/-! isinstance -/
def tyN : PyData → Option String
  | .none => some "NoneType"
  | .bool _ => some "bool"
  | .int _ => some "int"
  | .str _ => some "str"
  | .list _ => some "list"
  | .tuple _ => some "tuple"
  | .dict [(.none, .none)] => some "dict"
  | .dict _ => none
theorem ty_dq {H : Hp} {v : V} {d : PyData} {n : String} (h : Dq K H v d) (e : tyN d = some n) : TyX K H v (.type n) := by
  cases h with
  | non => cases e; exact .base .non
  | bl => cases e; exact .base (.bl _)
  | int => cases e; exact .base (.int _)
  | str => cases e; exact .base (.str _)
  | lst h1 => cases e; exact .base (.lst h1)
  | tup h1 =>
    cases e
    rcases h1 with (h1 | ⟨o, h1⟩) | ⟨o, its, n, h1, h2, _⟩
    · exact .base (.tup h1)
    · exact .fTuple h1
    · exact .kTuple h1 h2
  | @scr _ ns _ =>
    cases ns with
    | nil => cases e
    | cons z zs => cases zs <;> cases e
  | exc => cases e
  | emd h1 => cases e; exact .base (.dK h1)
def isiP (n : String) (d : PyData) : Option PyData := (tyN d).bind fun m => (kitB m n).map .bool
def isF (n : String) (F : Fx) : Fx := fun env => (F env).bind fun x => (isiP n x.1).map fun d => (d, x.2)
theorem fv_isi {G : Nat → Nat} {W S : List Nat} {p : Bool} {ta : TE} {F : Fx} {n : String} (h : fEV K G W S p ta F) : fEV K G W S p (tCB (rIsi K) (tCons ta (tCons (tC (.ty n)) tNil))) (isF n F) := fun env d env' hh c f H σ r Q q => by
  obtain ⟨x, e1, hh⟩ := bd hh
  obtain ⟨d', e2, hh⟩ := mp hh
  cases hh
  obtain ⟨m, e3, e2⟩ := bd e2
  obtain ⟨b, e4, e2⟩ := mp e2
  subst e2
  refine h env x.1 x.2 e1 c f H σ r _ fun f1 v H1 a1 hv => ?_
  exact ⟨v, .ty n, .type m, .type n, b, rfl, .ty _, ty_dq hv.low e3, kit_ty e4, q f1 _ H1 a1 (.bl _)⟩
end
end Sv

namespace Sv
open PySem PySem.Spec PyProof.Rows L2 Pre Dv
/-! ## tests, parts, displays, fresh lists -/
def tbF (F : Fx) : Ft := fun env => (F env).bind fun x => (gB x.1).map fun b => (b, x.2)
def truD : PyData → Option Bool
  | .none => some false
  | .bool b => some b
  | .int i => some (i != 0)
  | .str z => if z.length ≤ 100000 then some ((z.length : Int) != 0) else none
  | .list ds => some (!ds.isEmpty)
  | .tuple ds => some (!ds.isEmpty)
  | .dict _ => none
def truF (F : Fx) : Ft := fun env => (F env).bind fun x => (truD x.1).map fun b => (b, x.2)
def notF (T : Ft) : Ft := fun env => (T env).map fun x => (!x.1, x.2)
def andF (T U : Ft) : Ft := fun env => (T env).bind fun x => if x.1 = true then U x.2 else some (false, x.2)
def orF (T U : Ft) : Ft := fun env => (T env).bind fun x => if x.1 = true then some (true, x.2) else U x.2
def andV (F G : Fx) : Fx := fun env => (F env).bind fun x => (gB x.1).bind fun b => if b = true then G x.2 else some (.bool false, x.2)
def orV (F G : Fx) : Fx := fun env => (F env).bind fun x => (gB x.1).bind fun b => if b = true then some (.bool true, x.2) else G x.2
def notV (F : Fx) : Fx := fun env => (F env).bind fun x => (gB x.1).map fun b => (.bool (!b), x.2)
def ifV (T : Ft) (F G : Fx) : Fx := fun env => (T env).bind fun x => if x.1 = true then F x.2 else G x.2
def negF (F : Fx) : Fx := fun env => (F env).bind fun x => (gI x.1).map fun i => (.int (-i), x.2)
def chnF (g g' : Int → Int → Bool) (F G M : Fx) : Fx := fun env => (F env).bind fun x => (G x.2).bind fun y => (gI x.1).bind fun i => (gI y.1).bind fun j => if g i j = true then (M y.2).bind fun z => (gI z.1).map fun k => (.bool (g' j k), z.2) else some (.bool false, y.2)
def oN : Fo := fun env => some (none, env)
def oS (F : Fx) : Fo := fun env => (F env).bind fun x => (gI x.1).map fun i => (some i, x.2)
def slSF (F : Fx) (A B : Fo) : Fx := fun env => (F env).bind fun x => (A x.2).bind fun y => (B y.2).bind fun z => (gS x.1).bind fun s => if s.length ≤ 100000 then some (.str (cutS s y.1 z.1), z.2) else none
def slTF (F : Fx) (A B : Fo) : Fx := fun env => (F env).bind fun x => (A x.2).bind fun y => (B y.2).bind fun z => (gT x.1).map fun ds => (.tuple (cutD ds y.1 z.1), z.2)
def tupF (L : Fa) : Fx := fun env => (L env).bind fun x => if x.1.length ≤ 100000 then some (.tuple x.1, x.2) else none
section
variable {K : PySem.W.Frag} {G : Nat → Nat} {W S : List Nat} {p p2 p3 : Bool} {ta tb te tc : TE} {F F2 F3 : Fx} {L L' : Fa} {tt tu : TT} {T U : Ft}
theorem ft_test (h : fEV K G W S p te F) : fET K G W p (tTest te) (tbF F) := fun env b env' e c f H σ r Q q => by
  obtain ⟨x, e1, e⟩ := bd e
  obtain ⟨k, e2, e⟩ := mp e
  cases e
  refine h env x.1 x.2 e1 c f H σ r _ fun f1 v H1 a1 hv => ⟨b, ?_, q f1 H1 a1⟩
  rw [gB_eq e2] at hv
  exact dp_bl hv
theorem ft_B (h : fEV K G W S p te F) : fET K G W p (L2.tB te) (tbF F) := fun env b env' e c f H σ r Q q => by
  obtain ⟨x, e1, e⟩ := bd e
  obtain ⟨k, e2, e⟩ := mp e
  cases e
  refine h env x.1 x.2 e1 c f H σ r _ fun f1 v H1 a1 hv => ⟨b, ?_, q f1 H1 a1⟩
  rw [gB_eq e2] at hv
  exact dp_bl hv
theorem isEmpty_len {α β : Type} {xs : List α} {ys : List β} (h : xs.length = ys.length) : xs.isEmpty = ys.isEmpty := by
  cases xs <;> cases ys <;> simp at h ⊢
theorem ft_tru (h : fEV K G W S p te F) : fET K G W p (fun σ H Q => te σ H fun x H' => ∃ k, TruV K x H' k ∧ Q k H') (truF F) := fun env b env' e c f H σ r Q q => by
  obtain ⟨x, e1, e⟩ := bd e
  obtain ⟨k, e2, e⟩ := mp e
  cases e
  refine h env x.1 x.2 e1 c f H σ r _ fun f1 v H1 a1 hv => ⟨b, ?_, q f1 H1 a1⟩
  have hl := hv.low
  obtain ⟨x1, x2⟩ := x
  cases x1 <;> simp only [truD, reduceCtorEq, Option.some.injEq] at e2
  · rw [dp_non hl]; exact e2.symm
  · rw [dp_bl hl]; exact e2.symm
  · rw [dp_int hl]; exact e2.symm
  · rw [dp_str hl]
    split at e2
    · rename_i hz
      exact ⟨sz hz, by simpa using e2.symm⟩
    · cases e2
  · obtain ⟨a, vs, rfl, h1, h2⟩ := dp_list hl
    exact .inl ⟨vs, SqL.of h1, by rw [isEmpty_len (dpAll_len h2)]; exact e2.symm⟩
  · obtain ⟨a, vs, rfl, h1, h2⟩ := dp_tup hl
    exact .inr (.inl ⟨vs, h1, by rw [isEmpty_len (dpAll_len h2)]; exact e2.symm⟩)
theorem ft_not (h : fET K G W p tt T) : fET K G W p (tNot tt) (notF T) := fun env b env' e c f H σ r Q q => by
  obtain ⟨x, e1, e⟩ := mp e
  cases e
  exact h env x.1 x.2 e1 c f H σ r _ fun f1 H1 a1 => q f1 H1 a1
theorem ft_and (h : fET K G W p tt T) (h2 : fET K G W p2 tu U) : fET K G W (p && p2) (tAnd tt tu) (andF T U) := fun env b env' e c f H σ r Q q => by
  obtain ⟨x, e1, e⟩ := bd e
  refine h env x.1 x.2 e1 c f H σ r _ fun f1 H1 a1 => ?_
  split at e
  · rename_i hx
    rw [if_pos hx]
    exact h2 x.2 b env' e c f1 H1 σ a1.r _ fun f2 H2 a2 => q f2 H2 (a1.trans a2)
  · rename_i hx
    rw [if_neg hx]
    cases e
    exact q f1 H1 (a1.weak fun z => (Bool.and_eq_true _ _ ▸ z).1)
theorem ft_or (h : fET K G W p tt T) (h2 : fET K G W p2 tu U) : fET K G W (p && p2) (tOr tt tu) (orF T U) := fun env b env' e c f H σ r Q q => by
  obtain ⟨x, e1, e⟩ := bd e
  refine h env x.1 x.2 e1 c f H σ r _ fun f1 H1 a1 => ?_
  split at e
  · rename_i hx
    rw [if_pos hx]
    cases e
    exact q f1 H1 (a1.weak fun z => (Bool.and_eq_true _ _ ▸ z).1)
  · rename_i hx
    rw [if_neg hx]
    exact h2 x.2 b env' e c f1 H1 σ a1.r _ fun f2 H2 a2 => q f2 H2 (a1.trans a2)
theorem fv_and (h : fEV K G W S p ta F) (h2 : fEV K G W S p2 tb F2) : fEV K G W S (p && p2) (tAndV ta tb) (andV F F2) := fun env d env' e c f H σ r Q q => by
  obtain ⟨x, e1, e⟩ := bd e
  obtain ⟨b, e2, e⟩ := bd e
  refine h env x.1 x.2 e1 c f H σ r _ fun f1 v H1 a1 hv => ⟨b, ?_, ?_⟩
  · rw [gB_eq e2] at hv
    exact dp_bl hv
  split at e
  · rename_i hx
    rw [if_pos hx]
    exact h2 x.2 d env' e c f1 H1 σ a1.r _ fun f2 w H2 a2 hw => q f2 w H2 (a1.trans a2) hw
  · rename_i hx
    rw [if_neg hx]
    cases e
    exact q f1 _ H1 (a1.weak fun z => (Bool.and_eq_true _ _ ▸ z).1) (.bl _)
theorem fv_or (h : fEV K G W S p ta F) (h2 : fEV K G W S p2 tb F2) : fEV K G W S (p && p2) (tOrV ta tb) (orV F F2) := fun env d env' e c f H σ r Q q => by
  obtain ⟨x, e1, e⟩ := bd e
  obtain ⟨b, e2, e⟩ := bd e
  refine h env x.1 x.2 e1 c f H σ r _ fun f1 v H1 a1 hv => ⟨b, ?_, ?_⟩
  · rw [gB_eq e2] at hv
    exact dp_bl hv
  split at e
  · rename_i hx
    rw [if_pos hx]
    cases e
    exact q f1 _ H1 (a1.weak fun z => (Bool.and_eq_true _ _ ▸ z).1) (.bl _)
  · rename_i hx
    rw [if_neg hx]
    exact h2 x.2 d env' e c f1 H1 σ a1.r _ fun f2 w H2 a2 hw => q f2 w H2 (a1.trans a2) hw
theorem fv_not (h : fEV K G W S p ta F) : fEV K G W S p (tNotV ta) (notV F) := fun env d env' e c f H σ r Q q => by
  obtain ⟨x, e1, e⟩ := bd e
  obtain ⟨b, e2, e⟩ := mp e
  cases e
  refine h env x.1 x.2 e1 c f H σ r _ fun f1 v H1 a1 hv => ⟨b, ?_, q f1 _ H1 a1 (.bl _)⟩
  rw [gB_eq e2] at hv
  exact dp_bl hv
theorem fv_if (h : fET K G W p tt T) (h1 : fEV K G W S p2 ta F) (h2 : fEV K G W S p3 tb F2) : fEV K G W S (p && (p2 && p3)) (tIf tt ta tb) (ifV T F F2) := fun env d env' e c f H σ r Q q => by
  obtain ⟨x, e1, e⟩ := bd e
  refine h env x.1 x.2 e1 c f H σ r _ fun f1 H1 a1 => ?_
  split at e
  · rename_i hx
    rw [if_pos hx]
    exact h1 x.2 d env' e c f1 H1 σ a1.r _ fun f2 w H2 a2 hw => q f2 w H2 ((a1.trans a2).weak fun z => by revert z; cases p <;> cases p2 <;> cases p3 <;> simp) hw
  · rename_i hx
    rw [if_neg hx]
    exact h2 x.2 d env' e c f1 H1 σ a1.r _ fun f2 w H2 a2 hw => q f2 w H2 ((a1.trans a2).weak fun z => by revert z; cases p <;> cases p2 <;> cases p3 <;> simp) hw
theorem fv_neg (h : fEV K G W S p ta F) : fEV K G W S p (tUn (rU fun i => .int (-i)) ta) (negF F) := fun env d env' e c f H σ r Q q => by
  obtain ⟨x, e1, e⟩ := bd e
  obtain ⟨i, e2, e⟩ := mp e
  cases e
  refine h env x.1 x.2 e1 c f H σ r _ fun f1 v H1 a1 hv => ⟨i, ?_, q f1 _ H1 a1 (.int _)⟩
  rw [gI_eq e2] at hv
  exact dp_int hv
theorem fv_chain {g g' : Int → Int → Bool} (ha : fEV K G W S p ta F) (hb : fEV K G W S p2 tb F2) (hc : fEV K G W S p3 tc F3) : fEV K G W S (p && (p2 && p3)) (tChain (rI0 fun i j => .bl (g i j)) (rI0 fun i j => .bl (g' i j)) ta tb tc) (chnF g g' F F2 F3) := fun env d env' e c f H σ r Q q => by
  obtain ⟨x, e1, e⟩ := bd e
  obtain ⟨y, e2, e⟩ := bd e
  obtain ⟨i, e3, e⟩ := bd e
  obtain ⟨j, e4, e⟩ := bd e
  refine ha env x.1 x.2 e1 c f H σ r _ fun f1 u H1 a1 hu => hb x.2 y.1 y.2 e2 c f1 H1 σ a1.r _ fun f2 v H2 a2 hv => ?_
  rw [gI_eq e3] at hu
  rw [gI_eq e4] at hv
  cases dp_int hu
  cases dp_int hv
  refine ⟨i, j, rfl, rfl, _, rfl, ?_⟩
  split at e
  · rename_i hx
    rw [if_pos hx]
    obtain ⟨z, e5, e⟩ := bd e
    obtain ⟨k, e6, e⟩ := mp e
    cases e
    refine hc y.2 z.1 z.2 e5 c f2 H2 σ a2.r _ fun f3 w H3 a3 hw => ?_
    rw [gI_eq e6] at hw
    cases dp_int hw
    exact ⟨j, k, rfl, rfl, q f3 _ H3 (((a1.trans a2).trans a3).weak fun z => by revert z; cases p <;> cases p2 <;> cases p3 <;> simp) (.bl _)⟩
  · rename_i hx
    rw [if_neg hx]
    cases e
    exact q f2 _ H2 ((a1.trans a2).weak fun z => by revert z; cases p <;> cases p2 <;> cases p3 <;> simp) (.bl _)
theorem fo_none : fEO K G W true tNoPart oN := fun env b env' e c f H σ r Q q => by
  cases e
  exact q f H (.rfl r)
theorem fo_some (h : fEV K G W S p te F) : fEO K G W p (tPart te) (oS F) := fun env b env' e c f H σ r Q q => by
  obtain ⟨x, e1, e⟩ := bd e
  obtain ⟨i, e2, e⟩ := mp e
  cases e
  refine h env x.1 x.2 e1 c f H σ r _ fun f1 v H1 a1 hv => ⟨i, ?_, q f1 H1 a1⟩
  rw [gI_eq e2] at hv
  exact dp_int hv
section
variable {t1 t2 : TO} {A B : Fo}
theorem fv_slS (h : fEV K G W S p te F) (h1 : fEO K G W p2 t1 A) (h2 : fEO K G W p3 t2 B) : fEV K G W S (p && p2 && p3) (tSl rSlS te t1 t2) (slSF F A B) := fun env d env' e c f H σ r Q q => by
  obtain ⟨x, e1, e⟩ := bd e
  obtain ⟨y, e2, e⟩ := bd e
  obtain ⟨z, e3, e⟩ := bd e
  obtain ⟨s, e4, e⟩ := bd e
  split at e
  · rename_i hl
    cases e
    refine h env x.1 x.2 e1 c f H σ r _ fun f1 v H1 a1 hv => h1 x.2 y.1 y.2 e2 c f1 H1 σ a1.r _ fun f2 H2 a2 => h2 y.2 z.1 z.2 e3 c f2 H2 σ a2.r _ fun f3 H3 a3 => ?_
    rw [gS_eq e4] at hv
    exact ⟨s, dp_str hv, sz hl, q f3 _ H3 ((a1.trans a2).trans a3) (.str _)⟩
  · cases e
theorem fv_slT (h : fEV K G W S p te F) (h1 : fEO K G W p2 t1 A) (h2 : fEO K G W p3 t2 B) (hS : S = [] ∨ (p2 && p3) = true := by decide) : fEV K G W S (p && (p2 && p3)) (tSl (rSlA K) te t1 t2) (slTF F A B) := fun env d env' e c f H σ r Q q => by
  obtain ⟨x, e1, e⟩ := bd e
  obtain ⟨y, e2, e⟩ := bd e
  obtain ⟨z, e3, e⟩ := bd e
  obtain ⟨ds, e4, e⟩ := mp e
  cases e
  refine h env x.1 x.2 e1 c f H σ r _ fun f1 v H1 a1 hv => h1 x.2 y.1 y.2 e2 c f1 H1 σ a1.r _ fun f2 H2 a2 => h2 y.2 z.1 z.2 e3 c f2 H2 σ a2.r _ fun f3 H3 a3 => ?_
  have hv3 := (a2.trans a3).seen hS hv
  rw [gT_eq e4] at hv3
  obtain ⟨pp, vs, rfl, g1, g2⟩ := dp_tup hv3
  have af := a1.trans (a2.trans a3)
  refine ⟨pp, vs, rfl, Evl.ex_t rm_le g1, fun hw => ?_, fun _ np nn => q f3 _ _ (af.step (same_new nn)) (do_tup af.live nn (dpAll_cut g2 y.1 z.1))⟩
  rw [dpAll_len g2] at hw
  have e := cut_all ds y.1 z.1 hw
  rw [e] at q
  exact q f3 _ H3 af (.tup g1 g2)
end
theorem fv_tup {tr : TA} (h : fEA K G W S p tr L) : fEV K G W S p (tTup tr) (tupF L) := fun env d env' e c f H σ r Q q => by
  obtain ⟨x, e1, e⟩ := bd e
  split at e
  · rename_i hl
    cases e
    exact h env x.1 x.2 e1 c f H σ r _ fun f1 vs H1 a1 hv => ⟨by rw [dpAll_len hv]; exact sz hl, fun pp np => q f1 _ _ (a1.step (same_new np)) (do_tup a1.live np hv)⟩
  · cases e
/-- a tuple that is written at the top -/
theorem fv_ktup {a : Addr} {vs : List V} {ds : List PyData} (h : ∀ H, SqT K H a vs) (h2 : ∀ H, DqAll K H vs ds) : fEV K G W S true (tC (.ref a)) (cc (.tuple ds)) := fv_c fun H => .tup (h H) (h2 H)
/-! methods of texts -/
def M1ok (K : PySem.W.Frag) (r : V → List V → Hp → VK → Prop) (g : PyData → PyData → Option PyData) : Prop := ∀ a b d, g a b = some d → (∃ s, a = .str s) ∧ ∀ (O : List Addr) (H : Hp) (x y : V) (Q : VK), Live O H → DO K O H x a → DO K O H y b → (∀ v H', Same H H' → DO K O H' v d → Q v H') → r x [y] H Q
theorem fv_m1 {r : V → List V → Hp → VK → Prop} {g : PyData → PyData → Option PyData} (ok : M1ok K r g) (ha : fEV K G W S p ta F) (hb : fEV K G W S p2 tb F2) (hS : S = [] ∨ p2 = true := by decide) : fEV K G W S (p && p2) (tM1 r ta tb) (op2 g F F2) := fun env d env' e c f H σ rr Q q => by
  obtain ⟨x, e1, e⟩ := bd e
  obtain ⟨y, e2, e⟩ := bd e
  obtain ⟨d', e3, e⟩ := mp e
  cases e
  obtain ⟨⟨s, hs⟩, ok⟩ := ok _ _ _ e3
  refine ha env x.1 x.2 e1 c f H σ rr _ fun f1 u H1 a1 hu => ⟨⟨s, by rw [hs] at hu; exact dp_str hu⟩, hb x.2 y.1 y.2 e2 c f1 H1 σ a1.r _ fun f2 v H2 a2 hv => ?_⟩
  exact ok _ H2 u v Q a2.live (a2.seen hS hu) hv fun w H3 s hw => q f2 w H3 ((a1.trans a2).step s) hw
def joinP : PyData → PyData → Option PyData := fun a b => (gS a).bind fun s => (gQ b).bind fun ds => (gSs ds).bind fun ys => if (ys.map (·.length)).sum + ys.length * s.length ≤ 16777216 then some (.str (Txt.join s ys)) else none
theorem ok_join : M1ok K (fun x xs H Q => ∃ a p, ∃ ys : List Str, x = .str a ∧ xs = [.ref p] ∧ (SqL K H p (ys.map V.str) ∨ SqT K H p (ys.map V.str)) ∧ (ys.map (·.length)).sum + ys.length * a.length ≤ 16777216 ∧ Q (.str (Txt.join a ys)) H) joinP := fun a b d h => by
  obtain ⟨s, h1, h⟩ := bd h
  obtain ⟨ds, h2, h⟩ := bd h
  obtain ⟨ys, h3, h⟩ := bd h
  refine ⟨⟨s, gS_eq h1⟩, fun O H x y Q l hx hy q => ?_⟩
  rw [gS_eq h1] at hx
  obtain ⟨p, vs, rfl, g1, g2⟩ := do_Q hy h2
  cases gSs_dq h3 g2
  split at h
  · rename_i hl
    cases h
    exact ⟨s, p, ys, dp_str hx, rfl, q_low g1, hl, q _ H (Same.refl H) (.str _)⟩
  · cases h
def startsP : PyData → PyData → Option PyData := fun a b => (gS a).bind fun s => (gS b).map fun t => .bool (Txt.startswith s t)
theorem ok_starts : M1ok K (fun x xs H Q => ∃ a b, x = .str a ∧ xs = [.str b] ∧ Q (.bl (Txt.startswith a b)) H) startsP := fun a b d h => by
  obtain ⟨s, h1, h⟩ := bd h
  obtain ⟨t, h2, h⟩ := mp h
  subst h
  refine ⟨⟨s, gS_eq h1⟩, fun O H x y Q l hx hy q => ?_⟩
  rw [gS_eq h1] at hx
  rw [gS_eq h2] at hy
  exact ⟨s, t, dp_str hx, by rw [dp_str hy], q _ H (Same.refl H) (.bl _)⟩
def partP : PyData → PyData → Option PyData := fun a b => (gS a).bind fun s => (gS b).bind fun t => if (t.length == 0) = false ∧ s.length ≤ 100000 then some (.tuple [.str (Txt.partition s t).1, .str (Txt.partition s t).2.1, .str (Txt.partition s t).2.2]) else none
theorem ok_part : M1ok K (fun x xs H Q => ∃ a b, x = .str a ∧ xs = [.str b] ∧ (b.length == 0) = false ∧ a.length ≤ sizeLine ∧
      ∀ p, H p = none → Q (.ref p) (upd H p (.tup [.str (Txt.partition a b).1, .str (Txt.partition a b).2.1, .str (Txt.partition a b).2.2]))) partP := fun a b d h => by
  obtain ⟨s, h1, h⟩ := bd h
  obtain ⟨t, h2, h⟩ := bd h
  refine ⟨⟨s, gS_eq h1⟩, fun O H x y Q l hx hy q => ?_⟩
  rw [gS_eq h1] at hx
  rw [gS_eq h2] at hy
  split at h
  · rename_i hl
    cases h
    exact ⟨s, t, dp_str hx, by rw [dp_str hy], hl.1, sz hl.2, fun p np => q _ _ (same_new np) (do_tup l np (.cons (.str _) (.cons (.str _) (.cons (.str _) .nil))))⟩
  · cases h
/-! fresh lists -/
def ck (S : List Nat) (es : List PyData) : Bool := S.isEmpty || noL.noLs es
theorem unseeA {c : Fr} {f : Nat → List Addr} {H : Hp} {σ : L2.St} {env : Env} {vs : List V} {ds : List PyData} (r : SR K G c W f H σ env) (n : ck S ds = true) (h : DA K (hidS c W S f) H vs ds) : DA K (hid c.O W f) H vs ds := by
  unfold ck at n
  rw [Bool.or_eq_true] at n
  rcases n with n | n
  · have : S = [] := List.isEmpty_iff.mp n
    subst this
    unfold hidS at h
    rw [cutf_nil] at h
    exact h
  · refine noLs_up (fun a ha hn => ?_) ds vs n h
    rcases mem_hid.mp ha with h | ⟨i, hi, h⟩
    · exact absurd (mem_hid.mpr (.inl h)) hn
    · obtain ⟨v, d, _, _, h3⟩ := r.own i hi
      exact ow_lst _ _ _ _ h3 a h
def Fr.hide (c : Fr) (A : List Addr) : Fr := { c with O := A ++ c.O }
theorem mem_hide {c : Fr} {A : List Addr} {f : Nat → List Addr} {b : Addr} : b ∈ hid (c.hide A).O W f ↔ b ∈ A ∨ b ∈ hid c.O W f := by
  rw [mem_hid, mem_hid]
  show (b ∈ A ++ c.O ∨ _) ↔ _
  rw [List.mem_append, or_assoc]
theorem SR.unhide {c : Fr} {A : List Addr} {f : Nat → List Addr} {H : Hp} {σ : L2.St} {env : Env} (r : SR K G (c.hide A) W f H σ env) : SR K G c W f H σ env := by
  have hsub : Same (rm (hid (c.hide A).O W f) H) (rm (hid c.O W f) H) := rm_sub fun b hb => mem_hide.mpr (.inr hb)
  exact ⟨r.base, fun b hb => r.live b (mem_hide.mpr (.inr hb)), fun i hi a ha => ⟨(r.new i hi a ha).1, fun z => (r.new i hi a ha).2 (List.mem_append_right _ z)⟩, r.dis, r.len, fun i d e n => let ⟨v, h1, h2⟩ := r.val i d e n; ⟨v, h1, dp_same hsub _ _ h2⟩,
    fun i hi => let ⟨v, d, h1, h2, h3⟩ := r.own i hi; ⟨v, d, h1, h2, ow_keep hsub _ _ _ _ h3 fun _ _ _ e => e⟩, r.fix⟩
theorem SR.hideNew {c : Fr} {f : Nat → List Addr} {H : Hp} {σ : L2.St} {env : Env} {D : Addr} {o : HO} (r : SR K G c W f H σ env) (h : H D = none) : SR K G (c.hide [D]) W f (upd H D o) σ env := by
  have sn : Same H (upd H D o) := same_new h
  have hn : ∀ b ∈ hid c.O W f, b ≠ D := fun b hb e => r.live b hb (by rw [e]; exact h)
  have hsub : Same (rm (hid c.O W f) H) (rm (hid (c.hide [D]).O W f) (upd H D o)) := fun b u e => by
    obtain ⟨e1, e2⟩ := rm_some e
    rw [rm_at]
    · exact sn _ _ e2
    · intro z
      rcases mem_hide.mp z with z | z
      · rw [List.mem_singleton.mp z, h] at e2
        cases e2
      · exact e1 z
  refine ⟨r.base.trans sn, fun b hb => ?_, fun i hi a ha => ⟨(r.new i hi a ha).1, fun z => ?_⟩, r.dis, r.len, fun i d e n => let ⟨v, h1, h2⟩ := r.val i d e n; ⟨v, h1, dp_same hsub _ _ h2⟩,
    fun i hi => let ⟨v, d, h1, h2, h3⟩ := r.own i hi; ⟨v, d, h1, h2, ow_keep hsub _ _ _ _ h3 fun _ _ _ e => sn _ _ e⟩, r.fix⟩
  · rcases mem_hide.mp hb with z | z
    · rw [List.mem_singleton.mp z, upd_same]
      simp
    · exact (r.live.same sn) b z
  · rcases List.mem_append.mp z with z | z
    · exact hn a (mem_hid.mpr (.inr ⟨i, hi, ha⟩)) (List.mem_singleton.mp z)
    · exact (r.new i hi a ha).2 z
def fEF (K : PySem.W.Frag) (G : Nat → Nat) (W : List Nat) (n : Nat) (p : Bool) (te : TE) (F : Fx) : Prop := ∀ env d env', F env = some (d, env') → ∀ c f H σ, SR K G c W f H σ env → ∀ Q : VK,
  (∀ f' v A H2, Aft K G c W σ p f H env f' H2 env' → (∀ a ∈ A, a ∉ c.O ∧ c.B a = none) → SR K G (c.hide A) W f' H2 σ env' → Ow K (hid (c.hide A).O W f') H2 n v d A → Q v H2) → te σ H Q
theorem fEF.ev {n : Nat} (h : fEF K G W n p te F) : fEV K G W S p te F := fun env d env' e c f H σ r Q q => h env d env' e c f H σ r Q fun f' v A H2 a1 hA rh ho =>
  q f' v H2 a1 (see (ow_plain (rm_sub fun b hb => mem_hide.mpr (.inr hb)) _ _ _ _ ho fun b hb z => by
    rcases mem_hid.mp z with z | ⟨i, hi, z⟩
    · exact (hA b hb).1 z
    · exact (rh.new i hi b z).2 (List.mem_append_left _ hb)))
theorem new_list {c : Fr} {f f' : Nat → List Addr} {H H1 : Hp} {σ : L2.St} {env env' : Env} {q : Addr} {vs : List V} {es : List PyData} (a1 : Aft K G c W σ p f H env f' H1 env') (np : H1 q = none) (hv : DA K (hid c.O W f') H1 vs es) {Q : VK}
    (k : ∀ f' v A H2, Aft K G c W σ p f H env f' H2 env' → (∀ a ∈ A, a ∉ c.O ∧ c.B a = none) → SR K G (c.hide A) W f' H2 σ env' → Ow K (hid (c.hide A).O W f') H2 1 v (.list es) A → Q v H2) : Q (.ref q) (upd H1 q (.lst vs)) := by
  refine k f' _ [q] _ (a1.step (same_new np)) (fun a ha => ?_) (a1.r.hideNew np) ⟨q, vs, es, [], rfl, rfl, rfl, upd_same, (by simp), owA_of (dpAll_same (fun b u e => ?_) _ _ hv)⟩
  · cases List.mem_singleton.mp ha
    exact ⟨fun z => a1.r.live q (mem_hid.mpr (.inl z)) np, a1.r.base.free np⟩
  · obtain ⟨e1, e2⟩ := rm_some e
    rw [rm_at]
    · exact same_new np _ _ e2
    · intro z
      rcases mem_hide.mp z with z | z
      · rw [List.mem_singleton.mp z, np] at e2
        cases e2
      · exact e1 z
def lsF (S : List Nat) (L : Fa) : Fx := fun env => (L env).bind fun x => if x.1.length ≤ 100000 ∧ ck S x.1 = true then some (.list x.1, x.2) else none
theorem ef_lst {tr : TA} (h : fEA K G W S p tr L) : fEF K G W 1 p (tLst tr) (lsF S L) := fun env d env' e c f H σ r Q q => by
  obtain ⟨x, e1, e⟩ := bd e
  split at e
  · rename_i hl
    cases e
    exact h env x.1 x.2 e1 c f H σ r _ fun f1 vs H1 a1 hv => ⟨by rw [dpAll_len hv]; exact sz hl.1, fun pp np => new_list a1 np (unseeA a1.r hl.2 hv) q⟩
  · cases e
def R2f (K : PySem.W.Frag) (r : R2) (g : PyData → PyData → Option (List PyData)) : Prop := ∀ a b es, g a b = some es → ∀ (O : List Addr) (H : Hp) (x y : V) (Q : VK), Live O H → DO K O H x a → DO K O H y b → (∀ p vs, H p = none → DA K O H vs es → Q (.ref p) (upd H p (.lst vs))) → r x y H Q
def BNf (K : PySem.W.Frag) (r : List V → Hp → VK → Prop) (g : List PyData → Option (List PyData)) : Prop := ∀ ds es, g ds = some es → ∀ (O : List Addr) (H : Hp) (xs : List V) (Q : VK), Live O H → DA K O H xs ds → (∀ p vs, H p = none → DA K O H vs es → Q (.ref p) (upd H p (.lst vs))) → r xs H Q
def op2f (S : List Nat) (g : PyData → PyData → Option (List PyData)) (F F2 : Fx) : Fx := fun env => (F env).bind fun x => (F2 x.2).bind fun y => (g x.1 y.1).bind fun es => if ck S es = true then some (.list es, y.2) else none
def bnf (S : List Nat) (g : List PyData → Option (List PyData)) (L : Fa) : Fx := fun env => (L env).bind fun x => (g x.1).bind fun es => if ck S es = true then some (.list es, x.2) else none
theorem ef_op {r : R2} {g : PyData → PyData → Option (List PyData)} (ok : R2f K r g) (ha : fEV K G W S p ta F) (hb : fEV K G W S p2 tb F2) (hS : S = [] ∨ p2 = true := by decide) : fEF K G W 1 (p && p2) (tOp r ta tb) (op2f S g F F2) := fun env d env' e c f H σ rr Q q => by
  obtain ⟨x, e1, e⟩ := bd e
  obtain ⟨y, e2, e⟩ := bd e
  obtain ⟨es, e3, e⟩ := bd e
  split at e
  · rename_i hc
    cases e
    refine ha env x.1 x.2 e1 c f H σ rr _ fun f1 u H1 a1 hu => hb x.2 y.1 y.2 e2 c f1 H1 σ a1.r _ fun f2 v H2 a2 hv => ?_
    exact ok _ _ _ e3 _ H2 u v Q a2.live (a2.seen hS hu) hv fun p vs np h => new_list (a1.trans a2) np (unseeA a2.r hc h) q
  · cases e
theorem ef_bn {r : List V → Hp → VK → Prop} {g : List PyData → Option (List PyData)} {tr : TA} (ok : BNf K r g) (h : fEA K G W S p tr L) : fEF K G W 1 p (tCB r tr) (bnf S g L) := fun env d env' e c f H σ rr Q q => by
  obtain ⟨x, e1, e⟩ := bd e
  obtain ⟨es, e3, e⟩ := bd e
  split at e
  · rename_i hc
    cases e
    refine h env x.1 x.2 e1 c f H σ rr _ fun f1 vs H1 a1 hv => ?_
    exact ok _ _ e3 _ H1 vs Q a1.live hv fun p vs np h => new_list a1 np (unseeA a1.r hc h) q
  · cases e
theorem ef_if {n : Nat} (h : fET K G W p tt T) (h1 : fEF K G W n p2 ta F) (h2 : fEF K G W n p3 tb F2) : fEF K G W n (p && (p2 && p3)) (tIf tt ta tb) (ifV T F F2) := fun env d env' e c f H σ r Q q => by
  obtain ⟨x, e1, e⟩ := bd e
  refine h env x.1 x.2 e1 c f H σ r _ fun f1 H1 a1 => ?_
  split at e
  · rename_i hx
    rw [if_pos hx]
    exact h1 x.2 d env' e c f1 H1 σ a1.r _ fun f2 w A H2 a2 hA rh hw => q f2 w A H2 ((a1.trans a2).weak fun z => by revert z; cases p <;> cases p2 <;> cases p3 <;> simp) hA rh hw
  · rename_i hx
    rw [if_neg hx]
    exact h2 x.2 d env' e c f1 H1 σ a1.r _ fun f2 w A H2 a2 hA rh hw => q f2 w A H2 ((a1.trans a2).weak fun z => by revert z; cases p <;> cases p2 <;> cases p3 <;> simp) hA rh hw
def catG : PyData → PyData → Option (List PyData) := fun a b => (gL a).bind fun x => (gL b).bind fun y => if x.length + y.length ≤ 100000 then some (x ++ y) else none
theorem of_cat : R2f K rCat catG := fun a b es h O H x y Q l hx hy q => by
  obtain ⟨u, h1, h⟩ := bd h
  obtain ⟨w, h2, h⟩ := bd h
  rw [gL_eq h1] at hx
  rw [gL_eq h2] at hy
  split at h
  · rename_i hl
    cases h
    obtain ⟨p, vs, rfl, g1, g2⟩ := dp_list hx
    obtain ⟨p2, ws, rfl, g3, g4⟩ := dp_list hy
    exact ⟨p, p2, vs, ws, rfl, rfl, rm_le _ _ g1, rm_le _ _ g3, by rw [dpAll_len g2, dpAll_len g4]; exact sz hl, fun z nz => q _ _ nz (dpAll_app g2 g4)⟩
  · cases h
theorem dpAll_rep {O : List Addr} {H : Hp} {vs : List V} {ds : List PyData} (h : DA K O H vs ds) : ∀ n, DA K O H (List.replicate n vs).flatten (List.replicate n ds).flatten
  | 0 => .nil
  | n + 1 => by
    rw [List.replicate_succ, List.replicate_succ, List.flatten_cons, List.flatten_cons]
    exact dpAll_app h (dpAll_rep h n)
def repG : PyData → PyData → Option (List PyData) := fun a b => (gL a).bind fun x => (gI b).bind fun k => if (-1000000 ≤ k ∧ k ≤ 1000000) ∧ x.length * k.toNat ≤ 100000 then some (List.replicate k.toNat x).flatten else none
theorem of_rep : R2f K rRep repG := fun a b es h O H x y Q l hx hy q => by
  obtain ⟨u, h1, h⟩ := bd h
  obtain ⟨k, h2, h⟩ := bd h
  rw [gL_eq h1] at hx
  rw [gI_eq h2] at hy
  split at h
  · rename_i hl
    cases h
    obtain ⟨p, vs, rfl, g1, g2⟩ := dp_list hx
    exact ⟨p, k, vs, rfl, dp_int hy, rm_le _ _ g1, by omega, by omega, by rw [dpAll_len g2]; exact sz hl.2, fun z nz => q _ _ nz (dpAll_rep g2 _)⟩
  · cases h
def f1 (g : PyData → Option (List PyData)) : List PyData → Option (List PyData)
  | [a] => g a
  | _ => none
theorem of1 {r : List V → Hp → VK → Prop} {g : PyData → Option (List PyData)} (h : ∀ a es, g a = some es → ∀ (O : List Addr) (H : Hp) (x : V) (Q : VK), Live O H → DO K O H x a → (∀ p vs, H p = none → DA K O H vs es → Q (.ref p) (upd H p (.lst vs))) → r [x] H Q) : BNf K r (f1 g) := fun ds d e O H xs Q l hx q => by
  match ds, e with
  | [a], e =>
    cases hx with
    | cons h1 h2 =>
      cases h2
      exact h a d e O H _ Q l h1 q
theorem of_list : BNf K (fun xs H Q => ∃ p ys, xs = [.ref p] ∧ (SqL K H p ys ∨ SqT K H p ys) ∧ ∀ l, H l = none → Q (.ref l) (upd H l (.lst ys))) (f1 gQ) := of1 fun a es h O H x Q l hx q => by
  obtain ⟨p, vs, rfl, g1, g2⟩ := do_Q hx h
  exact ⟨p, vs, rfl, q_low g1, fun z nz => q _ _ nz g2⟩
/-- sorted(xs) of ints -/
def srt (ns : List Int) : List Int := ns.mergeSort (fun a b => decide (a ≤ b))
theorem srt_unique {ns ms : List Int} (h1 : ms.Perm ns) (h2 : ms.Pairwise (· ≤ ·)) : ms = srt ns := by
  have p : (srt ns).Perm ns := List.mergeSort_perm _ _
  have s : (srt ns).Pairwise (· ≤ ·) := by
    have := List.pairwise_mergeSort (le := fun (a b : Int) => decide (a ≤ b)) (by simp; omega) (by simp; omega) ns
    exact this.imp fun {a b} h => by simpa using h
  exact List.Perm.eq_of_pairwise (fun a b _ _ h1 h2 => Int.le_antisymm h1 h2) h2 s (h1.trans p.symm)
theorem of_sorted : BNf K (rSortedI K) (f1 fun a => (gR a).bind fun ds => (gIs ds).map fun ns => (srt ns).map .int) := of1 fun a es h O H x Q l hx q => by
  obtain ⟨ds, h1, h⟩ := bd h
  obtain ⟨ns, h2, h⟩ := mp h
  subst h
  obtain ⟨p, vs, rfl, g1, g2⟩ := do_R hx h1
  cases gIs_dq h2 g2
  refine ⟨p, ns, rfl, Same.seq rm_le g1, fun ms z hp hs nz => ?_⟩
  rw [srt_unique hp hs]
  exact q _ _ nz (ints_all _)
section
variable {t1 t2 : TO} {A B : Fo}
def slLF (S : List Nat) (F : Fx) (A B : Fo) : Fx := fun env => (F env).bind fun x => (A x.2).bind fun y => (B y.2).bind fun z => (gR x.1).bind fun ds => if ck S (cutD ds y.1 z.1) = true then some (.list (cutD ds y.1 z.1), z.2) else none
theorem ef_sl (h : fEV K G W S p te F) (h1 : fEO K G W p2 t1 A) (h2 : fEO K G W p3 t2 B) (hS : S = [] ∨ (p2 && p3) = true := by decide) : fEF K G W 1 (p && (p2 && p3)) (tSl (rSlL K) te t1 t2) (slLF S F A B) := fun env d env' e c f H σ r Q q => by
  obtain ⟨x, e1, e⟩ := bd e
  obtain ⟨y, e2, e⟩ := bd e
  obtain ⟨z, e3, e⟩ := bd e
  obtain ⟨ds, e4, e⟩ := bd e
  split at e
  · rename_i hc
    cases e
    refine h env x.1 x.2 e1 c f H σ r _ fun f1 v H1 a1 hv => h1 x.2 y.1 y.2 e2 c f1 H1 σ a1.r _ fun f2 H2 a2 => h2 y.2 z.1 z.2 e3 c f2 H2 σ a2.r _ fun f3 H3 a3 => ?_
    have hv3 := (a2.trans a3).seen hS hv
    obtain ⟨pp, vs, rfl, g1, g2⟩ := do_R hv3 e4
    exact ⟨pp, vs, rfl, Same.seq rm_le g1, fun z nz => new_list (a1.trans (a2.trans a3)) nz (unseeA a3.r hc (dpAll_cut g2 _ _)) q⟩
  · cases e
end
end
end Sv

namespace Sv
open PySem PySem.Spec PyProof.Rows L2 Pre Dv
/-! ## own trees made, changed, given up -/
def updf (f : Nat → List Addr) (i : Nat) (A : List Addr) : Nat → List Addr := fun j => if j = i then A else f j
theorem updf_self {f : Nat → List Addr} {i : Nat} : updf f i (f i) = f := by
  funext j
  unfold updf
  split
  · rename_i e; rw [e]
  · rfl
section
variable {K : PySem.W.Frag} {G : Nat → Nat} {c : Fr} {W : List Nat} {f f' : Nat → List Addr} {H H' : Hp} {σ : L2.St} {env : Env}
theorem SR.put {i : Nat} {v : V} {d' : PyData} {A' : List Addr} (r : SR K G c W f H σ env) (hi : i ∈ W) (hv : σ[i]? = some (some v)) (hH : ∀ b o, b ∉ f i → H b = some o → H' b = some o) (hA : ∀ a ∈ A', a ∈ f i ∨ H a = none)
    (ho : Ow K (hid c.O W (updf f i A')) H' (G i) v d' A') : SR K G c W (updf f i A') H' σ (env.set i (some d')) := by
  have hin : ∀ {b}, b ∉ hid c.O W f → b ∉ f i := fun {b} h z => h (mem_hid.mpr (.inr ⟨i, hi, z⟩))
  have hlt : i < env.length := by
    obtain ⟨_, _, h1, _⟩ := r.own i hi
    have := (List.getElem?_eq_some_iff.mp h1).1
    rw [r.len] at this
    exact this
  have hK : Same (rm (hid c.O W f) H) (rm (hid c.O W (updf f i A')) H') := fun b o e => by
    obtain ⟨e1, e2⟩ := rm_some e
    rw [rm_at]
    · exact hH b o (hin e1) e2
    · intro z
      rcases mem_hid.mp z with z | ⟨j, hj, z⟩
      · exact e1 (mem_hid.mpr (.inl z))
      · unfold updf at z
        split at z
        · rcases hA b z with z | z
          · exact hin e1 z
          · rw [e2] at z; cases z
        · exact e1 (mem_hid.mpr (.inr ⟨j, hj, z⟩))
  refine ⟨fun b o e => hH b o (fun z => ?_) (r.base _ _ e), fun b hb => ?_, fun j hj a ha => ?_, fun j hj k hk hjk a ha => ?_, by simp [r.len], fun j d hd hj => ?_, fun j hj => ?_, fun q hq => r.fix q hq⟩
  · have := (r.new i hi b z).1
    rw [e] at this
    cases this
  · rcases mem_hid.mp hb with z | ⟨j, hj, z⟩
    · have h1 := r.live b (mem_hid.mpr (.inl z))
      cases e : H b with
      | none => exact absurd e h1
      | some o => rw [hH b o (fun y => (r.new i hi b y).2 z) e]; simp
    · unfold updf at z
      split at z
      · obtain ⟨ws, e⟩ := ow_lst _ _ _ _ ho b z
        rw [e]; simp
      · rename_i hji
        have h1 := r.live b (mem_hid.mpr (.inr ⟨j, hj, z⟩))
        cases e : H b with
        | none => exact absurd e h1
        | some o => rw [hH b o (r.dis j hj i hi hji b z) e]; simp
  · unfold updf at ha
    split at ha
    · rename_i e
      rcases hA a ha with z | z
      · exact r.new i hi a z
      · exact ⟨r.base.free z, fun y => r.live a (mem_hid.mpr (.inl y)) z⟩
    · exact r.new j hj a ha
  · unfold updf at ha ⊢
    by_cases e1 : j = i
    · rw [if_pos e1] at ha
      rw [if_neg fun e => hjk (e1.trans e.symm)]
      rcases hA a ha with z | z
      · exact r.dis i hi k hk (fun e => hjk (e1.trans e)) a z
      · exact fun y => r.live a (mem_hid.mpr (.inr ⟨k, hk, y⟩)) z
    · rw [if_neg e1] at ha
      by_cases e2 : k = i
      · rw [if_pos e2]
        intro y
        rcases hA a y with z | z
        · exact r.dis j hj i hi e1 a ha z
        · exact r.live a (mem_hid.mpr (.inr ⟨j, hj, ha⟩)) z
      · rw [if_neg e2]
        exact r.dis j hj k hk hjk a ha
  · have hij : i ≠ j := fun z => hj (z ▸ hi)
    rw [List.getElem?_set_ne hij] at hd
    obtain ⟨v, h1, h2⟩ := r.val j d hd hj
    exact ⟨v, h1, dp_same hK _ _ h2⟩
  · by_cases e : j = i
    · subst e
      refine ⟨v, d', hv, List.getElem?_set_self hlt, ?_⟩
      show Ow K _ H' (G j) v d' (updf f j A' j)
      unfold updf
      rw [if_pos rfl]
      exact ho
    · obtain ⟨v, d, h1, h2, h3⟩ := r.own j hj
      refine ⟨v, d, h1, by rw [List.getElem?_set_ne (Ne.symm e)]; exact h2, ?_⟩
      have hf : updf f i A' j = f j := if_neg e
      rw [hf]
      exact ow_keep hK _ _ _ _ h3 fun a ha o ho => hH a o (r.dis j hj i hi e a ha) ho
theorem SR.own1 {i : Nat} (r : SR K G c W f H σ env) (hi : i ∈ W) (hG : G i = 1) : ∃ a vs ds, σ[i]? = some (some (.ref a)) ∧ env[i]? = some (some (.list ds)) ∧ H a = some (.lst vs) ∧ DA K (hid c.O W f) H vs ds ∧ f i = [a] := by
  obtain ⟨v, d, h1, h2, h3⟩ := r.own i hi
  rw [hG] at h3
  obtain ⟨a, vs, ds, A', rfl, rfl, e, g1, g2, g3⟩ := h3
  obtain ⟨e2, g4⟩ := owA_to g3
  exact ⟨a, vs, ds, h1, h2, g1, g4, by rw [e, e2]⟩
theorem SR.put1 {i : Nat} {a : Addr} {vs' : List V} {ds' : List PyData} (r : SR K G c W f H σ env) (hi : i ∈ W) (hG : G i = 1) (hv : σ[i]? = some (some (.ref a))) (hf : f i = [a]) (h : DA K (hid c.O W f) H vs' ds') :
    SR K G c W f (upd H a (.lst vs')) σ (env.set i (some (.list ds'))) := by
  have ha : a ∈ hid c.O W f := mem_hid.mpr (.inr ⟨i, hi, by rw [hf]; exact List.mem_singleton.mpr rfl⟩)
  have := r.put (H' := upd H a (.lst vs')) (A' := f i) (d' := .list ds') hi hv (fun b o hb e => by rw [upd_ne fun z => hb (by rw [hf, z]; exact List.mem_singleton.mpr rfl)]; exact e) (fun b hb => .inl hb) (by
    rw [updf_self, hG, hf]
    exact ⟨a, vs', ds', [], rfl, rfl, rfl, upd_same, by simp, owA_of (dpAll_same (rm_mut ha) _ _ h)⟩)
  rw [updf_self] at this
  exact this
/-- a new own tree -/
theorem SR.addOwn {i : Nat} {v : V} {d : PyData} {A : List Addr} (r : SR K G (c.hide A) W f H σ env) (hi : i ∉ W) (hlt : i < env.length) (hA : ∀ a ∈ A, a ∉ c.O ∧ c.B a = none) (h : Ow K (hid (c.hide A).O W f) H (G i) v d A) :
    SR K G c (i :: W) (updf f i A) H (σ.set i (some v)) (env.set i (some d)) := by
  have hf : ∀ j ∈ W, updf f i A j = f j := fun j hj => if_neg (fun (z : j = i) => hi (z ▸ hj))
  have hfi : updf f i A i = A := if_pos rfl
  have hmem : ∀ b, b ∈ hid c.O (i :: W) (updf f i A) ↔ b ∈ hid (c.hide A).O W f := fun b => by
    rw [mem_hide]
    constructor
    · intro h
      rcases mem_hid.mp h with h | ⟨j, hj, h⟩
      · exact .inr (mem_hid.mpr (.inl h))
      · rcases List.mem_cons.mp hj with e | hj
        · rw [e, hfi] at h
          exact .inl h
        · rw [hf j hj] at h
          exact .inr (mem_hid.mpr (.inr ⟨j, hj, h⟩))
    · intro h
      rcases h with h | h
      · exact mem_hid.mpr (.inr ⟨i, List.mem_cons_self, by rw [hfi]; exact h⟩)
      · rcases mem_hid.mp h with h | ⟨j, hj, h⟩
        · exact mem_hid.mpr (.inl h)
        · exact mem_hid.mpr (.inr ⟨j, List.mem_cons_of_mem _ hj, by rw [hf j hj]; exact h⟩)
  have hsub : Same (rm (hid (c.hide A).O W f) H) (rm (hid c.O (i :: W) (updf f i A)) H) := rm_sub fun b hb => (hmem b).1 hb
  have hAf : ∀ a ∈ A, ∀ j ∈ W, a ∉ f j := fun a ha j hj z => (r.new j hj a z).2 (List.mem_append_left _ ha)
  refine ⟨r.base, fun b hb => r.live b ((hmem b).1 hb), fun j hj a ha => ?_, fun j hj k hk hjk a ha => ?_, by simp [r.len], fun j e hd hj => ?_, fun j hj => ?_, fun q hq => ?_⟩
  · rcases List.mem_cons.mp hj with e | hj
    · rw [e, hfi] at ha
      exact ⟨(hA a ha).2, (hA a ha).1⟩
    · rw [hf j hj] at ha
      exact ⟨(r.new j hj a ha).1, fun z => (r.new j hj a ha).2 (List.mem_append_right _ z)⟩
  · rcases List.mem_cons.mp hj with e | hj
    · rw [e, hfi] at ha
      rcases List.mem_cons.mp hk with e2 | hk
      · exact absurd (e.trans e2.symm) hjk
      · rw [hf k hk]
        exact hAf a ha k hk
    · rw [hf j hj] at ha
      rcases List.mem_cons.mp hk with e2 | hk
      · rw [e2, hfi]
        exact fun z => hAf a z j hj ha
      · rw [hf k hk]
        exact r.dis j hj k hk hjk a ha
  · have hji : j ≠ i := fun z => hj (by rw [z]; exact List.mem_cons_self)
    rw [List.getElem?_set_ne (Ne.symm hji)] at hd ⊢
    obtain ⟨w, e1, e2⟩ := r.val j e hd fun z => hj (List.mem_cons_of_mem _ z)
    exact ⟨w, e1, dp_same hsub _ _ e2⟩
  · rcases List.mem_cons.mp hj with e | hj
    · subst e
      rw [hfi]
      exact ⟨v, d, List.getElem?_set_self (by rw [r.len]; exact hlt), List.getElem?_set_self hlt, ow_keep hsub _ _ _ _ h fun _ _ _ z => z⟩
    · have hij : i ≠ j := fun z => hi (z ▸ hj)
      obtain ⟨w, e, h1, h2, h3⟩ := r.own j hj
      rw [hf j hj, List.getElem?_set_ne hij, List.getElem?_set_ne hij]
      exact ⟨w, e, h1, h2, ow_keep hsub _ _ _ _ h3 fun _ _ _ z => z⟩
  · obtain ⟨h1, h2⟩ := r.fix q hq
    have hij : i ≠ q.1 := fun z => hi (z ▸ h1)
    rw [List.getElem?_set_ne hij]
    exact ⟨List.mem_cons_of_mem _ h1, h2⟩
/-- an own tree is handed on: hidden, but no slot's -/
theorem SR.give {i : Nat} {W1 : List Nat} (r : SR K G c W f H σ env) (hi : i ∈ W) (hW : ∀ j, j ∈ W1 ↔ j ∈ W ∧ j ≠ i) (hM : ∀ q ∈ c.M, q.1 ≠ i) : ∃ v d, σ[i]? = some (some v) ∧ env[i]? = some (some d) ∧ (∀ a ∈ f i, a ∉ c.O ∧ c.B a = none) ∧
    SR K G (c.hide (f i)) W1 f H σ (env.set i none) ∧ Ow K (hid (c.hide (f i)).O W1 f) H (G i) v d (f i) := by
  obtain ⟨v, d, h1, h2, h3⟩ := r.own i hi
  have hmem : ∀ b, b ∈ hid (c.hide (f i)).O W1 f ↔ b ∈ hid c.O W f := fun b => by
    rw [mem_hide, mem_hid, mem_hid]
    constructor
    · rintro (h | h | ⟨j, hj, h⟩)
      · exact .inr ⟨i, hi, h⟩
      · exact .inl h
      · exact .inr ⟨j, ((hW j).1 hj).1, h⟩
    · rintro (h | ⟨j, hj, h⟩)
      · exact .inr (.inl h)
      · by_cases e : j = i
        · rw [e] at h; exact .inl h
        · exact .inr (.inr ⟨j, (hW j).2 ⟨hj, e⟩, h⟩)
  have hsub : Same (rm (hid c.O W f) H) (rm (hid (c.hide (f i)).O W1 f) H) := rm_sub fun b hb => (hmem b).1 hb
  refine ⟨v, d, h1, h2, fun a ha => ⟨(r.new i hi a ha).2, (r.new i hi a ha).1⟩, ⟨r.base, fun b hb => r.live b ((hmem b).1 hb), fun j hj a ha => ⟨(r.new j ((hW j).1 hj).1 a ha).1, fun z => ?_⟩, fun j hj k hk => r.dis j ((hW j).1 hj).1 k ((hW k).1 hk).1, by simp [r.len], fun j e hd hj => ?_, fun j hj => ?_, fun q hq => ?_⟩, ow_keep hsub _ _ _ _ h3 fun _ _ _ z => z⟩
  · rcases List.mem_append.mp z with z | z
    · exact r.dis j ((hW j).1 hj).1 i hi ((hW j).1 hj).2 a ha z
    · exact (r.new j ((hW j).1 hj).1 a ha).2 z
  · by_cases e1 : j = i
    · subst e1
      rw [List.getElem?_set_self'] at hd
      cases he : env[j]? with
      | none => rw [he] at hd; cases hd
      | some x => rw [he] at hd; simp at hd
    · rw [List.getElem?_set_ne (Ne.symm e1)] at hd
      obtain ⟨w, g1, g2⟩ := r.val j e hd fun z => hj ((hW j).2 ⟨z, e1⟩)
      exact ⟨w, g1, dp_same hsub _ _ g2⟩
  · obtain ⟨w, e, g1, g2, g3⟩ := r.own j ((hW j).1 hj).1
    refine ⟨w, e, g1, by rw [List.getElem?_set_ne (Ne.symm ((hW j).1 hj).2)]; exact g2, ow_keep hsub _ _ _ _ g3 fun _ _ _ z => z⟩
  · obtain ⟨g1, g2⟩ := r.fix q hq
    exact ⟨(hW q.1).2 ⟨g1, hM q hq⟩, g2⟩
/-- an own tree becomes plain data -/
theorem SR.disown {i : Nat} {W1 : List Nat} (r : SR K G c W f H σ env) (hi : i ∈ W) (hW : ∀ j, j ∈ W1 ↔ j ∈ W ∧ j ≠ i) (hM : ∀ q ∈ c.M, q.1 ≠ i) : SR K G c W1 f H σ env := by
  obtain ⟨v, d, h1, h2, hA, rh, ho⟩ := r.give hi hW hM
  have r2 := rh.unhide
  refine ⟨r2.base, r2.live, r2.new, r2.dis, r.len, fun j e hd hj => ?_, fun j hj => ?_, r2.fix⟩
  · by_cases e1 : j = i
    · subst e1
      rw [h2] at hd
      cases hd
      refine ⟨v, h1, ow_plain (rm_sub fun b hb => mem_hide.mpr (.inr hb)) _ _ _ _ ho fun b hb z => ?_⟩
      rcases mem_hid.mp z with z | ⟨k, hk, z⟩
      · exact (hA b hb).1 z
      · exact r.dis j hi k ((hW k).1 hk).1 (Ne.symm ((hW k).1 hk).2) b hb z
    · exact r2.val j e (by rw [List.getElem?_set_ne (Ne.symm e1)]; exact hd) hj
  · obtain ⟨w, e, g1, g2, g3⟩ := r2.own j hj
    rw [List.getElem?_set_ne (Ne.symm ((hW j).1 hj).2)] at g2
    exact ⟨w, e, g1, g2, g3⟩
end
/-! ## statements as functions of data -/
inductive Out where
  | nx (e : Env) | rt (d : PyData) (e : Env) | bk (e : Env) | ct (e : Env) | ex (y : PyData) (e : Env)
abbrev Fs := Env → Option Out
/-- what comes back: plain, or a fresh tree -/
def RV (K : PySem.W.Frag) (G : Nat → Nat) (Ms : List Nat) (fr : Option Nat) (c : Fr) (f : Nat → List Addr) (H : Hp) (σ : L2.St) (env : Env) (v : V) (d : PyData) : Prop := match fr with
  | none => DO K (hid c.O Ms f) H v d
  | some n => ∃ A, (∀ a ∈ A, a ∉ c.O ∧ c.B a = none) ∧ SR K G (c.hide A) Ms f H σ env ∧ Ow K (hid (c.hide A).O Ms f) H n v d A
/-- the error that the data y tells -/
def exR (K : PySem.W.Frag) (y : PyData) (cls : Value) (d : Option Addr) : Prop := d = none ∧ ∃ (n : Str) (C : Addr), y = exD n ∧ cls = .ref C ∧ PySem.W.nsIn K mainGlobals n = some (some (.ref C))
abbrev noX : WX := fun _ _ _ _ => False
section
variable (K : PySem.W.Frag) (G : Nat → Nat) (Ms : List Nat) (fr : Option Nat) (Wx : WX)
def okE (WL W' : List Nat) (c : Fr) (D : Ends) : Out → Prop
  | .nx e => ∀ f' H' σ', SR K G c W' f' H' σ' e → D.nx σ' H'
  | .rt d e => ∀ f' H' σ' v, SR K G c Ms f' H' σ' e → RV K G Ms fr c f' H' σ' e v d → D.rt v H'
  | .bk e => ∀ f' H' σ', SR K G c WL f' H' σ' e → D.bk σ' H'
  | .ct e => ∀ f' H' σ', SR K G c WL f' H' σ' e → D.ct σ' H'
  | .ex y e => ∀ f' H' σ' cls d, SR K G c Ms f' H' σ' e → exR K y cls d → Wx cls d σ' H'
def fST (WL W : List Nat) (ts : TS) (s : Fs) (W' : List Nat) : Prop := ∀ env o, s env = some o → ∀ c f H σ D, SR K G c W f H σ env → c.M.map (·.1) = Ms → okE K G Ms fr Wx WL W' c D o → ts D σ H
end
def seqF (s t : Fs) : Fs := fun env => (s env).bind fun o => match o with
  | .nx e => t e
  | .rt d e => some (.rt d e)
  | .bk e => some (.bk e)
  | .ct e => some (.ct e)
  | .ex y e => some (.ex y e)
def nxF : Fs := fun env => some (.nx env)
def bkF : Fs := fun env => some (.bk env)
def ctF : Fs := fun env => some (.ct env)
def setF (i : Nat) (F : Fx) : Fs := fun env => (F env).map fun x => .nx (x.2.set i (some x.1))
def ownF (i : Nat) (F : Fx) : Fs := fun env => (F env).bind fun x => (x.2[i]?).map fun _ => .nx (x.2.set i (some x.1))
def appF (i : Nat) (F : Fx) : Fs := fun env => (F env).bind fun x => (vr i x.2).bind fun l => (gL l.1).bind fun ds => if ds.length < 100000 then some (.nx (x.2.set i (some (.list (ds ++ [x.1]))))) else none
def itmF (i : Nat) (F Fk : Fx) : Fs := fun env => (F env).bind fun x => (Fk x.2).bind fun k => (vr i k.2).bind fun l => (gL l.1).bind fun ds => (gI k.1).bind fun z => (ixN ds.length z).map fun j => .nx (k.2.set i (some (.list (ds.set j x.1))))
def itm2F (i : Nat) (F Fj Fk : Fx) : Fs := fun env => (F env).bind fun x => (Fj x.2).bind fun j => (Fk j.2).bind fun k => (vr i j.2).bind fun l => (gL l.1).bind fun ds => (gI j.1).bind fun zj => (ixN ds.length zj).bind fun nj => (ds[nj]?).bind fun row => (gL row).bind fun es =>
  (gI k.1).bind fun zk => (ixN es.length zk).map fun nk => .nx (k.2.set i (some (.list (ds.set nj (.list (es.set nk x.1))))))
def retF (F : Fx) : Fs := fun env => (F env).map fun x => .rt x.1 x.2
def rtnF : Fs := fun env => some (.rt .none env)
def drpF (F : Fx) : Fs := fun env => (F env).map fun x => .nx x.2
def iffF (T : Ft) (s t : Fs) : Fs := fun env => (T env).bind fun b => if b.1 = true then s b.2 else t b.2
def augF (i : Nat) (g : Int → Int → Int) (F : Fx) : Fs := fun env => (vr i env).bind fun x => (gI x.1).bind fun a => (F env).bind fun y => (gI y.1).map fun b => .nx (y.2.set i (some (.int (g a b))))
def parF (i j : Nat) (L : Fa) : Fs := fun env => (L env).bind fun x => match x.1 with
  | [a, b] => some (.nx ((x.2.set i (some a)).set j (some b)))
  | _ => none
abbrev Fg := PyData → Env → Option Env
def asgF (F : Fx) (Gg : Fg) : Fs := fun env => (F env).bind fun x => (Gg x.1 x.2).map .nx
section
variable {K : PySem.W.Frag} {G : Nat → Nat} {Ms : List Nat} {fr : Option Nat} {Wx : WX} {WL W W1 W2 : List Nat} {S : List Nat} {p p2 p3 : Bool} {te ta : TE} {tt : TT} {t u : TS} {s s' : Fs} {F F2 F3 : Fx} {L : Fa} {T : Ft}
theorem dpAll_set {H : Hp} : ∀ {vs : List V} {ds : List PyData} (j : Nat) {v : V} {d : PyData}, DqAll K H vs ds → Dq K H v d → DqAll K H (vs.set j v) (ds.set j d)
  | _, _, _, _, _, .nil, _ => .nil
  | _, _, 0, _, _, .cons _ t, h => .cons h t
  | _, _, j + 1, _, _, .cons a t, h => .cons a (dpAll_set j t h)
theorem fs_next : fST K G Ms fr Wx WL W tNext nxF W := fun env o h c f H σ D r hM k => by cases h; exact k f H σ r
theorem fs_break : fST K G Ms fr Wx W W tBreak bkF W1 := fun env o h c f H σ D r hM k => by cases h; exact k f H σ r
theorem fs_cont : fST K G Ms fr Wx W W tCont ctF W1 := fun env o h c f H σ D r hM k => by cases h; exact k f H σ r
theorem fs_seq (h1 : fST K G Ms fr Wx WL W t s W1) (h2 : fST K G Ms fr Wx WL W1 u s' W2) : fST K G Ms fr Wx WL W (tSeq t u) (seqF s s') W2 := fun env o h c f H σ D r hM k => by
  obtain ⟨o1, e1, h⟩ := bd h
  refine h1 env o1 e1 c f H σ { D with nx := u D } r hM ?_
  cases o1 with
  | nx e => exact fun f' H' σ' r' => h2 e o h c f' H' σ' D r' hM k
  | rt d e => cases h; exact k
  | bk e => cases h; exact k
  | ct e => cases h; exact k
  | ex y e => cases h; exact k
theorem fs_set {i : Nat} (h : fEV K G W [] p te F) (hi : i ∉ W := by decide) : fST K G Ms fr Wx WL W (tAsg te (gName i)) (setF i F) W := fun env o e c f H σ D r hM k => by
  obtain ⟨x, e1, e⟩ := mp e
  subst e
  refine h env x.1 x.2 e1 c f H σ r _ fun f1 v H1 a1 hv => k f1 H1 _ (a1.r.set hi ?_)
  unfold hidS at hv
  rw [cutf_nil] at hv
  exact hv
theorem fs_own {i : Nat} (h : fEF K G W (G i) p te F) (hi : i ∉ W := by decide) : fST K G Ms fr Wx WL W (tAsg te (gName i)) (ownF i F) (i :: W) := fun env o e c f H σ D r hM k => by
  obtain ⟨x, e1, e⟩ := bd e
  obtain ⟨y, e2, e⟩ := mp e
  subst e
  exact h env x.1 x.2 e1 c f H σ r _ fun f1 v A H1 a1 hA rh ho => k _ H1 _ (rh.addOwn hi (List.getElem?_eq_some_iff.mp e2).1 hA ho)
theorem unS {c : Fr} {f : Nat → List Addr} {H : Hp} {v : V} {d : PyData} (h : DO K (hidS c W [] f) H v d) : DO K (hid c.O W f) H v d := by
  unfold hidS at h
  rw [cutf_nil] at h
  exact h
theorem unSA {c : Fr} {f : Nat → List Addr} {H : Hp} {v : List V} {d : List PyData} (h : DA K (hidS c W [] f) H v d) : DA K (hid c.O W f) H v d := by
  unfold hidS at h
  rw [cutf_nil] at h
  exact h
theorem fs_app {i : Nat} (h : fEV K G W [] p te F) (hi : i ∈ W := by decide) (hG : G i = 1 := by decide) : fST K G Ms fr Wx WL W (tDrop (tBM K "list" rAppend (tVar i) (tCons te tNil))) (appF i F) W := fun env o e c f H σ D r hM k => by
  obtain ⟨x, e1, e⟩ := bd e
  obtain ⟨l, e2, e⟩ := bd e
  obtain ⟨ds, e3, e⟩ := bd e
  split at e
  case isFalse => cases e
  rename_i hl
  cases e
  obtain ⟨a, vs0, _, h1, _, h3, _, _⟩ := r.own1 hi hG
  refine ⟨_, h1, .inl ⟨rfl, _, SqL.of h3⟩, h env x.1 x.2 e1 c f H σ r _ fun f1 v H1 a1 hv => ?_⟩
  obtain ⟨a', vs, ds', g1, g2, g3, g4, g5⟩ := a1.r.own1 hi hG
  rw [h1] at g1
  cases g1
  obtain ⟨e4, e5⟩ := vr_eq e2
  rw [e4] at g2
  have e6 := gL_eq e3
  rw [e6] at g2
  cases g2
  refine ⟨a, vs, v, rfl, rfl, g3, by rw [dpAll_len g4]; exact szl hl, ?_⟩
  exact k f1 _ σ (a1.r.put1 hi hG h1 g5 (dpAll_app g4 (.cons (unS hv) .nil)))
theorem fs_item {i : Nat} {tk : TE} (h : fEV K G W [] p te F) (hk : fEV K G W [] p2 tk F2) (hi : i ∈ W := by decide) (hG : G i = 1 := by decide) : fST K G Ms fr Wx WL W (tAsg te (gSub (tVar i) tk rSetL)) (itmF i F F2) W := fun env o e c f H σ D r hM k => by
  obtain ⟨x, e1, e⟩ := bd e
  obtain ⟨y, e2, e⟩ := bd e
  obtain ⟨l, e3, e⟩ := bd e
  obtain ⟨ds, e4, e⟩ := bd e
  obtain ⟨z, e5, e⟩ := bd e
  obtain ⟨j, e6, e⟩ := mp e
  subst e
  refine h env x.1 x.2 e1 c f H σ r _ fun f1 v H1 a1 hv => ?_
  obtain ⟨a, _, _, h1, _, _, _, _⟩ := a1.r.own1 hi hG
  refine ⟨_, h1, hk x.2 y.1 y.2 e2 c f1 H1 σ a1.r _ fun f2 w H2 a2 hw => ?_⟩
  obtain ⟨a', vs, ds', g1, g2, g3, g4, g5⟩ := a2.r.own1 hi hG
  rw [h1] at g1
  cases g1
  obtain ⟨e7, e8⟩ := vr_eq e3
  rw [e7] at g2
  have e9 := gL_eq e4
  rw [e9] at g2
  cases g2
  rw [gI_eq e5] at hw
  have hlen := dpAll_len g4
  refine ⟨a, vs, z, j, rfl, dp_int hw, g3, by rw [hlen]; exact e6, ?_⟩
  refine k f2 _ σ (a2.r.put1 hi hG h1 g5 ?_)
  have hv2 := unS (a2.seen (.inl rfl) hv)
  exact dpAll_set j g4 hv2
theorem fs_ret (h : fEV K G Ms [] p te F) : fST K G Ms none Wx WL Ms (tRet te) (retF F) W1 := fun env o e c f H σ D r hM k => by
  obtain ⟨x, e1, e⟩ := mp e
  subst e
  exact h env x.1 x.2 e1 c f H σ r _ fun f1 v H1 a1 hv => k f1 H1 σ v a1.r (unS hv)
theorem fs_retE {n : Nat} (h : fEF K G Ms n p te F) : fST K G Ms (some n) Wx WL Ms (tRet te) (retF F) W1 := fun env o e c f H σ D r hM k => by
  obtain ⟨x, e1, e⟩ := mp e
  subst e
  exact h env x.1 x.2 e1 c f H σ r _ fun f1 v A H1 a1 hA rh ho => k f1 H1 σ v a1.r ⟨A, hA, rh, ho⟩
def outF (i : Nat) : Fs := fun env => (vr i env).map fun x => .rt x.1 (env.set i none)
/-- an own list is handed back -/
theorem fs_retO {i : Nat} (hi : i ∈ W := by decide) (hW : W.filter (fun j => decide (j ≠ i)) = Ms := by decide) (hM' : i ∉ Ms := by decide) : fST K G Ms (some (G i)) Wx WL W (tRet (tVar i)) (outF i) W1 := fun env o e c f H σ D r hM k => by
  obtain ⟨x, e1, e⟩ := mp e
  subst e
  have hW' : ∀ j, j ∈ Ms ↔ j ∈ W ∧ j ≠ i := fun j => by rw [← hW]; simp
  have hMM : ∀ q ∈ c.M, q.1 ≠ i := fun q hq z => hM' (by rw [← hM, ← z]; exact List.mem_map_of_mem hq)
  obtain ⟨v, d, h1, h2, hA, rh, ho⟩ := r.give hi hW' hMM
  obtain ⟨e2, _⟩ := vr_eq e1
  rw [h2] at e2
  cases e2
  exact ⟨v, h1, k f H σ v rh.unhide ⟨f i, hA, rh, ho⟩⟩
theorem fs_retN : fST K G Ms none Wx WL Ms tRetN rtnF W1 := fun env o e c f H σ D r hM k => by
  cases e
  exact k f H σ .non r .non
theorem fs_drop (h : fEV K G W S p te F) : fST K G Ms fr Wx WL W (tDrop te) (drpF F) W := fun env o e c f H σ D r hM k => by
  obtain ⟨x, e1, e⟩ := mp e
  subst e
  exact h env x.1 x.2 e1 c f H σ r _ fun f1 v H1 a1 hv => k f1 H1 σ a1.r
theorem fs_if (h : fET K G W p tt T) (h1 : fST K G Ms fr Wx WL W t s W1) (h2 : fST K G Ms fr Wx WL W u s' W1) : fST K G Ms fr Wx WL W (tIfS tt t u) (iffF T s s') W1 := fun env o e c f H σ D r hM k => by
  obtain ⟨x, e1, e⟩ := bd e
  refine h env x.1 x.2 e1 c f H σ r _ fun f1 H1 a1 => ?_
  split at e
  · rename_i hx
    rw [if_pos hx]
    exact h1 x.2 o e c f1 H1 σ D a1.r hM k
  · rename_i hx
    rw [if_neg hx]
    exact h2 x.2 o e c f1 H1 σ D a1.r hM k
theorem fs_aug {i : Nat} {g : Int → Int → Int} (h : fEV K G W [] p te F) (hi : i ∉ W := by decide) : fST K G Ms fr Wx WL W (tAug i te (ipI g)) (augF i g F) W := fun env o e c f H σ D r hM k => by
  obtain ⟨x, e1, e⟩ := bd e
  obtain ⟨a, e2, e⟩ := bd e
  obtain ⟨y, e3, e⟩ := bd e
  obtain ⟨b, e4, e⟩ := mp e
  subst e
  obtain ⟨g1, g2⟩ := vr_eq e1
  obtain ⟨v, h1, h2⟩ := r.val i _ g1 hi
  rw [gI_eq e2] at h2
  refine ⟨v, h1, h env y.1 y.2 e3 c f H σ r _ fun f1 w H1 a1 hw => ?_⟩
  rw [gI_eq e4] at hw
  exact ⟨a, b, dp_int h2, dp_int hw, k f1 H1 _ (a1.r.set hi (.int _))⟩
theorem fs_par {i j : Nat} {tl : TA} (h : fEA K G W [] p tl L) (hi : i ∉ W := by decide) (hj : j ∉ W := by decide) : fST K G Ms fr Wx WL W (tPar i j tl) (parF i j L) W := fun env o e c f H σ D r hM k => by
  obtain ⟨x, e1, e⟩ := bd e
  split at e
  · rename_i a b hx
    cases e
    refine h env x.1 x.2 e1 c f H σ r _ fun f1 vs H1 a1 hv => ?_
    have hv := unSA hv
    rw [hx] at hv
    cases hv with
    | cons q1 q2 =>
    cases q2 with
    | cons q2 q3 =>
    cases q3
    exact ⟨_, _, rfl, k f1 H1 _ ((a1.r.set hi q1).set hj q2)⟩
  · cases e
/-- an own tree becomes a plain list -/
theorem fs_dis (i : Nat) (h : fST K G Ms fr Wx WL W1 t s W2) (hi : i ∈ W := by decide) (hW : W.filter (fun j => decide (j ≠ i)) = W1 := by decide) (hM' : i ∉ Ms := by decide) : fST K G Ms fr Wx WL W t s W2 := fun env o e c f H σ D r hM k =>
  h env o e c f H σ D (r.disown hi (fun j => by rw [← hW]; simp) fun q hq z => hM' (by rw [← hM, ← z]; exact List.mem_map_of_mem hq)) hM k
/-! ### targets -/
def tpG (Gs : List PyData → Env → Option Env) : Fg := fun d env => (gT d).bind fun ds => Gs ds env
def nmG (i : Nat) : Fg := fun d env => some (env.set i (some d))
def niG : List PyData → Env → Option Env := fun ds env => match ds with
  | [] => some env
  | _ => none
def coG (Gg : Fg) (Gs : List PyData → Env → Option Env) : List PyData → Env → Option Env := fun ds env => match ds with
  | [] => none
  | d :: r => (Gg d env).bind fun e1 => Gs r e1
def fTG (K : PySem.W.Frag) (G : Nat → Nat) (W : List Nat) (g : TG) (Gg : Fg) (vs : List Nat) : Prop := ∀ d env env', Gg d env = some env' → (env'.length = env.length ∧ ∀ j, j ∉ vs → env'[j]? = env[j]?) ∧ ∀ c f H σ v, SR K G c W f H σ env → DO K (hid c.O W f) H v d →
  ∀ R : L2.St → Hp → Prop, (∀ σ', SR K G c W f H σ' env' → σ'.length = σ.length → (∀ j, j ∉ vs → σ'[j]? = σ[j]?) → R σ' H) → g v σ H R
def fTGs (K : PySem.W.Frag) (G : Nat → Nat) (W : List Nat) (n : Nat) (g : TGs) (Gs : List PyData → Env → Option Env) (vs : List Nat) : Prop := ∀ ds env env', Gs ds env = some env' → (ds.length = n ∧ env'.length = env.length ∧ ∀ j, j ∉ vs → env'[j]? = env[j]?) ∧ ∀ c f H σ us, SR K G c W f H σ env → DA K (hid c.O W f) H us ds →
  ∀ R : L2.St → Hp → Prop, (∀ σ', SR K G c W f H σ' env' → σ'.length = σ.length → (∀ j, j ∉ vs → σ'[j]? = σ[j]?) → R σ' H) → g us σ H R
theorem tg_name {i : Nat} (hi : i ∉ W := by decide) : fTG K G W (gName i) (nmG i) [i] := fun d env env' h => by
  cases h
  refine ⟨⟨by simp, fun j hj => List.getElem?_set_ne fun e => hj (by simp [e])⟩, fun c f H σ v r hv R q => ?_⟩
  exact q _ (r.set hi hv) (by simp) fun j hj => List.getElem?_set_ne fun e => hj (by simp [e])
theorem tg_tup {n : Nat} {g : TGs} {Gs : List PyData → Env → Option Env} {vs : List Nat} (h : fTGs K G W n g Gs vs) : fTG K G W (gTup K n g) (tpG Gs) vs := fun d env env' hh => by
  obtain ⟨ds, h1, hh⟩ := bd hh
  obtain ⟨⟨hn, hl⟩, h⟩ := h ds env env' hh
  refine ⟨hl, fun c f H σ v r hv R q => ?_⟩
  rw [gT_eq h1] at hv
  obtain ⟨a, us, rfl, h2, h3⟩ := dp_tup hv
  exact ⟨a, us, rfl, Evl.ex_t rm_le h2, by rw [dpAll_len h3]; exact hn, h c f H σ us r h3 R q⟩
theorem tg_nil : fTGs K G W 0 gNil niG [] := fun ds env env' h => by
  cases ds with
  | nil =>
    cases h
    refine ⟨⟨rfl, rfl, fun _ _ => rfl⟩, fun c f H σ us r hv R q => ?_⟩
    cases hv
    exact ⟨rfl, q σ r rfl fun _ _ => rfl⟩
  | cons => cases h
theorem tg_cons {n : Nat} {g : TG} {gs : TGs} {Gg : Fg} {Gs : List PyData → Env → Option Env} {vs ws : List Nat} (h : fTG K G W g Gg vs) (h2 : fTGs K G W n gs Gs ws) : fTGs K G W (n + 1) (gCons g gs) (coG Gg Gs) (vs ++ ws) := fun ds env env' hh => by
  cases ds with
  | nil => cases hh
  | cons d rr =>
    obtain ⟨e1, g1, hh⟩ := bd hh
    obtain ⟨⟨l1, k1⟩, h⟩ := h d env e1 g1
    obtain ⟨⟨n2, l2, k2⟩, h2⟩ := h2 rr e1 env' hh
    refine ⟨⟨by rw [List.length_cons, n2], l2.trans l1, fun j hj => (k2 j fun z => hj (List.mem_append_right _ z)).trans (k1 j fun z => hj (List.mem_append_left _ z))⟩, fun c f H σ us r hv R q => ?_⟩
    cases hv with
    | @cons v vs' _ _ hv1 hv2 =>
    refine ⟨v, vs', rfl, h c f H σ v r hv1 _ fun σ1 r1 l1 k1 => ?_⟩
    exact h2 c f H σ1 vs' r1 hv2 R fun σ2 r2 l2 k2 => q σ2 r2 (l2.trans l1) fun j hj => (k2 j fun z => hj (List.mem_append_right _ z)).trans (k1 j fun z => hj (List.mem_append_left _ z))
/-- a, b = .. -/
theorem fs_asg {g : TG} {Gg : Fg} {vs : List Nat} (h : fEV K G W [] p te F) (hg : fTG K G W g Gg vs) : fST K G Ms fr Wx WL W (tAsg te g) (asgF F Gg) W := fun env o e c f H σ D r hM k => by
  obtain ⟨x, e1, e⟩ := bd e
  obtain ⟨e2, e3, e⟩ := mp e
  subst e
  refine h env x.1 x.2 e1 c f H σ r _ fun f1 v H1 a1 hv => ?_
  exact (hg _ _ _ e3).2 c f1 H1 σ v a1.r (unS hv) _ fun σ' r' _ _ => k f1 H1 σ' r'
end
end Sv

namespace Sv
open PySem PySem.Spec PyProof.Rows L2 Pre Dv
/-! ## walks -/
structure WK (K : PySem.W.Frag) (O : List Addr) (H1 : Hp) (U : Hp → Prop) (ds : List PyData) (J : It) : Prop where
  w : ∃ G Y, Walk J ds.length G Y ∧ (∀ H2, U H2 → G H2) ∧ ∀ O2 k H2 x H3, Live O2 H2 → Same (rm O H1) (rm O2 H2) → Y k H2 x H3 → Same H2 H3 ∧ ∃ d, ds[k]? = some d ∧ DO K O2 H3 x d
def fIT (K : PySem.W.Frag) (G : Nat → Nat) (W : List Nat) (p : Bool) (wi : TI) (L : Fa) : Prop := ∀ env ds env', L env = some (ds, env') → ∀ c f H σ, SR K G c W f H σ env → ∀ R : It → Hp → Prop,
  (∀ J f' H1, Aft K G c W σ p f H env f' H1 env' → WK K (hid c.O W f') H1 (fun H2 => Same (rm (W.flatMap f') H1) H2) ds J → R J H1) → wi σ H R
def rdF (F : Fx) : Fa := fun env => (F env).bind fun x => (gR x.1).map fun ds => (ds, x.2)
def tuF (F : Fx) : Fa := fun env => (F env).bind fun x => (gT x.1).map fun ds => (ds, x.2)
def sgF (F : Fx) : Fa := fun env => (F env).bind fun x => (gS x.1).map fun z => (Dv.signs z, x.2)
def rg1 (F : Fx) : Fa := fun env => (F env).bind fun x => (gI x.1).bind fun n => if -1000000 ≤ n ∧ n ≤ 1000000 then some (rngD 0 n.toNat, x.2) else none
def rg2 (F F2 : Fx) : Fa := fun env => (F env).bind fun x => (F2 x.2).bind fun y => (gI x.1).bind fun lo => (gI y.1).bind fun n => if (-1000000 ≤ lo ∧ lo ≤ 1000000) ∧ -1000000 ≤ n ∧ n ≤ 1000000 then some (rngD lo (n - lo).toNat, y.2) else none
def enD (ds : List PyData) : List PyData := (List.range ds.length).zipWith (fun (k : Nat) d => .tuple [.int (k : Int), d]) ds
def enF (F : Fx) : Fa := fun env => (F env).bind fun x => (gR x.1).map fun ds => (enD ds, x.2)
def zpD (ds es : List PyData) : List PyData := ds.zipWith (fun d e => .tuple [d, e]) es
def zpF (F F2 : Fx) : Fa := fun env => (F env).bind fun x => (F2 x.2).bind fun y => (gR x.1).bind fun ds => (gR y.1).map fun es => (zpD ds es, y.2)
theorem y_at {K : PySem.W.Frag} {O : List Addr} {H1 : Hp} {vs : List V} {ds : List PyData} (h : DA K O H1 vs ds) : ∀ O2 k H2 x H3, Live O2 H2 → Same (rm O H1) (rm O2 H2) → YAt vs k H2 x H3 → Same H2 H3 ∧ ∃ d, ds[k]? = some d ∧ DO K O2 H3 x d := fun O2 k H2 x H3 _ s y => by
  obtain ⟨rfl, hx⟩ := y
  obtain ⟨d, hd, hv⟩ := dpAll_getV h hx
  exact ⟨Same.refl _, d, hd, dp_same s _ _ hv⟩
theorem y_pair {K : PySem.W.Frag} {O : List Addr} {H1 : Hp} {X Y : Nat → Option V} {ds : List PyData} (h : ∀ O2 k H2 x y, Same (rm O H1) (rm O2 H2) → X k = some x → Y k = some y → ∃ d e, ds[k]? = some (.tuple [d, e]) ∧ DO K O2 H2 x d ∧ DO K O2 H2 y e) :
    ∀ O2 k H2 x H3, Live O2 H2 → Same (rm O H1) (rm O2 H2) → YPair X Y k H2 x H3 → Same H2 H3 ∧ ∃ d, ds[k]? = some d ∧ DO K O2 H3 x d := fun O2 k H2 v H3 l s hy => by
  obtain ⟨T, x, y, rfl, hT, rfl, hx, hy⟩ := hy
  obtain ⟨d, e, h1, h2, h3⟩ := h O2 k H2 x y s hx hy
  exact ⟨same_new hT, _, h1, do_tup l hT (.cons h2 (.cons h3 .nil))⟩
theorem rng_get {lo : Int} {n k : Nat} (h : k < n) : (rngD lo n)[k]? = some (.int (lo + (k : Int))) := by
  unfold rngD
  rw [List.getElem?_map, List.getElem?_range h]
  rfl
theorem walk_lt {J : It} {n : Nat} {G : Hp → Prop} {Y : Nat → Hp → V → Hp → Prop} (w : Walk J n G Y) : Walk J n G (fun i H x H' => i < n ∧ Y i H x H') := ⟨w.goes, w.stops, fun i H x H' hi h y => ⟨hi, w.yields i H x H' hi h y⟩⟩
theorem en_get {ds : List PyData} {k : Nat} {d : PyData} (h : ds[k]? = some d) : (enD ds)[k]? = some (.tuple [.int k, d]) := by
  have hk := (List.getElem?_eq_some_iff.mp h).1
  unfold enD
  rw [List.getElem?_zipWith, List.getElem?_range hk, h]
section
variable {K : PySem.W.Frag} {G : Nat → Nat} {W : List Nat} {p p2 : Bool} {te tf : TE} {F F2 : Fx}
theorem sub_tree {c : Fr} {f : Nat → List Addr} : ∀ b ∈ W.flatMap f, b ∈ hid c.O W f := fun b hb => List.mem_append_right _ hb
theorem it_list (h : fEV K G W [] p te F) : fIT K G W p (iList K te) (rdF F) := fun env ds env' e c f H σ r R q => by
  obtain ⟨x, e1, e⟩ := bd e
  obtain ⟨d2, e2, e⟩ := mp e
  cases e
  refine h env x.1 x.2 e1 c f H σ r _ fun f1 v H1 a1 hv => ?_
  obtain ⟨a, vs, rfl, g1, g2⟩ := do_R (unS hv) e2
  exact ⟨a, rfl, ⟨vs, Same.seq rm_le g1⟩, q _ f1 H1 a1 ⟨_, _, by rw [← dpAll_len g2]; exact walk_list (xs := vs), fun H2 s2 => Same.seq ((rm_sub sub_tree).trans s2) g1, y_at g2⟩⟩
theorem it_tup (h : fEV K G W [] p te F) : fIT K G W p (iTup K te) (tuF F) := fun env ds env' e c f H σ r R q => by
  obtain ⟨x, e1, e⟩ := bd e
  obtain ⟨d2, e2, e⟩ := mp e
  cases e
  refine h env x.1 x.2 e1 c f H σ r _ fun f1 v H1 a1 hv => ?_
  have hv := unS hv
  rw [gT_eq e2] at hv
  obtain ⟨a, vs, rfl, g1, g2⟩ := dp_tup hv
  exact ⟨a, rfl, ⟨vs, Evl.ex_t rm_le g1⟩, q _ f1 H1 a1 ⟨_, _, by rw [← dpAll_len g2]; exact walk_tup (xs := vs), fun H2 s2 => Evl.ex_t ((rm_sub sub_tree).trans s2) g1, y_at g2⟩⟩
theorem it_str (h : fEV K G W [] p te F) : fIT K G W p (iStr te) (sgF F) := fun env ds env' e c f H σ r R q => by
  obtain ⟨x, e1, e⟩ := bd e
  obtain ⟨z, e2, e⟩ := mp e
  cases e
  refine h env x.1 x.2 e1 c f H σ r _ fun f1 v H1 a1 hv => ?_
  have hv := unS hv
  rw [gS_eq e2] at hv
  have hlen : (Dv.signs z).length = z.cps.size := by simp [Dv.signs]
  refine ⟨z, dp_str hv, q _ f1 H1 a1 ⟨_, _, by rw [hlen]; exact walk_str (z := z), fun H2 s2 => trivial, fun O2 k H2 x H3 _ _ hy => ?_⟩⟩
  obtain ⟨rfl, k2, hc, rfl⟩ := hy
  have hc' : z.cps.toList[k]? = some k2 := by simpa using hc
  refine ⟨Same.refl _, .str (tx [k2]), ?_, .str _⟩
  unfold Dv.signs
  rw [List.getElem?_map, hc']
  rfl
theorem it_rg1 (h : fEV K G W [] p te F) : fIT K G W p (iRng1 (tCons te tNil)) (rg1 F) := fun env ds env' e c f H σ r R q => by
  obtain ⟨x, e1, e⟩ := bd e
  obtain ⟨n, e2, e⟩ := bd e
  split at e
  · rename_i hn
    cases e
    refine h env x.1 x.2 e1 c f H σ r _ fun f1 v H1 a1 hv => ?_
    have hv := unS hv
    rw [gI_eq e2] at hv
    have hlen : (rngD 0 n.toNat).length = n.toNat := by simp [rngD]
    refine ⟨n, by rw [dp_int hv], by omega, by omega, q _ f1 H1 a1 ⟨_, _, by rw [hlen]; exact walk_lt walk_range, fun H2 s2 => trivial, fun O2 k H2 x H3 _ _ hy => ?_⟩⟩
    obtain ⟨hk, rfl, rfl⟩ := hy
    exact ⟨Same.refl _, _, rng_get hk, .int _⟩
  · cases e
theorem it_rg2 (h : fEV K G W [] p te F) (h' : fEV K G W [] p2 tf F2) : fIT K G W (p && p2) (iRng2 (tCons te (tCons tf tNil))) (rg2 F F2) := fun env ds env' e c f H σ r R q => by
  obtain ⟨x, e1, e⟩ := bd e
  obtain ⟨y, e1', e⟩ := bd e
  obtain ⟨lo, e2, e⟩ := bd e
  obtain ⟨n, e3, e⟩ := bd e
  split at e
  · rename_i hn
    cases e
    refine h env x.1 x.2 e1 c f H σ r _ fun f1 v H1 a1 hv => h' x.2 y.1 y.2 e1' c f1 H1 σ a1.r _ fun f2 w H2 a2 hw => ?_
    have hv := unS hv
    have hw := unS hw
    rw [gI_eq e2] at hv
    rw [gI_eq e3] at hw
    have hlen : (rngD lo (n - lo).toNat).length = (n - lo).toNat := by simp [rngD]
    refine ⟨lo, n, by rw [dp_int hv, dp_int hw], by omega, q _ f2 H2 (a1.trans a2) ⟨_, _, by rw [hlen]; exact walk_lt walk_range, fun H2 s2 => trivial, fun O2 k H2 x H3 _ _ hy => ?_⟩⟩
    obtain ⟨hk, rfl, rfl⟩ := hy
    exact ⟨Same.refl _, _, rng_get hk, .int _⟩
  · cases e
theorem it_enum (h : fEV K G W [] p te F) : fIT K G W p (iEnum K (tCons te tNil)) (enF F) := fun env es env' e c f H σ r R q => by
  obtain ⟨x, e1, e⟩ := bd e
  obtain ⟨ds, e2, e⟩ := mp e
  cases e
  refine h env x.1 x.2 e1 c f H σ r _ fun f1 v H1 a1 hv => ?_
  obtain ⟨a, vs, rfl, g1, g2⟩ := do_R (unS hv) e2
  refine ⟨a, vs, rfl, Same.seq rm_le g1, q _ f1 H1 a1 ⟨fun H2 => SqL K H2 a vs, YPair (fun i => some (.int (i : Nat))) (fun i => vs[i]?), ?_, fun H2 s2 => Same.seq ((rm_sub sub_tree).trans s2) g1, y_pair fun O2 k H2 x y s2 hx hy => ?_⟩⟩
  · unfold enD
    rw [List.length_zipWith, List.length_range, Nat.min_self, ← dpAll_len g2]
    exact walk_enum (xs := vs)
  · cases hx
    obtain ⟨d, hd, hv⟩ := dpAll_getV g2 hy
    exact ⟨_, d, en_get hd, .int _, dp_same s2 _ _ hv⟩
theorem zp_get {ds es : List PyData} {k : Nat} {d e : PyData} (h : ds[k]? = some d) (h2 : es[k]? = some e) : (zpD ds es)[k]? = some (.tuple [d, e]) := by
  unfold zpD
  rw [List.getElem?_zipWith, h, h2]
theorem it_zip (h : fEV K G W [] p te F) (h' : fEV K G W [] p2 tf F2) : fIT K G W (p && p2) (RZ.iZipA K (tCons te (tCons tf tNil))) (zpF F F2) := fun env ds env' e c f H σ r R q => by
  obtain ⟨x, e1, e⟩ := bd e
  obtain ⟨y, e1', e⟩ := bd e
  obtain ⟨d1, e2, e⟩ := bd e
  obtain ⟨d2, e3, e⟩ := mp e
  cases e
  refine h env x.1 x.2 e1 c f H σ r _ fun f1 v H1 a1 hv => h' x.2 y.1 y.2 e1' c f1 H1 σ a1.r _ fun f2 w H2 a2 hw => ?_
  obtain ⟨a, vs, rfl, g1, g2⟩ := do_R (unS (a2.seen (.inl rfl) hv)) e2
  obtain ⟨b, ws, rfl, g3, g4⟩ := do_R (unS hw) e3
  refine ⟨a, b, vs, ws, rfl, .inl ⟨Same.seq rm_le g1, Same.seq rm_le g3, q _ f2 H2 (a1.trans a2) ⟨fun H2 => SqL K H2 a vs ∧ SqL K H2 b ws, YPair (fun i => vs[i]?) (fun i => ws[i]?), ?_, fun H2 s2 => ⟨Same.seq ((rm_sub sub_tree).trans s2) g1, Same.seq ((rm_sub sub_tree).trans s2) g3⟩, y_pair fun O2 k H2 x y s2 hx hy => ?_⟩⟩⟩
  · refine walk_zip ?_
    unfold zpD
    rw [List.length_zipWith, dpAll_len g2, dpAll_len g4]
  · obtain ⟨d, hd, hv⟩ := dpAll_getV g2 hx
    obtain ⟨e, he, hw⟩ := dpAll_getV g4 hy
    exact ⟨d, e, zp_get hd he, dp_same s2 _ _ hv, dp_same s2 _ _ hw⟩
end
/-! ## loops -/
def loopF (Gg : Fg) (s : Fs) : List PyData → Fs
  | [], e => some (.nx e)
  | d :: ds, e => (Gg d e).bind fun e1 => (s e1).bind fun o => match o with
    | .nx e2 => loopF Gg s ds e2
    | .ct e2 => loopF Gg s ds e2
    | .bk e2 => some (.nx e2)
    | .rt d e2 => some (.rt d e2)
    | .ex d e2 => some (.ex d e2)
def forF (L : Fa) (Gg : Fg) (s : Fs) : Fs := fun env => (L env).bind fun x => loopF Gg s x.1 x.2
def whlF (T : Ft) (s : Fs) : Nat → Fs
  | 0, _ => none
  | n + 1, e => (T e).bind fun b => if b.1 = true then (s b.2).bind fun o => match o with
    | .nx e2 => whlF T s n e2
    | .ct e2 => whlF T s n e2
    | .bk e2 => some (.nx e2)
    | .rt d e2 => some (.rt d e2)
    | .ex d e2 => some (.ex d e2)
    else some (.nx b.2)
section
variable {K : PySem.W.Frag} {G : Nat → Nat} {Ms : List Nat} {fr : Option Nat} {Wx : WX} {WL W W1 W2 : List Nat} {S : List Nat} {p p2 p3 : Bool} {te ta : TE} {tt : TT} {t u tb : TS} {s s' : Fs} {F F2 F3 : Fx} {L : Fa} {T : Ft} {wi : TI} {g : TG} {Gg : Fg} {vs us : List Nat}
/-- in a loop what stood at its beginning stays -/
def Fr.at (c : Fr) (W : List Nat) (f : Nat → List Addr) (H : Hp) : Fr := { c with B := rm (W.flatMap f) H }
theorem SR.inB {c : Fr} {f : Nat → List Addr} {H : Hp} {σ : L2.St} {env : Env} (r : SR K G c W f H σ env) : SR K G (c.at W f H) W f H σ env :=
  ⟨rm_le, r.live, fun i hi a ha => ⟨if_pos (List.mem_flatMap.mpr ⟨i, hi, ha⟩), (r.new i hi a ha).2⟩, r.dis, r.len, r.val, r.own, r.fix⟩
theorem SR.leB {c : Fr} {f : Nat → List Addr} {H : Hp} {σ : L2.St} {env : Env} (r : SR K G c W f H σ env) : Same c.B (c.at W f H).B := fun b o e => by
  show rm (W.flatMap f) H b = some o
  rw [rm_at]
  · exact r.base _ _ e
  · intro z
    obtain ⟨i, hi, z⟩ := List.mem_flatMap.mp z
    rw [(r.new i hi b z).1] at e
    cases e
theorem SR.outB {c : Fr} {B' : Hp} {f : Nat → List Addr} {H : Hp} {σ : L2.St} {env : Env} (r : SR K G { c with B := B' } W f H σ env) (s : Same c.B B') : SR K G c W f H σ env :=
  ⟨s.trans r.base, r.live, fun i hi a ha => ⟨s.free (r.new i hi a ha).1, (r.new i hi a ha).2⟩, r.dis, r.len, r.val, r.own, r.fix⟩
theorem RV.outB {c : Fr} {B' : Hp} {f : Nat → List Addr} {H : Hp} {σ : L2.St} {env : Env} {v : V} {d : PyData} (h : RV K G Ms fr { c with B := B' } f H σ env v d) (s : Same c.B B') : RV K G Ms fr c f H σ env v d := by
  unfold RV at h ⊢
  cases fr with
  | none => exact h
  | some n =>
    obtain ⟨A, hA, rh, ho⟩ := h
    exact ⟨A, fun a ha => ⟨(hA a ha).1, s.free (hA a ha).2⟩, SR.outB (c := c.hide A) (B' := B') rh s, ho⟩
theorem hid_moved {c : Fr} {f f2 : Nat → List Addr} {H1 H2 : Hp} {σ2 : L2.St} {env2 : Env} (r2 : SR K G (c.at W f H1) W f2 H2 σ2 env2) : Same (rm (hid c.O W f) H1) (rm (hid c.O W f2) H2) := fun b o hb => by
  obtain ⟨m1, m2⟩ := rm_some hb
  have hb2 : (c.at W f H1).B b = some o := by
    show rm (W.flatMap f) H1 b = some o
    rw [rm_at fun z => m1 (List.mem_append_right _ z)]
    exact m2
  rw [rm_at]
  · exact r2.base _ _ hb2
  · intro z
    rcases mem_hid.mp z with z | ⟨i, hi, z⟩
    · exact m1 (mem_hid.mpr (.inl z))
    · rw [(r2.new i hi b z).1] at hb2
      cases hb2
theorem fs_for (hi : fIT K G W p wi L) (hg : fTG K G W g Gg vs) (hb : fST K G Ms fr Wx W W tb s W) : fST K G Ms fr Wx WL W (tFor wi g tb) (forF L Gg s) W := fun env o e c f H σ D r hM k => by
  obtain ⟨x, e1, hl⟩ := bd e
  refine hi env x.1 x.2 e1 c f H σ r _ fun J f1 H1 a1 ⟨GG, Y, w, hG, hY⟩ => ?_
  have r1 := a1.r
  have le := r1.leB
  refine for_it w (fun kk σ' H' => ∃ f2 env2, SR K G (c.at W f1 H1) W f2 H' σ' env2 ∧ loopF Gg s (x.1.drop kk) env2 = some o) ⟨f1, x.2, r1.inB, hl⟩ (fun kk σ' H' _ ⟨f2, env2, r2, _⟩ => hG H' r2.base) (fun kk y σ2 H2 H3 hk hP hy => ?_) (fun σ' H' hP => ?_)
  · obtain ⟨f2, env2, r2, i2⟩ := hP
    obtain ⟨s3, d, hd, hx⟩ := hY (hid c.O W f2) kk H2 y H3 r2.live (hid_moved r2) hy
    have ed : x.1.drop kk = d :: x.1.drop (kk + 1) := by
      rw [List.drop_eq_getElem_cons hk]
      congr 1
      rw [List.getElem?_eq_getElem hk] at hd
      exact Option.some.inj hd
    rw [ed] at i2
    obtain ⟨e3, g1, i2⟩ := bd i2
    obtain ⟨o1, g2, i2⟩ := bd i2
    refine (hg d env2 e3 g1).2 (c.at W f1 H1) f2 H3 σ2 y (r2.same s3) hx _ fun σ3 r3 _ _ => ?_
    refine hb e3 o1 g2 (c.at W f1 H1) f2 H3 σ3 _ r3 hM ?_
    cases o1 with
    | nx e2 => exact fun f' H' σ' r' => ⟨f', e2, r', i2⟩
    | ct e2 => exact fun f' H' σ' r' => ⟨f', e2, r', i2⟩
    | bk e2 => cases i2; exact fun f' H' σ' r' => k f' H' σ' (SR.outB (c := c) r' le)
    | rt d e2 => cases i2; exact fun f' H' σ' v r' hv => k f' H' σ' v (SR.outB (c := c) r' le) (RV.outB (c := c) hv le)
    | ex y e2 => cases i2; exact fun f' H' σ' cls dd r' hx => k f' H' σ' cls dd (SR.outB (c := c) r' le) hx
  · obtain ⟨f2, env2, r2, i2⟩ := hP
    rw [List.drop_length] at i2
    cases i2
    exact k f2 H' σ' (SR.outB (c := c) r2 le)
theorem fs_while (n : Nat) (hc : fET K G W p tt T) (hb : fST K G Ms fr Wx W W tb s W) : fST K G Ms fr Wx WL W (tWhile tt tb) (whlF T s n) W := fun env o e c f H σ D r hM k => by
  refine ⟨fun m σ' H' => ∃ f2 env2, SR K G c W f2 H' σ' env2 ∧ whlF T s m env2 = some o, ⟨n, f, env, r, e⟩, fun m σ' H' hm => ?_⟩
  obtain ⟨f2, env2, r2, h2⟩ := hm
  cases m with
  | zero => cases h2
  | succ m =>
    obtain ⟨b, g1, h2⟩ := bd h2
    refine hc env2 b.1 b.2 g1 c f2 H' σ' r2 _ fun f3 H3 a3 => ?_
    by_cases hb1 : b.1 = true
    · rw [if_pos hb1] at h2 ⊢
      obtain ⟨o1, g2, h2⟩ := bd h2
      refine ⟨fun σ4 H4 => ∃ f4 env4, SR K G c W f4 H4 σ4 env4 ∧ whlF T s m env4 = some o, fun σ4 H4 h4 => ⟨m, Nat.lt_succ_self m, h4⟩, ?_⟩
      refine hb b.2 o1 g2 c f3 H3 σ' _ a3.r hM ?_
      cases o1 with
      | nx e2 => exact fun f' H' σ' r' => ⟨f', e2, r', h2⟩
      | ct e2 => exact fun f' H' σ' r' => ⟨f', e2, r', h2⟩
      | bk e2 => cases h2; exact k
      | rt d e2 => cases h2; exact k
      | ex y e2 => cases h2; exact k
    · rw [if_neg hb1] at h2 ⊢
      cases h2
      exact k f3 H3 σ' a3.r
end
end Sv

namespace Sv
open PySem PySem.Spec PyProof.Rows L2 Pre Dv
/-! ## comprehensions -/
theorem rm_eq {O O' : List Addr} {H : Hp} (h : ∀ b, b ∈ O ↔ b ∈ O') : rm O H = rm O' H := by
  funext b
  unfold rm
  by_cases e : b ∈ O
  · rw [if_pos e, if_pos ((h b).1 e)]
  · rw [if_neg e, if_neg fun z => e ((h b).2 z)]
theorem ow_eq {K : PySem.W.Frag} {O O' : List Addr} {H : Hp} (h : ∀ b, b ∈ O ↔ b ∈ O') {n : Nat} {v : V} {d : PyData} {A : List Addr} (o : Ow K O H n v d A) : Ow K O' H n v d A := ow_keep (by rw [rm_eq h]; exact Same.refl _) _ _ _ _ o fun _ _ _ e => e
section
variable {K : PySem.W.Frag} {G : Nat → Nat} {W : List Nat}
theorem hid_iff {O O' : List Addr} {f : Nat → List Addr} (h : ∀ b, b ∈ O ↔ b ∈ O') : ∀ b, b ∈ hid O W f ↔ b ∈ hid O' W f := fun b => by rw [mem_hid, mem_hid, h b]
theorem SR.setO {c : Fr} {O' : List Addr} {f : Nat → List Addr} {H : Hp} {σ : L2.St} {env : Env} (r : SR K G c W f H σ env) (h : ∀ b, b ∈ c.O ↔ b ∈ O') : SR K G { c with O := O' } W f H σ env := by
  have hh := hid_iff (W := W) (f := f) h
  refine ⟨r.base, fun b hb => r.live b ((hh b).2 hb), fun i hi a ha => ⟨(r.new i hi a ha).1, fun z => (r.new i hi a ha).2 ((h a).2 z)⟩, r.dis, r.len, fun i d e n => ?_, fun i hi => ?_, r.fix⟩
  · obtain ⟨v, h1, h2⟩ := r.val i d e n
    refine ⟨v, h1, ?_⟩
    unfold DO at h2 ⊢
    rw [rm_eq hh] at h2
    exact h2
  · obtain ⟨v, d, h1, h2, h3⟩ := r.own i hi
    exact ⟨v, d, h1, h2, ow_eq hh h3⟩
theorem SR.mutHid {c : Fr} {f : Nat → List Addr} {H : Hp} {σ : L2.St} {env : Env} {D : Addr} {o : HO} (r : SR K G c W f H σ env) (h : D ∈ c.O) (hB : c.B D = none) : SR K G c W f (upd H D o) σ env := by
  have hm : D ∈ hid c.O W f := mem_hid.mpr (.inl h)
  refine ⟨fun b u e => ?_, live_mut r.live, r.new, r.dis, r.len, fun i d e n => ?_, fun i hi => ?_, r.fix⟩
  · rw [upd_ne fun z => by rw [z, hB] at e; cases e]
    exact r.base _ _ e
  · obtain ⟨v, h1, h2⟩ := r.val i d e n
    exact ⟨v, h1, dp_same (rm_mut hm) _ _ h2⟩
  · obtain ⟨v, d, h1, h2, h3⟩ := r.own i hi
    refine ⟨v, d, h1, h2, ow_keep (rm_mut hm) _ _ _ _ h3 fun a ha u e => ?_⟩
    rw [upd_ne fun z => (r.new i hi a ha).2 (by rw [z]; exact h)]
    exact e
/-! the block's own slots -/
def wipeE : Env → List Nat → Env
  | e, [] => e
  | e, v :: vs => (wipeE e vs).set v none
def restE (e0 : Env) : Env → List Nat → Env
  | e, [] => e
  | e, v :: vs => (restE e0 e vs).set v ((e0[v]?).join)
theorem sr_wipe {c : Fr} {f : Nat → List Addr} {H : Hp} {σ : L2.St} {env : Env} (r : SR K G c W f H σ env) : ∀ {vs : List Nat}, (∀ v ∈ vs, v ∉ W) → SR K G c W f H (wipe σ vs) (wipeE env vs)
  | [], _ => r
  | v :: vs, h => (sr_wipe r fun w hw => h w (List.mem_cons_of_mem _ hw)).unset (h v List.mem_cons_self) none
theorem wipe_out {σ : L2.St} {j : Nat} : ∀ {vs : List Nat}, j ∉ vs → (wipe σ vs)[j]? = σ[j]?
  | [], _ => rfl
  | v :: vs, h => by
    unfold wipe
    rw [List.getElem?_set_ne fun e => h (by simp [e])]
    exact wipe_out fun z => h (List.mem_cons_of_mem _ z)
theorem wipe_in {σ : L2.St} {j : Nat} : ∀ {vs : List Nat}, j ∈ vs → j < σ.length → (wipe σ vs)[j]? = some none
  | [], h, _ => nomatch h
  | v :: vs, h, hl => by
    unfold wipe
    by_cases e : v = j
    · subst e
      exact List.getElem?_set_self (by rw [wipe_length]; exact hl)
    · rw [List.getElem?_set_ne e]
      exact wipe_in ((List.mem_cons.mp h).resolve_left fun z => e z.symm) hl
theorem wipe_eq {σ σ2 : L2.St} {vs us : List Nat} (hl : σ2.length = (wipe σ vs).length) (h : ∀ j, j ∉ us → σ2[j]? = (wipe σ vs)[j]?) (hs : ∀ j ∈ us, j ∈ vs) : wipe σ2 vs = wipe σ vs := by
  rw [wipe_length] at hl
  apply List.ext_getElem?
  intro j
  by_cases hj : j ∈ vs
  · by_cases hlt : j < σ.length
    · rw [wipe_in hj hlt, wipe_in hj (by rw [hl]; exact hlt)]
    · rw [List.getElem?_eq_none (by rw [wipe_length, hl]; omega), List.getElem?_eq_none (by rw [wipe_length]; omega)]
  · rw [wipe_out hj, h j fun z => hj (hs j z)]
theorem rest_len {e0 e : Env} : ∀ {vs : List Nat}, (restE e0 e vs).length = e.length
  | [] => rfl
  | v :: vs => by
    unfold restE
    rw [List.length_set, rest_len]
theorem rest_out {e0 e : Env} {j : Nat} : ∀ {vs : List Nat}, j ∉ vs → (restE e0 e vs)[j]? = e[j]?
  | [], _ => rfl
  | v :: vs, h => by
    unfold restE
    rw [List.getElem?_set_ne fun e => h (by simp [e])]
    exact rest_out fun z => h (List.mem_cons_of_mem _ z)
theorem rest_in {e0 e : Env} {j : Nat} : ∀ {vs : List Nat}, j ∈ vs → ∀ {d : PyData}, (restE e0 e vs)[j]? = some (some d) → e0[j]? = some (some d)
  | [], h, _, _ => nomatch h
  | v :: vs, h, d, hd => by
    unfold restE at hd
    by_cases e1 : v = j
    · subst e1
      rw [List.getElem?_set_self'] at hd
      cases he : (restE e0 e vs)[v]? with
      | none => rw [he] at hd; cases hd
      | some x =>
        rw [he] at hd
        have : (e0[v]?).join = some d := by simpa using hd
        cases h0 : e0[v]? with
        | none => rw [h0] at this; cases this
        | some y => rw [h0] at this; simpa using this
    · rw [List.getElem?_set_ne e1] at hd
      exact rest_in ((List.mem_cons.mp h).resolve_left fun z => e1 z.symm) hd
theorem SR.rest {c c2 : Fr} {f1 f2 : Nat → List Addr} {H1 H2 : Hp} {σ : L2.St} {env1 env2 : Env} {vs : List Nat} (r1 : SR K G c W f1 H1 σ env1) (r2 : SR K G c2 W f2 H2 (wipe σ vs) env2) (s : Same (rm (hid c.O W f1) H1) (rm (hid c2.O W f2) H2)) (hv : ∀ v ∈ vs, v ∉ W) : SR K G c2 W f2 H2 σ (restE env1 env2 vs) := by
  refine ⟨r2.base, r2.live, r2.new, r2.dis, ?_, fun j d hd hj => ?_, fun j hj => ?_, fun q hq => ?_⟩
  · rw [rest_len, ← r2.len, wipe_length]
  · by_cases hjv : j ∈ vs
    · obtain ⟨v, h1, h2⟩ := r1.val j d (rest_in hjv hd) hj
      exact ⟨v, h1, dp_same s _ _ h2⟩
    · rw [rest_out hjv] at hd
      obtain ⟨v, h1, h2⟩ := r2.val j d hd hj
      rw [wipe_out hjv] at h1
      exact ⟨v, h1, h2⟩
  · have hjv : j ∉ vs := fun z => hv j z hj
    obtain ⟨v, d, h1, h2, h3⟩ := r2.own j hj
    rw [wipe_out hjv] at h1
    exact ⟨v, d, h1, by rw [rest_out hjv]; exact h2, h3⟩
  · obtain ⟨h1, h2⟩ := r2.fix q hq
    rw [wipe_out fun z => hv q.1 z h1] at h2
    exact ⟨h1, h2⟩
end
theorem owA_snoc {P : V → PyData → List Addr → Prop} {vs : List V} {ds : List PyData} {A B : List Addr} {v : V} {d : PyData} (h : OwA P vs ds A) (hv : P v d B) (hd : ∀ a ∈ A, a ∉ B) : OwA P (vs ++ [v]) (ds ++ [d]) (A ++ B) := by
  induction h with
  | nil =>
    have : OwA P [v] [d] (B ++ []) := .cons hv .nil fun a _ z => nomatch z
    rw [List.append_nil] at this
    exact this
  | @cons v0 vs0 d0 ds0 A0 A1 h1 h2 h3 ih =>
    rw [List.append_assoc]
    refine .cons h1 (ih fun a ha => hd a (List.mem_append_right _ ha)) fun a ha z => ?_
    rcases List.mem_append.mp z with z | z
    · exact h3 a ha z
    · exact hd a (List.mem_append_left _ ha) z
def lcL (vs : List Nat) (Gg : Fg) (T : Ft) (F : Fx) : List PyData → Fa
  | [], e => some ([], e)
  | d :: ds, e => (Gg d e).bind fun e1 => (T e1).bind fun b => if b.1 = true then (F b.2).bind fun y => (lcL vs Gg T F ds (wipeE y.2 vs)).map fun r => (y.1 :: r.1, r.2) else lcL vs Gg T F ds (wipeE b.2 vs)
def lcF (vs : List Nat) (L : Fa) (Gg : Fg) (T : Ft) (F : Fx) : Fx := fun env => (L env).bind fun x => if x.1.length ≤ 50000 then (lcL vs Gg T F x.1 (wipeE x.2 vs)).map fun r => (.list r.1, restE x.2 r.2 vs) else none
def yesT : Ft := fun env => some (true, env)
section
variable {K : PySem.W.Frag} {G : Nat → Nat} {W : List Nat} {p p2 p3 : Bool} {te : TE} {tt : TT} {F : Fx} {L : Fa} {T : Ft} {wi : TI} {g : TG} {Gg : Fg} {vs us : List Nat}
theorem ft_yes : fET K G W true tYes yesT := fun env b env' e c f H σ r Q q => by
  cases e
  exact q f H (.rfl r)
theorem ef_zero (h : fEV K G W [] p te F) : fEF K G W 0 p te F := fun env d env' e c f H σ r Q q => h env d env' e c f H σ r Q fun f' v H2 a1 hv => q f' v [] H2 a1 (fun _ z => nomatch z) a1.r ⟨rfl, unS hv⟩
theorem lc_moved {c : Fr} {A : List Addr} {f f2 : Nat → List Addr} {H1 H2 : Hp} {σ2 : L2.St} {env2 : Env} (r2 : SR K G ((c.at W f H1).hide A) W f2 H2 σ2 env2) (hA : ∀ a ∈ A, (c.at W f H1).B a = none) : Same (rm (hid c.O W f) H1) (rm (hid ((c.at W f H1).hide A).O W f2) H2) := fun b o hb => by
  obtain ⟨m1, m2⟩ := rm_some hb
  have hb2 : (c.at W f H1).B b = some o := by
    show rm (W.flatMap f) H1 b = some o
    rw [rm_at fun z => m1 (List.mem_append_right _ z)]
    exact m2
  rw [rm_at]
  · exact r2.base _ _ hb2
  · intro z
    rcases mem_hide.mp z with z | z
    · rw [hA b z] at hb2
      cases hb2
    · rcases mem_hid.mp z with z | ⟨i, hi, z⟩
      · exact m1 (mem_hid.mpr (.inl z))
      · have h0 : (c.at W f H1).B b = none := (r2.new i hi b z).1
        rw [h0] at hb2
        cases hb2
theorem ef_lc {n : Nat} (hi : fIT K G W p wi L) (hg : fTG K G W g Gg us) (ht : fET K G W p2 tt T) (he : fEF K G W n p3 te F) (hv : ∀ v ∈ vs, v ∉ W := by decide) (hs : ∀ v ∈ us, v ∈ vs := by decide) : fEF K G W (n + 1) false (tLc wi g tt te vs) (lcF vs L Gg T F) := fun env d env' e c f H σ r Q q => by
  obtain ⟨x, e1, e⟩ := bd e
  split at e
  case isFalse => cases e
  rename_i hn
  obtain ⟨res, hl, e⟩ := mp e
  cases e
  refine hi env x.1 x.2 e1 c f H σ r _ fun J f1 H1 a1 ⟨GG, Y, w, hG, hY⟩ => ?_
  have r1 := a1.r
  have le := r1.leB
  intro D hD
  have hDB : (c.at W f1 H1).B D = none := r1.inB.base.free hD
  refine lc_it w (fun k H' => ∃ (acc : List PyData) (ws : List V) (A : List Addr) (f2 : Nat → List Addr) (env2 : Env) (rr : List PyData), SR K G ((c.at W f1 H1).hide (D :: A)) W f2 H' (wipe σ vs) env2 ∧ H' D = some (.lst ws) ∧ OwA (Ow K (hid ((c.at W f1 H1).hide (D :: A)).O W f2) H' n) ws acc A ∧ D ∉ A ∧ (∀ a ∈ A, a ∉ c.O ∧ (c.at W f1 H1).B a = none) ∧
      acc.length ≤ k ∧ lcL vs Gg T F (x.1.drop k) env2 = some (rr, res.2) ∧ res.1 = acc ++ rr)
    ⟨[], [], [], f1, wipeE x.2 vs, res.1, (sr_wipe r1.inB hv).hideNew hD, upd_same, .nil, by simp, (fun _ z => nomatch z), Nat.le_refl _, hl, rfl⟩ (fun k H' _ ⟨_, _, _, _, _, _, r2, _⟩ => hG H' r2.base) (fun k y H2 H3 hk hP hy => ?_) (fun H' hP => ?_)
  · obtain ⟨acc, ws, A, f2, env2, rr, r2, h2, h3, hDA, hA, h4, h5, h6⟩ := hP
    have hAB : ∀ a ∈ D :: A, (c.at W f1 H1).B a = none := fun a ha => by
      rcases List.mem_cons.mp ha with z | z
      · rw [z]; exact hDB
      · exact (hA a z).2
    obtain ⟨s3, d, hd, hx⟩ := hY _ k H2 y H3 r2.live (lc_moved r2 hAB) hy
    have ed : x.1.drop k = d :: x.1.drop (k + 1) := by
      rw [List.drop_eq_getElem_cons hk]
      congr 1
      rw [List.getElem?_eq_getElem hk] at hd
      exact Option.some.inj hd
    rw [ed] at h5
    obtain ⟨e3, g1, h5⟩ := bd h5
    obtain ⟨b, g2, h5⟩ := bd h5
    have r3 := r2.same s3
    refine (hg d env2 e3 g1).2 _ f2 H3 _ y r3 hx _ fun σ3 r4 l4 k4 => ⟨wipe_eq l4 k4 hs, ?_⟩
    have hw := wipe_eq l4 k4 hs
    -- evaluated with all that stands now as what stays
    generalize hcc : ((c.at W f1 H1).hide (D :: A)) = cc at *
    have hccO : cc.O = D :: A ++ c.O := by rw [← hcc]; rfl
    have r5 := r4.inB
    have le5 := r4.leB
    have hDn : ∀ {f' : Nat → List Addr} {Hx : Hp} {σx : L2.St} {ex : Env}, SR K G cc W f' Hx σx ex → ∀ a ∈ D :: A, a ∉ W.flatMap f' := fun rx a ha z => by
      obtain ⟨i, hi, z⟩ := List.mem_flatMap.mp z
      refine (rx.new i hi a z).2 ?_
      rw [hccO]
      exact List.mem_append_left _ ha
    refine ht e3 b.1 b.2 g2 (cc.at W f2 H3) f2 H3 σ3 r5 _ fun f3 H4 a4 => ?_
    have keep : ∀ {f' : Nat → List Addr} {Hx : Hp} {σx : L2.St} {ex : Env} {A2 : List Addr}, SR K G ((cc.at W f2 H3).hide A2) W f' Hx σx ex → ∀ a ∈ D :: A, ∀ o, H3 a = some o → Hx a = some o := fun rx a ha o ho => by
      refine rx.base a o ?_
      show rm (W.flatMap f2) H3 a = some o
      rw [rm_at (hDn r4 a ha)]
      exact ho
    have hD3 : H3 D = some (.lst ws) := s3 _ _ h2
    have h33 : OwA (Ow K (hid cc.O W f2) H3 n) ws acc A := h3.mono fun v d B _ hv => ow_keep (rm_same s3) _ _ _ _ hv fun a _ o ho => s3 _ _ ho
    by_cases hb1 : b.1 = true
    · rw [if_pos hb1] at h5 ⊢
      obtain ⟨z, g3, h5⟩ := bd h5
      obtain ⟨r9, g5, h5⟩ := mp h5
      refine he b.2 z.1 z.2 g3 (cc.at W f2 H3) f3 H4 σ3 a4.r _ fun f5 v A5 H5 a5 hA5 r6 ho => ?_
      have hD5 : H5 D = some (.lst ws) := keep r6 D List.mem_cons_self _ hD3
      refine ⟨ws, hD5, szl ?_, ?_⟩
      · rw [h33.len]; omega
      have cB : ∀ a ∈ A5, cc.B a = none := fun a ha => le5.free (hA5 a ha).2
      have ccB : cc.B = (c.at W f1 H1).B := by rw [← hcc]; rfl
      have hA5n : ∀ a ∈ A5, a ≠ D ∧ a ∉ A ∧ a ∉ c.O := fun a ha => by
        have h := (hA5 a ha).1
        have h' : a ∉ D :: A ++ c.O := by rw [← hccO]; exact h
        refine ⟨fun e => h' (by rw [e]; simp), fun e => h' (by simp [e]), fun e => h' (by simp [e])⟩
      have r7 : SR K G (cc.hide A5) W f5 H5 σ3 z.2 := SR.outB (c := cc.hide A5) (B' := (cc.at W f2 H3).B) r6 le5
      have r8 := (r7.mutHid (D := D) (o := .lst (ws ++ [v])) (by show D ∈ A5 ++ cc.O; rw [hccO]; simp) (by show cc.B D = none; rw [ccB]; exact hDB))
      have hset : ∀ b, b ∈ (cc.hide A5).O ↔ b ∈ (D :: (A ++ A5)) ++ c.O := fun b => by
        show b ∈ A5 ++ cc.O ↔ _
        rw [hccO]
        simp only [List.mem_append, List.mem_cons, List.cons_append]
        constructor
        · rintro (h | h | h | h)
          · exact .inr (.inl (.inr h))
          · exact .inl h
          · exact .inr (.inl (.inl h))
          · exact .inr (.inr h)
        · rintro (h | (h | h) | h)
          · exact .inr (.inl h)
          · exact .inr (.inr (.inl h))
          · exact .inl h
          · exact .inr (.inr (.inr h))
      have r10 := sr_wipe (r8.setO hset) hv
      rw [hw] at r10
      have hO : hid ((c.at W f1 H1).hide (D :: (A ++ A5))).O W f5 = hid ((D :: (A ++ A5)) ++ c.O) W f5 := rfl
      have sK : Same (rm (hid cc.O W f2) H3) (rm (hid (cc.hide A5).O W f5) (upd H5 D (.lst (ws ++ [v])))) := fun u o hu => by
        obtain ⟨u1, u2⟩ := rm_some hu
        have hu3 : (cc.at W f2 H3).B u = some o := by
          show rm (W.flatMap f2) H3 u = some o
          rw [rm_at fun z => u1 (List.mem_append_right _ z)]
          exact u2
        have hu5 := r6.base u o hu3
        rw [rm_at]
        · rw [upd_ne fun z => u1 (mem_hid.mpr (.inl (by rw [z, hccO]; simp)))]
          exact hu5
        · intro y
          rcases mem_hide.mp y with y | y
          · rw [(hA5 u y).2] at hu3
            cases hu3
          · rcases mem_hid.mp y with y | ⟨i, hi, y⟩
            · exact u1 (mem_hid.mpr (.inl y))
            · have := (r6.new i hi u y).1
              have e9 : ((cc.at W f2 H3).hide A5).B u = (cc.at W f2 H3).B u := rfl
              rw [e9, hu3] at this
              cases this
      refine ⟨acc ++ [z.1], ws ++ [v], A ++ A5, f5, wipeE z.2 vs, r9.1, ?_, upd_same, ?_, ?_, ?_, ?_, ?_, ?_⟩
      · have e9 : ({ (cc.hide A5) with O := (D :: (A ++ A5)) ++ c.O } : Fr) = (c.at W f1 H1).hide (D :: (A ++ A5)) := by
          rw [← hcc]
          rfl
        rw [e9] at r10
        exact r10
      · rw [hO]
        have hh := hid_iff (W := W) (f := f5) hset
        refine owA_snoc (h33.mono fun v' d' B hB hv' => ow_eq hh (ow_keep sK _ _ _ _ hv' fun a ha o ho => ?_)) (ow_eq hh (ow_keep (rm_mut (mem_hide.mpr (.inr (mem_hid.mpr (.inl (by rw [hccO]; simp)))))) _ _ _ _ ho fun a ha o ho => ?_)) fun a ha z => (hA5n a z).2.1 ha
        · rw [upd_ne fun z => hDA (by rw [← z]; exact hB a ha)]
          exact keep r6 a (List.mem_cons_of_mem _ (hB a ha)) o ho
        · rw [upd_ne fun z => (hA5n a ha).1 z]
          exact ho
      · intro z
        rcases List.mem_append.mp z with z | z
        · exact hDA z
        · exact (hA5n D z).1 rfl
      · intro a ha
        rcases List.mem_append.mp ha with z | z
        · exact hA a z
        · exact ⟨(hA5n a z).2.2, by rw [← ccB]; exact cB a z⟩
      · rw [List.length_append]
        simp
        omega
      · rw [g5, ← (Prod.mk.inj h5).2]
      · rw [h6, ← (Prod.mk.inj h5).1, List.append_assoc]
        rfl
    · rw [if_neg hb1] at h5 ⊢
      have r6 : SR K G cc W f3 H4 σ3 b.2 := SR.outB (c := cc) (B' := (cc.at W f2 H3).B) a4.r le5
      have r10 := sr_wipe r6 hv
      rw [hw] at r10
      refine ⟨acc, ws, A, f3, wipeE b.2 vs, rr, by rw [hcc]; exact r10, keep (A2 := []) a4.r D List.mem_cons_self _ hD3, ?_, hDA, hA, Nat.le_succ_of_le h4, h5, h6⟩
      rw [hcc]
      exact h33.mono fun v' d' B hB hv' => ow_keep a4.k _ _ _ _ hv' fun a ha o ho => keep (A2 := []) a4.r a (List.mem_cons_of_mem _ (hB a ha)) o ho
  · obtain ⟨acc, ws, A, f2, env2, rr, r2, h2, h3, hDA, hA, h4, h5, h6⟩ := hP
    rw [List.drop_length] at h5
    have h5' : (([] : List PyData), env2) = (rr, res.2) := Option.some.inj h5
    have e7 : rr = [] := (Prod.mk.inj h5').1.symm
    have e8 : res.2 = env2 := (Prod.mk.inj h5').2.symm
    subst e7
    rw [List.append_nil] at h6
    have hAB : ∀ a ∈ D :: A, (c.at W f1 H1).B a = none := fun a ha => by
      rcases List.mem_cons.mp ha with z | z
      · rw [z]; exact hDB
      · exact (hA a z).2
    have r3 : SR K G (c.hide (D :: A)) W f2 H' (wipe σ vs) env2 := SR.outB (c := c.hide (D :: A)) (B' := (c.at W f1 H1).B) r2 le
    have mv := lc_moved r2 hAB
    have r4 := SR.rest r1 r3 mv hv
    rw [← e8] at r4
    refine q f2 (.ref D) (D :: A) H' ⟨r4.unhide, ?_, fun z => nomatch z⟩ (fun a ha => ?_) r4 ⟨D, ws, acc, A, rfl, by rw [h6], rfl, h2, hDA, h3⟩
    · refine a1.k.trans (mv.trans (rm_sub fun b hb => ?_))
      exact mem_hide.mpr (.inr hb)
    · rcases List.mem_cons.mp ha with z | z
      · rw [z]
        exact ⟨fun y => r1.live D (mem_hid.mpr (.inl y)) hD, r1.base.free hD⟩
      · exact ⟨(hA a z).1, le.free (hA a z).2⟩
end
end Sv

namespace Sv
open PySem PySem.Spec PyProof.Rows L2 Pre Dv
/-! ## calls -/
def envOf (N : List Str) (ds : List PyData) : Env := ds.map some ++ List.replicate (N.length - ds.length) none
/-- a def's promise: what it gives and what becomes of the lists that it changes -/
def SpX (K : PySem.W.Frag) (G : Nat → Nat) (ms : List Nat) (fr : Option Nat) (g : List PyData → Option (PyData × List PyData)) : Sp := fun vs H Q _ => ∃ (c : Fr) (f : Nat → List Addr) (ds : List PyData) (d : PyData) (post : List PyData),
  SR K G c ms f H (vs.map some) (ds.map some) ∧ c.M = ms.map (fun i => (i, vs.getD i .non)) ∧ g ds = some (d, post) ∧ ∀ f' v H', SR K G c ms f' H' (vs.map some) (post.map some) → RV K G ms fr c f' H' (vs.map some) (post.map some) v d → Q v H'
def mixP (ms : List Nat) (ds : List PyData) (e : Env) : List PyData := if ms = [] then ds else (List.range ds.length).map fun i => if i ∈ ms then ((e[i]?).join).getD .none else ds.getD i .none
def gDef (ms : List Nat) (fr : Option Nat) (N : List Str) (n : Nat) (s : Fs) : List PyData → Option (PyData × List PyData) := fun ds => if ds.length = n then (s (envOf N ds)).bind fun o => match o with
  | .rt d e => some (d, mixP ms ds e)
  | .nx e => if fr.isNone = true then some (.none, mixP ms ds e) else none
  | _ => none
  else none
section
variable {K : PySem.W.Frag} {G G' : Nat → Nat} {W ms : List Nat}
theorem mix_len {ds : List PyData} {e : Env} : (mixP ms ds e).length = ds.length := by
  unfold mixP
  split <;> simp
theorem mix_out {ds : List PyData} {e : Env} {i : Nat} (h : i ∉ ms) : (mixP ms ds e)[i]? = ds[i]? := by
  unfold mixP
  split
  · rfl
  · by_cases hi : i < ds.length
    · rw [List.getElem?_map, List.getElem?_range hi]
      simp [h, hi]
    · rw [List.getElem?_eq_none (by simp; omega), List.getElem?_eq_none (by omega)]
theorem mix_in {ds : List PyData} {e : Env} {i : Nat} {d : PyData} (h : i ∈ ms) (hi : i < ds.length) (he : e[i]? = some (some d)) : (mixP ms ds e)[i]? = some d := by
  unfold mixP
  split
  · rename_i z; rw [z] at h; cases h
  · rw [List.getElem?_map, List.getElem?_range hi]
    simp [h, he]
theorem sr_start {c : Fr} {f : Nat → List Addr} {H : Hp} {N : List Str} {vs : List V} {ds : List PyData} (r : SR K G c W f H (vs.map some) (ds.map some)) : SR K G c W f H (L2.start N vs) (envOf N ds) := by
  have hl : vs.length = ds.length := by simpa using r.len
  have lo : ∀ (i : Nat) (x : Option V), (vs.map some)[i]? = some x → (L2.start N vs)[i]? = some x := fun i x h => by
    unfold L2.start
    rw [List.getElem?_append_left ((List.getElem?_eq_some_iff.mp h).1)]
    exact h
  have le : ∀ (i : Nat) (x : Option PyData), (ds.map some)[i]? = some x → (envOf N ds)[i]? = some x := fun i x h => by
    unfold envOf
    rw [List.getElem?_append_left ((List.getElem?_eq_some_iff.mp h).1)]
    exact h
  refine ⟨r.base, r.live, r.new, r.dis, by simp [L2.start, envOf, hl], fun i d hd hi => ?_, fun i hi => ?_, fun q hq => ?_⟩
  · have : (ds.map some)[i]? = some (some d) := by
      unfold envOf at hd
      by_cases hi : i < ds.length
      · rw [List.getElem?_append_left (by simpa using hi)] at hd
        exact hd
      · rw [List.getElem?_append_right (by simpa using Nat.le_of_not_lt hi), List.getElem?_replicate] at hd
        split at hd <;> cases hd
    obtain ⟨v, h1, h2⟩ := r.val i d this hi
    exact ⟨v, lo i _ h1, h2⟩
  · obtain ⟨v, d, h1, h2, h3⟩ := r.own i hi
    exact ⟨v, d, lo i _ h1, le i _ h2, h3⟩
  · obtain ⟨h1, h2⟩ := r.fix q hq
    exact ⟨h1, lo q.1 _ h2⟩
/-- back at the end: the arguments' values, and the data of those that may have changed -/
theorem sr_end {c : Fr} {f f' : Nat → List Addr} {H H' : Hp} {vs : List V} {ds : List PyData} {σ' : L2.St} {e : Env} {A : List Addr} (r0 : SR K G c ms f H (vs.map some) (ds.map some)) (hM : c.M = ms.map fun i => (i, vs.getD i .non)) (r : SR K G ((c.at ms f H).hide A) ms f' H' σ' e)
    (hA : ∀ a ∈ A, (c.at ms f H).B a = none) : SR K G (c.hide A) ms f' H' (vs.map some) ((mixP ms ds e).map some) := by
  have mv := lc_moved r hA
  have r2 : SR K G (c.hide A) ms f' H' σ' e := SR.outB (c := c.hide A) (B' := (c.at ms f H).B) r r0.leB
  have hl : vs.length = ds.length := by simpa using r0.len
  refine ⟨r2.base, r2.live, r2.new, r2.dis, by simp [mix_len, hl], fun i d hd hi => ?_, fun i hi => ?_, fun q hq => ?_⟩
  · rw [List.getElem?_map, mix_out hi, ← List.getElem?_map] at hd
    obtain ⟨v, h1, h2⟩ := r0.val i d hd hi
    exact ⟨v, h1, dp_same mv _ _ h2⟩
  · obtain ⟨v, d, h1, h2, h3⟩ := r2.own i hi
    obtain ⟨v0, d0, g1, g2, _⟩ := r0.own i hi
    have hM' : (i, vs.getD i .non) ∈ c.M := by
      rw [hM]
      exact List.mem_map_of_mem hi
    obtain ⟨_, g3⟩ := r2.fix _ hM'
    have hi' : i < vs.length := by
      have := (List.getElem?_eq_some_iff.mp g1).1
      simpa using this
    have e1 : (vs.map some)[i]? = some (some (vs.getD i .non)) := by simp [hi', List.getD]
    have e2 : v = vs.getD i .non := by
      rw [h1] at g3
      simpa using g3
    rw [← e2] at e1
    refine ⟨v, d, e1, ?_, h3⟩
    rw [List.getElem?_map, mix_in hi (by rw [← hl]; exact hi') h2]
    rfl
  · obtain ⟨h1, h2⟩ := r0.fix q hq
    exact ⟨h1, h2⟩
theorem gDef_len {fr : Option Nat} {N : List Str} {n : Nat} {s : Fs} {ds : List PyData} {x : PyData × List PyData} (h : gDef ms fr N n s ds = some x) : ds.length = n := by
  unfold gDef at h
  split at h
  · assumption
  · cases h
end
theorem fx_run {Wx : WX} {K : PySem.W.Frag} {G : Nat → Nat} {ms : List Nat} {fr : Option Nat} {N : List Str} {n : Nat} {s : Fs} {t : TS} {vs : List V} {H : Hp} {Q : VK} {E : XK} (hst : fST K G ms fr Wx [] ms t s ms) (h : SpX K G ms fr (gDef ms fr N n s) vs H Q E) : t { nx := fun _ H' => Q .non H', rt := Q } (L2.start N vs) H := by
  obtain ⟨c, f0, ds, d, post, r, hM, h2, q⟩ := h
  have hn := gDef_len h2
  unfold gDef at h2
  rw [if_pos hn] at h2
  obtain ⟨o, h3, h2⟩ := bd h2
  refine hst _ o h3 (c.at ms f0 H) f0 H _ _ (sr_start r).inB (by show c.M.map _ = ms; rw [hM, List.map_map]; exact List.map_id _) ?_
  cases o with
  | bk e => cases h2
  | ct e => cases h2
  | ex y e => cases h2
  | nx e =>
    simp only at h2
    split at h2
    · rename_i hfr
      cases h2
      intro f' H' σ' r'
      have r2 := sr_end (A := []) r hM r' fun _ z => nomatch z
      refine q f' .non H' r2 ?_
      cases fr with
      | none => exact .non
      | some n => cases hfr
    · cases h2
  | rt d e =>
    cases h2
    intro f' H' σ' v r' hv
    have r2 := sr_end (A := []) r hM r' fun _ z => nomatch z
    refine q f' v H' r2 ?_
    cases fr with
    | none => exact hv
    | some n =>
      obtain ⟨A, hA, rh, ho⟩ := hv
      exact ⟨A, fun a ha => ⟨(hA a ha).1, r.leB.free (hA a ha).2⟩, sr_end r hM rh fun a ha => (hA a ha).2, ho⟩
section
variable {P : Program} {w : World} {K : PySem.W.Frag} {mg : Str → Option Value} {base : Heap} {G : Nat → Nat} {ms : List Nat} {fr : Option Nat}
/-- THE RULE for a def by data -/
theorem fx_ok {x qual : Str} {st : Stmt} {f : Addr} {fd : FuncData} {N ps : List Str} {k : Nat} {s : Fs} (F : Fun K x qual st f fd) (S : FnScope N ps (defScope st))
    (hbody : ∀ (cdv : Value) (A : Around) (outer : List PySem.Env) (s0 : Shared) (H : Hp) (E : XK), Room k (A.deeper (envOfC qual (defScope st) s0.heap.objs.size f cdv)) →
      ∃ t, PSs (cxOf CX0 P w K mg base N qual (defScope st) f cdv A outer s0 H E).nox (defBody st) t ∧ fST K G ms fr noX [] ms t s ms) :
    FnOk P w K mg base CX0 (k + 1) f fd ps (SpX K G ms fr (gDef ms fr N ps.length s)) := by
  refine F.ok S (fun vs H Q E h => ?_) (fun cdv A outer s0 H vs Q E hr h => ?_)
  · obtain ⟨c, f, ds, d, post, r, _, h2, _⟩ := h
    have := r.len
    simp at this
    rw [this, gDef_len h2]
  · obtain ⟨t, ht, hst⟩ := hbody cdv A outer s0 H E hr
    exact ⟨t, ht, fx_run hst h⟩
end
def callF (g : List PyData → Option (PyData × List PyData)) (L : Fa) : Fx := fun env => (L env).bind fun x => (g x.1).map fun y => (y.1, x.2)
section
variable {K : PySem.W.Frag} {G G' : Nat → Nat} {W : List Nat} {S : List Nat} {p : Bool} {L : Fa}
theorem sr_args {c : Fr} {f : Nat → List Addr} {H : Hp} {vs : List V} {ds : List PyData} {O : List Addr} (l : Live O H) (h : DA K O H vs ds) : SR K G' ⟨H, O, []⟩ [] (fun _ => []) H (vs.map some) (ds.map some) := by
  refine ⟨Same.refl _, by simpa [hid] using l, (fun _ z => nomatch z), (fun _ z => nomatch z), by simp [dpAll_len h], fun i d hd _ => ?_, (fun _ z => nomatch z), (fun _ z => nomatch z)⟩
  rw [List.getElem?_map] at hd
  cases e : ds[i]? with
  | none => rw [e] at hd; cases hd
  | some d' =>
    rw [e] at hd
    have : d' = d := by simpa using hd
    subst this
    obtain ⟨v, h1, h2⟩ := dpAll_get h e
    refine ⟨v, by rw [List.getElem?_map, h1]; rfl, ?_⟩
    simpa [hid] using h2
theorem fv_call {g : List PyData → Option (PyData × List PyData)} {E : XK} {tr : TA} (h : fEA K G W S p tr L) : fEV K G W S p (tCall (SpX K G' [] none g) [] E tr) (callF g L) := fun env d env' e c f H σ r Q q => by
  obtain ⟨x, e1, e⟩ := bd e
  obtain ⟨y, e2, e⟩ := mp e
  cases e
  refine h env x.1 x.2 e1 c f H σ r _ fun f1 vs H1 a1 hv => ?_
  refine ⟨⟨H1, hidS c W S f1, []⟩, fun _ => [], x.1, y.1, y.2, by rw [List.append_nil]; exact sr_args (c := c) (f := f1) a1.live hv, rfl, e2, fun f' v H' r' hr => ?_⟩
  refine q f1 v H' (a1.step r'.base) ?_
  have hr : DO K (hid (hidS c W S f1) [] f') H' v y.1 := hr
  simpa [hid] using hr
theorem SR.hideFresh {c : Fr} {A : List Addr} {f : Nat → List Addr} {H H' : Hp} {σ : L2.St} {env : Env} (r : SR K G c W f H σ env) (s : Same H H') (hA : ∀ a ∈ A, H a = none) (l : ∀ a ∈ A, H' a ≠ none) : SR K G (c.hide A) W f H' σ env := by
  have hsub : Same (rm (hid c.O W f) H) (rm (hid (c.hide A).O W f) H') := fun b u e => by
    obtain ⟨e1, e2⟩ := rm_some e
    rw [rm_at]
    · exact s _ _ e2
    · intro z
      rcases mem_hide.mp z with z | z
      · rw [hA b z] at e2
        cases e2
      · exact e1 z
  refine ⟨r.base.trans s, fun b hb => ?_, fun i hi a ha => ⟨(r.new i hi a ha).1, fun z => ?_⟩, r.dis, r.len, fun i d e n => let ⟨v, h1, h2⟩ := r.val i d e n; ⟨v, h1, dp_same hsub _ _ h2⟩,
    fun i hi => let ⟨v, d, h1, h2, h3⟩ := r.own i hi; ⟨v, d, h1, h2, ow_keep hsub _ _ _ _ h3 fun _ _ _ e => s _ _ e⟩, r.fix⟩
  · rcases mem_hide.mp hb with z | z
    · exact l b z
    · exact (r.live.same s) b z
  · rcases List.mem_append.mp z with z | z
    · exact r.live a (mem_hid.mpr (.inr ⟨i, hi, ha⟩)) (hA a z)
    · exact (r.new i hi a ha).2 z
theorem ef_call {n : Nat} {g : List PyData → Option (PyData × List PyData)} {E : XK} {tr : TA} (h : fEA K G W [] p tr L) : fEF K G W n p (tCall (SpX K G' [] (some n) g) [] E tr) (callF g L) := fun env d env' e c f H σ r Q q => by
  obtain ⟨x, e1, e⟩ := bd e
  obtain ⟨y, e2, e⟩ := mp e
  cases e
  refine h env x.1 x.2 e1 c f H σ r _ fun f1 vs H1 a1 hv => ?_
  have hv := unSA hv
  refine ⟨⟨H1, hid c.O W f1, []⟩, fun _ => [], x.1, y.1, y.2, by rw [List.append_nil]; exact sr_args (c := c) (f := f1) a1.r.live hv, rfl, e2, fun f' v H' r' hr => ?_⟩
  obtain ⟨A, hA, rh, ho⟩ := hr
  have lA : ∀ a ∈ A, H' a ≠ none := fun a ha => rh.live a (mem_hide.mpr (.inl ha))
  refine q f1 v A H' (a1.step r'.base) (fun a ha => ⟨fun z => (hA a ha).1 (mem_hid.mpr (.inl z)), a1.r.base.free (hA a ha).2⟩) (a1.r.hideFresh r'.base (fun a ha => (hA a ha).2) lA) (ow_eq (fun b => ?_) ho)
  rw [mem_hide, mem_hide]
  simp [hid]
end
end Sv

namespace Sv
open PySem PySem.Spec PyProof.Rows L2 Pre Dv
/-! ## calls that are handed own lists -/
structure AOk (K : PySem.W.Frag) (O : List Addr) (H : Hp) (σ : L2.St) (ks : List (Option Nat)) (vs : List V) (ds : List PyData) : Prop where
  l1 : vs.length = ds.length
  l2 : ks.length = ds.length
  val : ∀ (j : Nat) (d : PyData), ks[j]? = some none → ds[j]? = some d → ∃ v, vs[j]? = some v ∧ DO K O H v d
  own : ∀ (j i : Nat), ks[j]? = some (some i) → ∃ v, vs[j]? = some v ∧ σ[i]? = some (some v)
def AEnv (ks : List (Option Nat)) (ds : List PyData) (env : Env) : Prop := ∀ (j i : Nat), ks[j]? = some (some i) → ∃ d, ds[j]? = some d ∧ env[i]? = some (some d)
def fEC (K : PySem.W.Frag) (G : Nat → Nat) (W : List Nat) (p : Bool) (ks : List (Option Nat)) (ta : TA) (L : Fa) : Prop := ∀ env ds env', L env = some (ds, env') → ∀ c f H σ, SR K G c W f H σ env → ∀ Q : List V → Hp → Prop,
  (∀ f' vs H2, Aft K G c W σ p f H env f' H2 env' → AOk K (hid c.O W f') H2 σ ks vs ds → AEnv ks ds env' → Q vs H2) → ta σ H Q
def aM (i : Nat) (L : Fa) : Fa := fun env => (L env).bind fun y => (vr i y.2).map fun x => (x.1 :: y.1, y.2)
section
variable {K : PySem.W.Frag} {G G' : Nat → Nat} {W ms : List Nat} {p p2 : Bool} {ks : List (Option Nat)} {te : TE} {tr : TA} {F : Fx} {L : Fa}
theorem fc_nil : fEC K G W true [] tNil aN := fun env ds env' e c f H σ r Q q => by
  cases e
  exact q f [] H (.rfl r) ⟨rfl, rfl, fun j d h => by simp at h, fun j i h => by simp at h⟩ (fun j i h => by simp at h)
theorem fc_val (ha : fEV K G W [] p te F) (hb : fEC K G W p2 ks tr L) : fEC K G W (p && p2) (none :: ks) (tCons te tr) (aC F L) := fun env ds env' e c f H σ r Q q => by
  obtain ⟨x, e1, e⟩ := bd e
  obtain ⟨y, e2, e⟩ := mp e
  cases e
  refine ha env x.1 x.2 e1 c f H σ r _ fun f1 u H1 a1 hu => hb x.2 y.1 y.2 e2 c f1 H1 σ a1.r _ fun f2 vs H2 a2 hv he => ?_
  refine q f2 (u :: vs) H2 (a1.trans a2) ⟨by simp [hv.l1], by simp [hv.l2], fun j d h1 h2 => ?_, fun j i h => ?_⟩ (fun j i h => ?_)
  · cases j with
    | zero =>
      have : x.1 = d := by simpa using h2
      subst this
      exact ⟨u, rfl, unS (a2.seen (.inl rfl) hu)⟩
    | succ j => exact hv.val j d h1 h2
  · cases j with
    | zero => simp at h
    | succ j => exact hv.own j i h
  · cases j with
    | zero => simp at h
    | succ j => exact he j i h
theorem fc_own {i : Nat} (hb : fEC K G W p2 ks tr L) (hi : i ∈ W := by decide) : fEC K G W p2 (some i :: ks) (tCons (tVar i) tr) (aM i L) := fun env ds env' e c f H σ r Q q => by
  obtain ⟨y, e2, e⟩ := bd e
  obtain ⟨x, e1, e⟩ := mp e
  cases e
  obtain ⟨v, d, h1, h2, h3⟩ := r.own i hi
  refine ⟨v, h1, hb env y.1 y.2 e2 c f H σ r _ fun f2 vs H2 a2 hv he => ?_⟩
  refine q f2 (v :: vs) H2 a2 ⟨by simp [hv.l1], by simp [hv.l2], fun j d h1 h2 => ?_, fun j k h => ?_⟩ (fun j k h => ?_)
  · cases j with
    | zero => simp at h1
    | succ j => exact hv.val j d h1 h2
  · cases j with
    | zero =>
      have : i = k := by simpa using h
      subst this
      exact ⟨v, rfl, h1⟩
    | succ j => exact hv.own j k h
  · cases j with
    | zero =>
      have : i = k := by simpa using h
      subst this
      exact ⟨x.1, rfl, (vr_eq e1).1⟩
    | succ j => exact he j k h
/-! where a slot stands among the arguments -/
def posOf : List (Option Nat) → Nat → Option Nat
  | [], _ => none
  | k :: ks, i => if k = some i then some 0 else (posOf ks i).map (· + 1)
theorem posOf_some : ∀ {ks : List (Option Nat)} {i j : Nat}, posOf ks i = some j → ks[j]? = some (some i)
  | [], _, _, h => by cases h
  | k :: ks, i, j, h => by
    unfold posOf at h
    split at h
    · rename_i e
      cases h
      rw [e]
      rfl
    · obtain ⟨j', h1, h2⟩ := mp h
      subst h2
      show ks[j']? = some (some i)
      exact posOf_some h1
theorem posOf_none : ∀ {ks : List (Option Nat)} {i : Nat}, posOf ks i = none → ∀ j : Nat, ks[j]? ≠ some (some i)
  | [], _, _, j => by simp
  | k :: ks, i, h, j => by
    unfold posOf at h
    split at h
    · cases h
    · rename_i e
      have h' : posOf ks i = none := by simpa using h
      cases j with
      | zero => simpa using e
      | succ j => exact posOf_none h' j
def upE : List (Option Nat) → List PyData → Env → Env
  | none :: ks, _ :: ds, e => upE ks ds e
  | some i :: ks, d :: ds, e => upE ks ds (e.set i (some d))
  | _, _, e => e
theorem upE_len : ∀ {ks : List (Option Nat)} {ds : List PyData} {e : Env}, (upE ks ds e).length = e.length
  | [], _, _ => by simp [upE]
  | none :: _, [], _ => by simp [upE]
  | some _ :: _, [], _ => by simp [upE]
  | none :: ks, _ :: ds, e => by unfold upE; exact upE_len
  | some i :: ks, d :: ds, e => by unfold upE; rw [upE_len, List.length_set]
theorem upE_out {i : Nat} : ∀ {ks : List (Option Nat)} {ds : List PyData} {e : Env}, (∀ j : Nat, ks[j]? ≠ some (some i)) → (upE ks ds e)[i]? = e[i]?
  | [], _, _, _ => by simp [upE]
  | none :: _, [], _, _ => by simp [upE]
  | some _ :: _, [], _, _ => by simp [upE]
  | none :: ks, _ :: ds, e, h => by unfold upE; exact upE_out fun j => h (j + 1)
  | some k :: ks, d :: ds, e, h => by
    unfold upE
    rw [upE_out fun j => h (j + 1)]
    exact List.getElem?_set_ne fun z => h 0 (by rw [z]; rfl)
theorem upE_in {i : Nat} : ∀ {ks : List (Option Nat)} {ds : List PyData} {e : Env} {j : Nat} {d : PyData}, ks[j]? = some (some i) → (∀ j' : Nat, ks[j']? = some (some i) → j' = j) → ds[j]? = some d → i < e.length → (upE ks ds e)[i]? = some (some d)
  | [], _, _, _, _, h, _, _, _ => by simp at h
  | k :: ks, [], _, _, _, _, _, h, _ => by simp at h
  | none :: ks, _ :: ds, e, 0, _, h, _, _, _ => by simp at h
  | none :: ks, _ :: ds, e, j + 1, d, h, hu, hd, hl => by
    unfold upE
    exact upE_in (j := j) h (fun j' h' => by have := hu (j' + 1) h'; omega) hd hl
  | some k :: ks, d0 :: ds, e, 0, d, h, hu, hd, hl => by
    have e1 : k = i := by simpa using h
    have e2 : d0 = d := by simpa using hd
    subst e1 e2
    unfold upE
    rw [upE_out fun j h' => by have := hu (j + 1) h'; omega]
    exact List.getElem?_set_self hl
  | some k :: ks, d0 :: ds, e, j + 1, d, h, hu, hd, hl => by
    unfold upE
    exact upE_in (j := j) h (fun j' h' => by have := hu (j' + 1) h'; omega) hd (by rw [List.length_set]; exact hl)
/-- the trees of the arguments -/
def tf (ks : List (Option Nat)) (f : Nat → List Addr) : Nat → List Addr := fun j => match ks[j]? with
  | some (some i) => f i
  | _ => []
def bf (ks : List (Option Nat)) (f f3 : Nat → List Addr) : Nat → List Addr := fun i => match posOf ks i with
  | some j => f3 j
  | none => f i
def rstW (ks : List (Option Nat)) (W : List Nat) : List Nat := W.filter fun i => (posOf ks i).isNone
def frC (ks : List (Option Nat)) (ms W : List Nat) (f : Nat → List Addr) (H : Hp) (c : Fr) (vs : List V) : Fr := ⟨rm (ms.flatMap (tf ks f)) H, hid c.O (rstW ks W) f, ms.map fun j => (j, vs.getD j .non)⟩
structure KsOk (ks : List (Option Nat)) (ms W : List Nat) (G G' : Nat → Nat) : Prop where
  w : ∀ j i : Nat, ks[j]? = some (some i) → i ∈ W
  m : ∀ j : Nat, j ∈ ms ↔ ∃ i, ks[j]? = some (some i)
  u : ∀ j j' i : Nat, ks[j]? = some (some i) → ks[j']? = some (some i) → j = j'
  g : ∀ j i : Nat, ks[j]? = some (some i) → G' j = G i
theorem tf_at {f : Nat → List Addr} {j i : Nat} (h : ks[j]? = some (some i)) : tf ks f j = f i := by
  unfold tf
  rw [h]
theorem mem_frO {f : Nat → List Addr} {H : Hp} {c : Fr} {vs : List V} {b : Addr} : b ∈ (frC ks ms W f H c vs).O ↔ b ∈ c.O ∨ ∃ i, i ∈ W ∧ posOf ks i = none ∧ b ∈ f i := by
  show b ∈ hid c.O (rstW ks W) f ↔ _
  rw [mem_hid]
  constructor
  · rintro (h | ⟨i, hi, h⟩)
    · exact .inl h
    · have := List.mem_filter.mp hi
      exact .inr ⟨i, this.1, by simpa using this.2, h⟩
  · rintro (h | ⟨i, hi, hp, h⟩)
    · exact .inl h
    · exact .inr ⟨i, List.mem_filter.mpr ⟨hi, by simp [hp]⟩, h⟩
theorem frame {f : Nat → List Addr} {H : Hp} {c : Fr} {σ : L2.St} {env : Env} {vs : List V} {ds : List PyData} (k : KsOk ks ms W G G') (r : SR K G c W f H σ env) (hA : AOk K (hid c.O W f) H σ ks vs ds) (hE : AEnv ks ds env) :
    SR K G' (frC ks ms W f H c vs) ms (tf ks f) H (vs.map some) (ds.map some) := by
  have hmem : ∀ b, b ∈ hid (frC ks ms W f H c vs).O ms (tf ks f) → b ∈ hid c.O W f := fun b hb => by
    rcases mem_hid.mp hb with h | ⟨j, hj, h⟩
    · rcases mem_frO.mp h with h | ⟨i, hi, _, h⟩
      · exact mem_hid.mpr (.inl h)
      · exact mem_hid.mpr (.inr ⟨i, hi, h⟩)
    · obtain ⟨i, hi⟩ := (k.m j).1 hj
      rw [tf_at hi] at h
      exact mem_hid.mpr (.inr ⟨i, k.w j i hi, h⟩)
  have hsub : Same (rm (hid c.O W f) H) (rm (hid (frC ks ms W f H c vs).O ms (tf ks f)) H) := rm_sub hmem
  refine ⟨rm_le, fun b hb => r.live b (hmem b hb), fun j hj a ha => ⟨if_pos (List.mem_flatMap.mpr ⟨j, hj, ha⟩), fun z => ?_⟩, fun j hj j' hj' hjj a ha => ?_, by simp [hA.l1], fun j d hd hj => ?_, fun j hj => ?_, fun q hq => ?_⟩
  · obtain ⟨i, hi⟩ := (k.m j).1 hj
    rw [tf_at hi] at ha
    rcases mem_frO.mp z with z | ⟨i', hi', hp, z⟩
    · exact (r.new i (k.w j i hi) a ha).2 z
    · exact r.dis i (k.w j i hi) i' hi' (fun e => posOf_none hp j (by rw [← e]; exact hi)) a ha z
  · obtain ⟨i, hi⟩ := (k.m j).1 hj
    obtain ⟨i', hi'⟩ := (k.m j').1 hj'
    rw [tf_at hi] at ha
    rw [tf_at hi']
    exact r.dis i (k.w j i hi) i' (k.w j' i' hi') (fun e => hjj (k.u j j' i hi (by rw [e]; exact hi'))) a ha
  · rw [List.getElem?_map] at hd
    cases hds : ds[j]? with
    | none => rw [hds] at hd; cases hd
    | some d' =>
      rw [hds] at hd
      have : d' = d := by simpa using hd
      subst this
      have hlt := (List.getElem?_eq_some_iff.mp hds).1
      have hks : ks[j]? = some none := by
        have hlt' : j < ks.length := by rw [hA.l2]; exact hlt
        cases hk : ks[j]? with
        | none => rw [List.getElem?_eq_none_iff] at hk; omega
        | some o => cases o with
          | none => rfl
          | some i => exact absurd ((k.m j).2 ⟨i, hk⟩) hj
      obtain ⟨v, h1, h2⟩ := hA.val j d' hks hds
      exact ⟨v, by rw [List.getElem?_map, h1]; rfl, dp_same hsub _ _ h2⟩
  · obtain ⟨i, hi⟩ := (k.m j).1 hj
    obtain ⟨v, d, h1, h2, h3⟩ := r.own i (k.w j i hi)
    obtain ⟨v', g1, g2⟩ := hA.own j i hi
    rw [h1] at g2
    cases g2
    obtain ⟨d', g3, g4⟩ := hE j i hi
    rw [h2] at g4
    cases g4
    rw [tf_at hi, k.g j i hi]
    exact ⟨v, d, by rw [List.getElem?_map, g1]; rfl, by rw [List.getElem?_map, g3]; rfl, ow_keep hsub _ _ _ _ h3 fun _ _ _ e => e⟩
  · obtain ⟨j, hj, e⟩ := List.mem_map.mp hq
    subst e
    refine ⟨hj, ?_⟩
    obtain ⟨i, hi⟩ := (k.m j).1 hj
    obtain ⟨v, g1, g2⟩ := hA.own j i hi
    show (vs.map some)[j]? = some (some (vs.getD j .non))
    simp [List.getD, g1]
theorem unframe {f f3 : Nat → List Addr} {H H3 : Hp} {c : Fr} {σ : L2.St} {env : Env} {vs : List V} {ds post : List PyData} (k : KsOk ks ms W G G') (r : SR K G c W f H σ env) (hA : AOk K (hid c.O W f) H σ ks vs ds)
    (r3 : SR K G' (frC ks ms W f H c vs) ms f3 H3 (vs.map some) (post.map some)) :
    SR K G c W (bf ks f f3) H3 σ (upE ks post env) ∧ Same (rm (hid c.O W f) H) (rm (hid c.O W (bf ks f f3)) H3) ∧ ∀ b, b ∈ hid c.O W (bf ks f f3) ↔ b ∈ hid (frC ks ms W f H c vs).O ms f3 := by
  have hset : ∀ b, b ∈ hid c.O W (bf ks f f3) ↔ b ∈ hid (frC ks ms W f H c vs).O ms f3 := fun b => by
    rw [mem_hid, mem_hid, mem_frO]
    constructor
    · rintro (h | ⟨i, hi, h⟩)
      · exact .inl (.inl h)
      · unfold bf at h
        split at h
        · rename_i j hj
          exact .inr ⟨j, (k.m j).2 ⟨i, posOf_some hj⟩, h⟩
        · rename_i hj
          exact .inl (.inr ⟨i, hi, hj, h⟩)
    · rintro ((h | ⟨i, hi, hp, h⟩) | ⟨j, hj, h⟩)
      · exact .inl h
      · exact .inr ⟨i, hi, by unfold bf; rw [hp]; exact h⟩
      · obtain ⟨i, hi⟩ := (k.m j).1 hj
        have hp : posOf ks i = some j := by
          cases hp : posOf ks i with
          | none => exact absurd hi (posOf_none hp j)
          | some j' => rw [k.u j' j i (posOf_some hp) hi]
        exact .inr ⟨i, k.w j i hi, by unfold bf; rw [hp]; exact h⟩
  -- what is none of the trees handed over stays
  have stay : ∀ b o, H b = some o → (∀ j i : Nat, ks[j]? = some (some i) → b ∉ f i) → H3 b = some o := fun b o e hn => by
    refine r3.base b o ?_
    show rm (ms.flatMap (tf ks f)) H b = some o
    rw [rm_at]
    · exact e
    · intro z
      obtain ⟨j, hj, z⟩ := List.mem_flatMap.mp z
      obtain ⟨i, hi⟩ := (k.m j).1 hj
      rw [tf_at hi] at z
      exact hn j i hi z
  have hB : ∀ b o, H b = some o → (∀ j i : Nat, ks[j]? = some (some i) → b ∉ f i) → (frC ks ms W f H c vs).B b = some o := fun b o e hn => by
    show rm (ms.flatMap (tf ks f)) H b = some o
    rw [rm_at]
    · exact e
    · intro z
      obtain ⟨j, hj, z⟩ := List.mem_flatMap.mp z
      obtain ⟨i, hi⟩ := (k.m j).1 hj
      rw [tf_at hi] at z
      exact hn j i hi z
  have hK : Same (rm (hid c.O W f) H) (rm (hid c.O W (bf ks f f3)) H3) := fun b o e => by
    obtain ⟨e1, e2⟩ := rm_some e
    have hn : ∀ j i : Nat, ks[j]? = some (some i) → b ∉ f i := fun j i hi z => e1 (mem_hid.mpr (.inr ⟨i, k.w j i hi, z⟩))
    rw [rm_at]
    · exact stay b o e2 hn
    · intro z
      rcases mem_hid.mp ((hset b).1 z) with z | ⟨j, hj, z⟩
      · rcases mem_frO.mp z with z | ⟨i, hi, _, z⟩
        · exact e1 (mem_hid.mpr (.inl z))
        · exact e1 (mem_hid.mpr (.inr ⟨i, hi, z⟩))
      · have := (r3.new j hj b z).1
        rw [hB b o e2 hn] at this
        cases this
  refine ⟨⟨fun b o e => stay b o (r.base _ _ e) fun j i hi z => ?_, fun b hb => r3.live b ((hset b).1 hb), fun i hi a ha => ?_, fun i hi i' hi' hii a ha => ?_, by rw [upE_len]; exact r.len, fun i d hd hi => ?_, fun i hi => ?_, r.fix⟩, hK, hset⟩
  · rw [(r.new i (k.w j i hi) b z).1] at e
    cases e
  · unfold bf at ha
    split at ha
    · rename_i j hj
      obtain ⟨h1, h2⟩ := r3.new j ((k.m j).2 ⟨i, posOf_some hj⟩) a ha
      refine ⟨?_, fun z => h2 (mem_frO.mpr (.inl z))⟩
      cases e : c.B a with
      | none => rfl
      | some o =>
        rw [hB a o (r.base _ _ e) fun j' i' hi' z => by rw [(r.new i' (k.w j' i' hi') a z).1] at e; cases e] at h1
        cases h1
    · exact r.new i hi a ha
  · unfold bf at ha ⊢
    cases hp : posOf ks i with
    | none =>
      rw [hp] at ha
      cases hp' : posOf ks i' with
      | none => exact r.dis i hi i' hi' hii a ha
      | some j' =>
        intro z
        exact (r3.new j' ((k.m j').2 ⟨i', posOf_some hp'⟩) a z).2 (mem_frO.mpr (.inr ⟨i, hi, hp, ha⟩))
    | some j =>
      rw [hp] at ha
      have hj := (k.m j).2 ⟨i, posOf_some hp⟩
      cases hp' : posOf ks i' with
      | none =>
        intro z
        exact (r3.new j hj a ha).2 (mem_frO.mpr (.inr ⟨i', hi', hp', z⟩))
      | some j' =>
        refine r3.dis j hj j' ((k.m j').2 ⟨i', posOf_some hp'⟩) (fun e => hii ?_) a ha
        have h1 := posOf_some hp
        have h2 := posOf_some hp'
        rw [e, h2] at h1
        simpa using h1.symm
  · have hn : ∀ j : Nat, ks[j]? ≠ some (some i) := fun j z => hi (k.w j i z)
    rw [upE_out hn] at hd
    obtain ⟨v, h1, h2⟩ := r.val i d hd hi
    exact ⟨v, h1, dp_same hK _ _ h2⟩
  · cases hp : posOf ks i with
    | none =>
      obtain ⟨v, d, h1, h2, h3⟩ := r.own i hi
      have e1 : bf ks f f3 i = f i := by unfold bf; rw [hp]
      rw [e1, upE_out (posOf_none hp)]
      refine ⟨v, d, h1, h2, ow_keep hK _ _ _ _ h3 fun a ha o ho => stay a o ho fun j i' hi' z => ?_⟩
      exact r.dis i hi i' (k.w j i' hi') (fun e => posOf_none hp j (by rw [e]; exact hi')) a ha z
    | some j =>
      have hj := posOf_some hp
      obtain ⟨v, d, h1, h2, h3⟩ := r3.own j ((k.m j).2 ⟨i, hj⟩)
      obtain ⟨v', g1, g2⟩ := hA.own j i hj
      have e1 : bf ks f f3 i = f3 j := by unfold bf; rw [hp]
      have e2 : v = v' := by
        rw [List.getElem?_map, g1] at h1
        simpa using h1.symm
      subst e2
      have e3 : post[j]? = some d := by
        rw [List.getElem?_map] at h2
        cases hpj : post[j]? with
        | none => rw [hpj] at h2; cases h2
        | some x => rw [hpj] at h2; have : x = d := by simpa using h2
                    rw [this]
      have hlt : i < env.length := by
        obtain ⟨_, _, q1, _⟩ := r.own i hi
        have := (List.getElem?_eq_some_iff.mp q1).1
        rw [r.len] at this
        exact this
      rw [e1, upE_in hj (fun j' h' => k.u j' j i h' hj) e3 hlt]
      rw [k.g j i hj] at h3
      exact ⟨v, d, g2, rfl, ow_eq (fun b => (hset b).symm) h3⟩
/-- the call's own word -/
def callM (g : List PyData → Option (PyData × List PyData)) (ks : List (Option Nat)) (L : Fa) : Fx := fun env => (L env).bind fun x => (g x.1).map fun y => (y.1, upE ks y.2 x.2)
theorem fv_callM {g : List PyData → Option (PyData × List PyData)} {E : XK} (k : KsOk ks ms W G G') (h : fEC K G W p ks tr L) : fEV K G W S false (tCall (SpX K G' ms none g) [] E tr) (callM g ks L) := fun env d env' e c f H σ r Q q => by
  obtain ⟨x, e1, e⟩ := bd e
  obtain ⟨y, e2, e⟩ := mp e
  cases e
  refine h env x.1 x.2 e1 c f H σ r _ fun f1 vs H1 a1 hA hE => ?_
  refine ⟨frC ks ms W f1 H1 c vs, tf ks f1, x.1, y.1, y.2, by rw [List.append_nil]; exact frame k a1.r hA hE, by rw [List.append_nil]; rfl, e2, fun f3 v H3 r3 hr => ?_⟩
  rw [List.append_nil] at r3
  obtain ⟨h1, h2, h3⟩ := unframe (env := x.2) k a1.r hA r3
  have hr : DO K (hid (frC ks ms W f1 H1 c (vs ++ [])).O ms f3) H3 v y.1 := hr
  rw [List.append_nil] at hr
  refine q _ v H3 ⟨h1, a1.k.trans h2, fun z => nomatch z⟩ (see ?_)
  unfold DO at hr ⊢
  rw [rm_eq h3]
  exact hr
theorem ef_callM {n : Nat} {g : List PyData → Option (PyData × List PyData)} {E : XK} (k : KsOk ks ms W G G') (h : fEC K G W p ks tr L) : fEF K G W n false (tCall (SpX K G' ms (some n) g) [] E tr) (callM g ks L) := fun env d env' e c f H σ r Q q => by
  obtain ⟨x, e1, e⟩ := bd e
  obtain ⟨y, e2, e⟩ := mp e
  cases e
  refine h env x.1 x.2 e1 c f H σ r _ fun f1 vs H1 a1 hA hE => ?_
  refine ⟨frC ks ms W f1 H1 c vs, tf ks f1, x.1, y.1, y.2, by rw [List.append_nil]; exact frame k a1.r hA hE, by rw [List.append_nil]; rfl, e2, fun f3 v H3 r3 hr => ?_⟩
  obtain ⟨A, hA5, rh, ho⟩ := hr
  rw [List.append_nil] at r3 rh
  obtain ⟨h1, h2, h3⟩ := unframe (env := x.2) k a1.r hA r3
  have hcB : ∀ a ∈ A, a ∉ c.O ∧ c.B a = none := fun a ha => by
    refine ⟨fun z => (hA5 a ha).1 (mem_frO.mpr (.inl z)), ?_⟩
    cases e : c.B a with
    | none => rfl
    | some o =>
      have hb : (frC ks ms W f1 H1 c vs).B a = some o := by
        show rm (ms.flatMap (tf ks f1)) H1 a = some o
        rw [rm_at]
        · exact a1.r.base _ _ e
        · intro z
          obtain ⟨j, hj, z⟩ := List.mem_flatMap.mp z
          obtain ⟨i, hi⟩ := (k.m j).1 hj
          rw [tf_at hi] at z
          rw [(a1.r.new i (k.w j i hi) a z).1] at e
          cases e
      rw [(hA5 a ha).2] at hb
      cases hb
  -- the same with what is new hidden
  have hset2 : ∀ b, b ∈ ((frC ks ms W f1 H1 c vs).hide A).O ↔ b ∈ A ∨ b ∈ (frC ks ms W f1 H1 c vs).O := fun b => List.mem_append
  have key : SR K G (c.hide A) W (bf ks f1 f3) H3 σ (upE ks y.2 x.2) := by
    have hmem : ∀ b, b ∈ hid (c.hide A).O W (bf ks f1 f3) ↔ b ∈ hid ((frC ks ms W f1 H1 c vs).hide A).O ms f3 := fun b => by
      rw [mem_hide, mem_hide, h3 b]
    have hK : Same (rm (hid c.O W f1) H1) (rm (hid (c.hide A).O W (bf ks f1 f3)) H3) := fun b o e => by
      have e4 := h2 b o e
      obtain ⟨e5, e6⟩ := rm_some e4
      rw [rm_at]
      · exact e6
      · intro z
        rcases mem_hide.mp z with z | z
        · obtain ⟨e1, e2⟩ := rm_some e
          have hb : (frC ks ms W f1 H1 c vs).B b = some o := by
            show rm (ms.flatMap (tf ks f1)) H1 b = some o
            rw [rm_at]
            · exact e2
            · intro z
              obtain ⟨j, hj, z⟩ := List.mem_flatMap.mp z
              obtain ⟨i, hi⟩ := (k.m j).1 hj
              rw [tf_at hi] at z
              exact e1 (mem_hid.mpr (.inr ⟨i, k.w j i hi, z⟩))
          rw [(hA5 b z).2] at hb
          cases hb
        · exact e5 z
    refine ⟨h1.base, fun b hb => rh.live b ((hmem b).1 hb), fun i hi a ha => ⟨(h1.new i hi a ha).1, fun z => ?_⟩, h1.dis, h1.len, fun i d hd hi => ?_, fun i hi => ?_, h1.fix⟩
    · rcases List.mem_append.mp z with z | z
      · unfold bf at ha
        split at ha
        · rename_i j hj
          exact (rh.new j ((k.m j).2 ⟨i, posOf_some hj⟩) a ha).2 ((hset2 a).2 (.inl z))
        · rename_i hj
          exact (hA5 a z).1 (mem_frO.mpr (.inr ⟨i, hi, hj, ha⟩))
      · exact (h1.new i hi a ha).2 z
    · have hn : ∀ j : Nat, ks[j]? ≠ some (some i) := fun j z => hi (k.w j i z)
      rw [upE_out hn] at hd
      obtain ⟨v, g1, g2⟩ := a1.r.val i d hd hi
      exact ⟨v, g1, dp_same hK _ _ g2⟩
    · cases hp : posOf ks i with
      | none =>
        obtain ⟨v, d, g1, g2, g3⟩ := a1.r.own i hi
        have e1 : bf ks f1 f3 i = f1 i := by unfold bf; rw [hp]
        obtain ⟨v2, d2, q1, q2, q3⟩ := h1.own i hi
        rw [e1, upE_out (posOf_none hp)]
        refine ⟨v, d, g1, g2, ow_keep hK _ _ _ _ g3 fun a ha o ho => ?_⟩
        rw [upE_out (posOf_none hp), g2] at q2
        refine rh.base a o ?_
        show rm (ms.flatMap (tf ks f1)) H1 a = some o
        rw [rm_at]
        · exact ho
        · intro z
          obtain ⟨j, hj, z⟩ := List.mem_flatMap.mp z
          obtain ⟨i', hi'⟩ := (k.m j).1 hj
          rw [tf_at hi'] at z
          exact a1.r.dis i hi i' (k.w j i' hi') (fun e => posOf_none hp j (by rw [e]; exact hi')) a ha z
      | some j =>
        have hj := posOf_some hp
        obtain ⟨v, d, g1, g2, g3⟩ := h1.own i hi
        obtain ⟨v5, d5, q1, q2, q3⟩ := rh.own j ((k.m j).2 ⟨i, hj⟩)
        have e1 : bf ks f1 f3 i = f3 j := by unfold bf; rw [hp]
        obtain ⟨v', w1, w2⟩ := hA.own j i hj
        rw [List.getElem?_map, w1] at q1
        have e9 : v' = v5 := by simpa using q1
        rw [w2] at g1
        have e10 : v' = v := by simpa using g1
        subst e9 e10
        have e3 : y.2[j]? = some d5 := by
          rw [List.getElem?_map] at q2
          cases hpj : y.2[j]? with
          | none => rw [hpj] at q2; cases q2
          | some x => rw [hpj] at q2; have : x = d5 := by simpa using q2
                      rw [this]
        have hlt : i < x.2.length := by
          obtain ⟨_, _, z1, _⟩ := a1.r.own i hi
          have := (List.getElem?_eq_some_iff.mp z1).1
          rw [a1.r.len] at this
          exact this
        rw [e1, upE_in hj (fun j' h' => k.u j' j i h' hj) e3 hlt]
        rw [k.g j i hj] at q3
        exact ⟨v', d5, w2, rfl, ow_eq (fun b => (hmem b).symm) q3⟩
  refine q _ v A H3 ⟨h1, a1.k.trans h2, fun z => nomatch z⟩ hcB key (ow_eq (fun b => ?_) ho)
  rw [mem_hide, mem_hide, h3 b]
end
end Sv

namespace Sv
open PySem PySem.Spec PyProof.Rows L2 Pre Dv
/-! ## for the written-out texts -/
def gof (l : List (Nat × Nat)) (i : Nat) : Nat := (l.lookup i).getD 1
section
variable {K : PySem.W.Frag}
theorem ok_add : R2ok K (rI0 fun i j => .int (i + j)) addP := ok_i
theorem ok_sub : R2ok K (rI0 fun i j => .int (i - j)) subP := ok_i
theorem ok_mul : R2ok K (rI CMul fun i j => .int (i * j)) mulP := ok_c fun i j h => by simpa [CMul] using h
theorem ok_mod : R2ok K (rI (fun _ j => 0 < j) fun i j => .int (i % j)) modP := ok_c fun i j h => by simpa using h
theorem ok_div : R2ok K (rI CDiv fun i j => .int (i / j)) divP := ok_c fun i j h => by simpa [CDiv] using h
theorem ok_pow : R2ok K (rI CPow fun i j => .int (i ^ j.toNat)) powP := ok_c fun i j h => by simpa [CPow] using h
theorem ok_shl : R2ok K (rI CPow fun i j => .int (i * 2 ^ j.toNat)) shlP := ok_c fun i j h => by simpa [CPow] using h
theorem ok_shr : R2ok K (rI (fun _ j => 0 ≤ j) fun i j => .int (i / 2 ^ j.toNat)) shrP := ok_c fun i j h => by simpa using h
theorem ok_band : R2ok K (rI0 fun i j => .int (Builtin.bitAnd i j)) bandP := ok_i
theorem ok_bor : R2ok K (rI0 fun i j => .int (Builtin.bitOr i j)) borP := ok_i
theorem ok_lt : R2ok K (rI0 fun i j => .bl (decide (i < j))) ltP := ok_b
theorem ok_le : R2ok K (rI0 fun i j => .bl (decide (i ≤ j))) leP := ok_b
theorem ok_gt : R2ok K (rI0 fun i j => .bl (decide (j < i))) gtP := ok_b
theorem ok_ge : R2ok K (rI0 fun i j => .bl (decide (j ≤ i))) geP := ok_b
abbrev max2P := o2 (ipi fun i j => if j > i then j else i)
abbrev min2P := o2 (ipi fun i j => if j < i then j else i)
theorem ok_max2 : BNok K (fun xs H Q => ∃ i j, xs = [.int i, .int j] ∧ Q (.int (if j > i then j else i)) H) max2P := ok_ii
theorem ok_min2 : BNok K (fun xs H Q => ∃ i j, xs = [.int i, .int j] ∧ Q (.int (if j < i then j else i)) H) min2P := ok_ii
abbrev strAP := o1 fun a => match a with
  | .str z => some (.str z)
  | a => (gI a).bind fun i => if i.natAbs.log2 < 1920 then some (.str (toString i : Str)) else none
theorem ok_strA : BNok K (fun xs H Q => (∃ i, xs = [.int i] ∧ i.natAbs.log2 < 1920 ∧ Q (.str (toString i : Str)) H) ∨ ∃ a, xs = [.str a] ∧ Q (.str a) H) strAP := ok1 fun a d h O H x Q l hx q => by
  cases a <;> simp [gI] at h
  · obtain ⟨h1, h2⟩ := h
    subst h2
    exact .inl ⟨_, by rw [dp_int hx], h1, q _ H (Same.refl H) (.str _)⟩
  · subst h
    exact .inr ⟨_, by rw [dp_str hx], q _ H (Same.refl H) (.str _)⟩
def ixAP : PyData → PyData → Option PyData := fun a b => match a with
  | .str _ => ixSP a b
  | .tuple _ => ixTP a b
  | _ => ixLP a b
theorem ok_ixA : R2ok K (rIx K) ixAP := fun a b d h O H x y Q l hx hy q => by
  cases a <;> simp only [ixAP] at h
  all_goals first
    | exact .inr (.inr (ok_ixS (K := K) _ _ _ h O H x y Q l hx hy q))
    | exact .inr (.inl (ok_ixT (K := K) _ _ _ h O H x y Q l hx hy q))
    | exact .inl (ok_ixL (K := K) _ _ _ h O H x y Q l hx hy q)
def m0F (g : PyData → Option PyData) (F : Fx) : Fx := fun env => (F env).bind fun x => (g x.1).map fun d => (d, x.2)
theorem fv_upper {G : Nat → Nat} {W S : List Nat} {p : Bool} {te : TE} {F : Fx} (h : fEV K G W S p te F) : fEV K G W S p (tM0 (fun x xs H Q => ∃ a, x = .str a ∧ xs = [] ∧ a.length ≤ 5592405 ∧ Q (.str (Txt.upper a)) H) te) (m0F (fun d => (gS d).bind fun z => if z.length ≤ 5592405 then some (.str (Txt.upper z)) else none) F) := fun env d env' e c f H σ r Q q => by
  obtain ⟨x, e1, e⟩ := bd e
  obtain ⟨y, e2, e⟩ := mp e
  cases e
  obtain ⟨z, e3, e2⟩ := bd e2
  split at e2
  · rename_i hl
    cases e2
    refine h env x.1 x.2 e1 c f H σ r _ fun f1 v H1 a1 hv => ?_
    rw [gS_eq e3] at hv
    exact ⟨⟨z, dp_str hv⟩, z, dp_str hv, rfl, hl, q f1 _ H1 a1 (.str _)⟩
  · cases e2
def splP : PyData → PyData → Option (List PyData) := fun a b => (gS a).bind fun s => (gS b).bind fun t => if (t.length == 0) = false ∧ s.length + 2 ≤ 100000 then some ((Txt.split s t).map .str) else none
theorem strs_all {H : Hp} (ys : List Str) : DqAll K H (ys.map V.str) (ys.map .str) := by
  induction ys with
  | nil => exact .nil
  | cons n r ih => exact .cons (.str n) ih
theorem ef_split {G : Nat → Nat} {W S : List Nat} {p p2 : Bool} {ta tb : TE} {F F2 : Fx} (h : fEV K G W S p ta F) (h2 : fEV K G W S p2 tb F2) (hS : S = [] ∨ p2 = true := by decide) :
    fEF K G W 1 (p && p2) (tM1 (fun x xs H Q => ∃ a b, x = .str a ∧ xs = [.str b] ∧ (b.length == 0) = false ∧ a.length + 2 ≤ sizeLine ∧ rNewStrs (Txt.split a b) H Q) ta tb) (op2f S splP F F2) := fun env d env' e c f H σ r Q q => by
  obtain ⟨x, e1, e⟩ := bd e
  obtain ⟨y, e2, e⟩ := bd e
  obtain ⟨es, e3, e⟩ := bd e
  split at e
  case isFalse => cases e
  cases e
  obtain ⟨s, g1, e3⟩ := bd e3
  obtain ⟨t, g2, e3⟩ := bd e3
  split at e3
  · rename_i hl
    cases e3
    refine h env x.1 x.2 e1 c f H σ r _ fun f1 u H1 a1 hu => ?_
    rw [gS_eq g1] at hu
    refine ⟨⟨s, dp_str hu⟩, h2 x.2 y.1 y.2 e2 c f1 H1 σ a1.r _ fun f2 v H2 a2 hv => ?_⟩
    rw [gS_eq g2] at hv
    exact ⟨s, t, dp_str hu, by rw [dp_str hv], hl.1, sz hl.2, fun pp np => new_list (a1.trans a2) np (strs_all _) q⟩
  · cases e3
/-- text.index(part), where it is there -/
def idxF (F F2 : Fx) : Fx := fun env => (F env).bind fun x => (F2 x.2).bind fun y => (gS x.1).bind fun s => (gS y.1).bind fun t => (Txt.index0 s t).map fun k => (.int (k : Nat), y.2)
theorem fv_index {G : Nat → Nat} {W S : List Nat} {p p2 : Bool} {ta tb : TE} {F F2 : Fx} {WW : WX} (h : fEV K G W S p ta F) (h2 : fEV K G W S p2 tb F2) : fEV K G W S (p && p2) (tBMS K "str" (rIndexX WW) ta (tCons tb tNil)) (idxF F F2) := fun env d env' e c f H σ r Q q => by
  obtain ⟨x, e1, e⟩ := bd e
  obtain ⟨y, e2, e⟩ := bd e
  obtain ⟨s, g1, e⟩ := bd e
  obtain ⟨t, g2, e⟩ := bd e
  obtain ⟨k, g3, e⟩ := mp e
  cases e
  refine h env x.1 x.2 e1 c f H σ r _ fun f1 u H1 a1 hu => ?_
  rw [gS_eq g1] at hu
  cases dp_str hu
  refine ⟨rfl, h2 x.2 y.1 y.2 e2 c f1 H1 σ a1.r _ fun f2 v H2 a2 hv => ?_⟩
  rw [gS_eq g2] at hv
  cases dp_str hv
  refine ⟨s, t, rfl, rfl, fun j hj => ?_, fun hn => ?_⟩
  · rw [g3] at hj
    cases hj
    exact q f2 _ H2 (a1.trans a2) (.int _)
  · rw [g3] at hn
    cases hn
end
def parF3 (i j l : Nat) (L : Fa) : Fs := fun env => (L env).bind fun x => match x.1 with
  | [a, b, c] => some (.nx (((x.2.set i (some a)).set j (some b)).set l (some c)))
  | _ => none
theorem fs_par3 {K : PySem.W.Frag} {G : Nat → Nat} {Ms : List Nat} {fr : Option Nat} {Wx : WX} {WL W : List Nat} {p : Bool} {L : Fa} {i j l : Nat} {tl : TA} (h : fEA K G W [] p tl L) (hi : i ∉ W := by decide) (hj : j ∉ W := by decide) (hl : l ∉ W := by decide) :
    fST K G Ms fr Wx WL W (tPar3 i j l tl) (parF3 i j l L) W := fun env o e c f H σ D r hM k => by
  obtain ⟨x, e1, e⟩ := bd e
  split at e
  · rename_i a b d hx
    cases e
    refine h env x.1 x.2 e1 c f H σ r _ fun f1 vs H1 a1 hv => ?_
    have hv := unSA hv
    rw [hx] at hv
    cases hv with
    | cons q1 q2 =>
    cases q2 with
    | cons q2 q3 =>
    cases q3 with
    | cons q3 q4 =>
    cases q4
    exact ⟨_, _, _, rfl, k f1 H1 _ (((a1.r.set hi q1).set hj q2).set hl q3)⟩
  · cases e
/-! rows of own lists of lists -/
theorem owA_get {P : V → PyData → List Addr → Prop} {vs : List V} {ds : List PyData} {A : List Addr} (h : OwA P vs ds A) : ∀ {k : Nat} {d : PyData}, ds[k]? = some d → ∃ v B, vs[k]? = some v ∧ P v d B ∧ ∀ b ∈ B, b ∈ A := by
  induction h with
  | nil => intro k d e; simp at e
  | cons h1 h2 h3 ih =>
    intro k d e
    cases k with
    | zero => exact ⟨_, _, rfl, by simpa using (by simpa using e : _ = d) ▸ h1, fun b hb => List.mem_append_left _ hb⟩
    | succ k =>
      obtain ⟨v, B, g1, g2, g3⟩ := ih (k := k) e
      exact ⟨v, B, g1, g2, fun b hb => List.mem_append_right _ (g3 b hb)⟩
theorem owA_put {K : PySem.W.Frag} {O : List Addr} {H : Hp} {vs : List V} {ds : List PyData} {A : List Addr} {b : Addr} {ws' : List V} {es' : List PyData} (hb : b ∈ O) (hn : DA K O (upd H b (.lst ws')) ws' es') (h : OwA (Ow K O H 1) vs ds A) :
    (∀ {k : Nat} {ws : List V} {es : List PyData}, vs[k]? = some (.ref b) → ds[k]? = some (.list es) → H b = some (.lst ws) → b ∈ A → OwA (Ow K O (upd H b (.lst ws')) 1) vs (ds.set k (.list es')) A) ∧ (b ∉ A → OwA (Ow K O (upd H b (.lst ws')) 1) vs ds A) := by
  have other : ∀ {v d B}, b ∉ B → Ow K O H 1 v d B → Ow K O (upd H b (.lst ws')) 1 v d B := fun {v d B} hB ho => ow_keep (rm_mut hb) _ _ _ _ ho fun a ha o e => by
    rw [upd_ne fun z => hB (by rw [← z]; exact ha)]
    exact e
  induction h with
  | nil => exact ⟨fun e => by simp at e, fun _ => .nil⟩
  | @cons v vs d ds A A' h1 h2 h3 ih =>
    refine ⟨fun {k ws es} e1 e2 e3 e4 => ?_, fun e4 => .cons (other (fun z => e4 (List.mem_append_left _ z)) h1) (ih.2 fun z => e4 (List.mem_append_right _ z)) h3⟩
    cases k with
    | zero =>
      have ev : v = .ref b := by simpa using e1
      obtain ⟨a, ws0, es0, A0, q1, q2, q3, q4, q5, q6⟩ := h1
      rw [ev] at q1
      cases q1
      obtain ⟨q7, q8⟩ := owA_to q6
      subst q7
      have hA : A = [b] := q3
      subst hA
      refine .cons ⟨b, ws', es', [], ev, rfl, rfl, upd_same, by simp, owA_of hn⟩ (ih.2 fun z => h3 b List.mem_cons_self z) h3
    | succ k =>
      by_cases hbA : b ∈ A'
      · exact .cons (other (fun z => h3 b z hbA) h1) (ih.1 (k := k) e1 e2 e3 hbA) h3
      · -- the row stands among the rest, so its node does
        exfalso
        obtain ⟨v', B, g1, g2, g3⟩ := owA_get h2 (k := k) (d := .list es) e2
        have e1' : vs[k]? = some (.ref b) := e1
        rw [e1'] at g1
        cases g1
        obtain ⟨a, _, _, _, z1, _, z3, _⟩ := g2
        cases z1
        exact hbA (g3 b (by rw [z3]; exact List.mem_cons_self))
theorem fs_item2 {K : PySem.W.Frag} {G : Nat → Nat} {Ms : List Nat} {fr : Option Nat} {Wx : WX} {WL W : List Nat} {p p2 : Bool} {te tj tk : TE} {F Fj Fk : Fx} {i : Nat} (h : fEV K G W [] p te F) (hj : fEV K G W [] p2 tj Fj) (hk : fEV K G W [] true tk Fk) (hi : i ∈ W := by decide) (hG : G i = 2 := by decide) :
    fST K G Ms fr Wx WL W (tAsg te (gSub (tOp (rIxL K) (tVar i) tj) tk rSetL)) (itm2F i F Fj Fk) W := fun env o e c f H σ D r hM k => by
  obtain ⟨x, e1, e⟩ := bd e
  obtain ⟨y, e2, e⟩ := bd e
  obtain ⟨z, e3, e⟩ := bd e
  obtain ⟨l, e4, e⟩ := bd e
  obtain ⟨ds, e5, e⟩ := bd e
  obtain ⟨zj, e6, e⟩ := bd e
  obtain ⟨nj, e7, e⟩ := bd e
  obtain ⟨row, e8, e⟩ := bd e
  obtain ⟨es, e9, e⟩ := bd e
  obtain ⟨zk, e10, e⟩ := bd e
  obtain ⟨nk, e11, e⟩ := mp e
  subst e
  refine h env x.1 x.2 e1 c f H σ r _ fun f1 v H1 a1 hv => ?_
  obtain ⟨v0, d0, h1, _, _⟩ := a1.r.own i hi
  refine ⟨v0, h1, hj x.2 y.1 y.2 e2 c f1 H1 σ a1.r _ fun f2 w H2 a2 hw => ?_⟩
  have hw := unS hw
  rw [gI_eq e6] at hw
  cases dp_int hw
  obtain ⟨v2, d2, g1, g2, g3⟩ := a2.r.own i hi
  rw [h1] at g1
  cases g1
  obtain ⟨e12, _⟩ := vr_eq e4
  rw [g2] at e12
  rw [hG] at g3
  obtain ⟨a, vs, ds', A', rfl, rfl, hf, g4, g5, g6⟩ := g3
  have ed : ds' = ds := by
    have h0 : PyData.list ds' = l.1 := by simpa using e12
    rw [gL_eq e5] at h0
    exact PyData.list.inj h0
  rw [ed] at g6
  -- the row
  obtain ⟨vr', B, q1, q2, q3⟩ := owA_get g6 e8
  rw [gL_eq e9] at q2
  obtain ⟨b, ws, es', B', rfl, q4, q5, q6, q7, q8⟩ := q2
  have ee : es = es' := PyData.list.inj q4
  rw [← ee] at q8
  obtain ⟨q9, q10⟩ := owA_to q8
  have hlen : vs.length = ds.length := g6.len
  refine ⟨a, vs, zj, .ref b, rfl, rfl, SqL.of g4, by unfold atI; rw [hlen, e7]; exact q1, ?_⟩
  refine hk y.2 z.1 z.2 e3 c f2 H2 σ a2.r _ fun f3 u H3 a3 hu => ?_
  obtain ⟨p1, p2, p3⟩ := a3.pu rfl
  subst p1
  have hu := unS hu
  rw [gI_eq e10] at hu
  refine ⟨b, ws, zk, nk, rfl, dp_int hu, p2 _ _ q6, by rw [dpAll_len q10]; exact e11, ?_⟩
  have hbA : b ∈ A' := q3 b (by rw [q5]; exact List.mem_cons_self)
  have hbO : b ∈ hid c.O W f3 := mem_hid.mpr (.inr ⟨i, hi, by rw [hf]; exact List.mem_cons_of_mem _ hbA⟩)
  have hba : b ≠ a := fun z => g5 (by rw [← z]; exact hbA)
  have hv3 : DO K (hid c.O W f3) H3 v x.1 := unS (a3.seen (.inl rfl) (a2.seen (.inl rfl) hv))
  have hn : DA K (hid c.O W f3) (upd H3 b (.lst (ws.set nk v))) (ws.set nk v) (es.set nk x.1) := dpAll_same (rm_mut hbO) _ _ (dpAll_set nk (DA.same q10 p2) hv3)
  have g63 : OwA (Ow K (hid c.O W f3) H3 1) vs ds A' := g6.mono fun v d B _ hv => ow_keep (rm_same p2) _ _ _ _ hv fun _ _ _ e => p2 _ _ e
  have hput := (owA_put hbO hn g63).1 q1 (by rw [e8, gL_eq e9]) (p2 _ _ q6) hbA
  have r4 := a3.r.put (H' := upd H3 b (.lst (ws.set nk v))) (A' := f3 i) (d' := .list (ds.set nj (.list (es.set nk x.1)))) hi h1 (fun b' o' hb' e' => by
    rw [upd_ne fun z => hb' (by rw [z, hf]; exact List.mem_cons_of_mem _ hbA)]
    exact e') (fun b' hb' => .inl hb') (by
    rw [updf_self, hG, hf]
    exact ⟨a, vs, _, A', rfl, rfl, rfl, by rw [upd_ne (Ne.symm hba)]; exact p2 _ _ g4, g5, hput⟩)
  rw [updf_self] at r4
  exact k f3 _ σ r4
/-! handing own lists on -/
def msOf (ks : List (Option Nat)) : List Nat := (List.range ks.length).filter fun j => (ks.getD j none).isSome
theorem ksOk {ks : List (Option Nat)} {ms W : List Nat} {G G' : Nat → Nat} (hm : msOf ks = ms := by decide) (h : ∀ j ∈ List.range ks.length, ∀ i ∈ (ks.getD j none).toList, i ∈ W ∧ G' j = G i ∧ ∀ j' ∈ List.range ks.length, ks.getD j' none = some i → j = j' := by decide) : KsOk ks ms W G G' := by
  have key : ∀ (j i : Nat), ks[j]? = some (some i) → j ∈ List.range ks.length ∧ i ∈ (ks.getD j none).toList ∧ ks.getD j none = some i := fun j i e => by
    have hj := (List.getElem?_eq_some_iff.mp e).1
    have e2 : ks.getD j none = some i := by simp [List.getD, e]
    exact ⟨List.mem_range.mpr hj, by rw [e2]; simp, e2⟩
  refine ⟨fun j i e => (h j (key j i e).1 i (key j i e).2.1).1, fun j => ?_, fun j j' i e e' => (h j (key j i e).1 i (key j i e).2.1).2.2 j' (key j' i e').1 (key j' i e').2.2, fun j i e => (h j (key j i e).1 i (key j i e).2.1).2.1⟩
  rw [← hm]
  unfold msOf
  rw [List.mem_filter, List.mem_range]
  constructor
  · rintro ⟨h1, h2⟩
    cases hk : ks[j]? with
    | none => rw [List.getElem?_eq_none_iff] at hk; omega
    | some o => cases o with
      | none => simp [List.getD, hk] at h2
      | some i => exact ⟨i, rfl⟩
  · rintro ⟨i, e⟩
    exact ⟨List.mem_range.mp (key j i e).1, by rw [(key j i e).2.2]; rfl⟩
/-! own slots given up at will -/
section
variable {K : PySem.W.Frag} {G : Nat → Nat} {Ms : List Nat} {fr : Option Nat} {Wx : WX} {WL W W1 W2 : List Nat} {t : TS} {s : Fs}
theorem SR.sub {c : Fr} {f : Nat → List Addr} {H : Hp} {σ : L2.St} {env : Env} (r : SR K G c W f H σ env) (hs : ∀ j ∈ W1, j ∈ W) (hM : ∀ q ∈ c.M, q.1 ∈ W1) : SR K G c W1 f H σ env := by
  have hmem : ∀ b, b ∈ hid c.O W1 f → b ∈ hid c.O W f := fun b hb => by
    rcases mem_hid.mp hb with h | ⟨j, hj, h⟩
    · exact mem_hid.mpr (.inl h)
    · exact mem_hid.mpr (.inr ⟨j, hs j hj, h⟩)
  have hsub : Same (rm (hid c.O W f) H) (rm (hid c.O W1 f) H) := rm_sub hmem
  refine ⟨r.base, fun b hb => r.live b (hmem b hb), fun j hj => r.new j (hs j hj), fun j hj k hk => r.dis j (hs j hj) k (hs k hk), r.len, fun j d hd hj => ?_, fun j hj => ?_, fun q hq => ⟨hM q hq, (r.fix q hq).2⟩⟩
  · by_cases hjW : j ∈ W
    · obtain ⟨v, d', h1, h2, h3⟩ := r.own j hjW
      rw [hd] at h2
      cases h2
      refine ⟨v, h1, ow_plain hsub _ _ _ _ h3 fun a ha z => ?_⟩
      rcases mem_hid.mp z with z | ⟨k, hk, z⟩
      · exact (r.new j hjW a ha).2 z
      · exact r.dis j hjW k (hs k hk) (fun e => hj (e ▸ hk)) a ha z
    · obtain ⟨v, h1, h2⟩ := r.val j d hd hjW
      exact ⟨v, h1, dp_same hsub _ _ h2⟩
  · obtain ⟨v, d, h1, h2, h3⟩ := r.own j (hs j hj)
    exact ⟨v, d, h1, h2, ow_keep hsub _ _ _ _ h3 fun _ _ _ e => e⟩
/-- .. ahead of a statement -/
theorem fs_in (W1 : List Nat) (h : fST K G Ms fr Wx WL W1 t s W2) (hs : ∀ j ∈ W1, j ∈ W := by decide) (hM' : ∀ j ∈ Ms, j ∈ W1 := by decide) : fST K G Ms fr Wx WL W t s W2 := fun env o e c f H σ D r hM k =>
  h env o e c f H σ D (r.sub hs fun q hq => hM' q.1 (by rw [← hM]; exact List.mem_map_of_mem hq)) hM k
/-- .. behind it -/
theorem fs_out (W1 : List Nat) (h : fST K G Ms fr Wx WL W t s W1) (hs : ∀ j ∈ W2, j ∈ W1 := by decide) (hM' : ∀ j ∈ Ms, j ∈ W2 := by decide) : fST K G Ms fr Wx WL W t s W2 := fun env o e c f H σ D r hM k =>
  h env o e c f H σ D r hM (by
    cases o with
    | nx e => exact fun f' H' σ' r' => k f' H' σ' (r'.sub hs fun q hq => hM' q.1 (by rw [← hM]; exact List.mem_map_of_mem hq))
    | rt d e => exact k
    | bk e => exact k
    | ct e => exact k
    | ex y e => exact k)
end
end Sv

namespace Gd
open PySem PySem.Spec PyProof.Rows L2 Pre Dv Sv
/-! ## defs that show data: a call's guards are known to be empty -/
structure FnG (P : Program) (w : World) (K : PySem.W.Frag) (mg : Str → Option Value) (base : Heap) (CX : CXT) (k : Nat) (f : Addr) (fd : FuncData) (ps : List Str) (sp : Sp) : Prop where
  many : ∀ vs H Q E, sp vs H Q E → vs.length = ps.length
  goes : ∀ (A : Around) (outer : List PySem.Env) (s : Shared) (H : Hp) (args : Args) (us : List Value) (vs : List V) (Q : VK) (E : XK), A.guards = some [] → Room k A → Env0 P w K mg base A outer s H →
    BindsTo s fd args (ps.zip us) → Vals vs us → sp vs H Q E → codeAny (model P w) A (.call (.ref f) args) (CR CX outer P w H s Q E) s
section
variable {P : Program} {w : World} {K : PySem.W.Frag} {mg : Str → Option Value} {base : Heap}
theorem FnG.mono {CX : CXT} {j k : Nat} {f : Addr} {fd : FuncData} {ps : List Str} {sp : Sp} (F : FnG P w K mg base CX j f fd ps sp) (h : j ≤ k) : FnG P w K mg base CX k f fd ps sp :=
  ⟨F.many, fun A outer s H args us vs Q E gd hr => F.goes A outer s H args us vs Q E gd (hr.mono h)⟩
/-- a def with the known one's promise -/
theorem FnG.ofOk {CX : CXT} {k : Nat} {f : Addr} {fd : FuncData} {ps : List Str} {sp : Sp} (F : FnOk P w K mg base CX k f fd ps sp) : FnG P w K mg base CX k f fd ps sp :=
  ⟨F.len, fun A outer s H args us vs Q E _ hr => F.run A outer s H args us vs Q E hr⟩
theorem okG {x qual : Str} {st : Stmt} {f : Addr} {fd : FuncData} {N ps : List Str} {k : Nat} {sp : Sp} (F : Fun K x qual st f fd) (S : FnScope N ps (defScope st)) (many : ∀ vs H Q E, sp vs H Q E → vs.length = ps.length)
    (body : ∀ (cdv : Value) (A : Around) (outer : List PySem.Env) (s : Shared) (H : Hp) (vs : List V) (Q : VK) (E : XK), A.guards = some [] → Room k (A.deeper (envOfC qual (defScope st) s.heap.objs.size f cdv)) → sp vs H Q E →
      ∃ t, PSs (cxOf CX0 P w K mg base N qual (defScope st) f cdv A outer s H E).nox (defBody st) t ∧ t { nx := fun _ H' => Q .non H', rt := Q } (L2.start N vs) H) : FnG P w K mg base CX0 (k + 1) f fd ps sp := by
  obtain ⟨oc, od, kV, doc, pm, an, cdv, ct, osl, rfl, lk, hcd⟩ := F.ex
  refine ⟨many, fun A outer s H args us vs Q E gd hr e0 hb r hsp => ?_⟩
  have hl := many vs H Q E hsp
  have kx : K.In s.heap := e0.mod.kin.keeps fun b o z => (e0.bs b o z).1
  have nl : s.heap.NoLimit := e0.mod.nolimit.keeps fun b o z => (e0.bs b o z).1
  have kinds : ∀ y ∈ ps.zip us, (defScope st).names.lookup y.1 = some .local ∨ ((defScope st).names.lookup y.1 = some .cell ∧ ((cellsFrom (s.heap.objs.size + 1) (defScope st).names []).lookup y.1).isSome = true) := by
    rintro ⟨n, v⟩ hy
    cases S.par n (List.of_mem_zip hy).1 with
    | inl q => exact .inl q
    | inr q => exact .inr ⟨q, PySem.W.cellsFrom_some _ _ _ (.inl q)⟩
  refine codeAny_call_function hr.depth (kx _ _ lk) rfl S.co S.gen rfl (PySem.W.codeRec_of kx hcd) (hb _ _ _ _ (wpAny_newFunctionEnv_cells S.kind kinds fun env he s1 x => ?_))
  subst he
  obtain ⟨t, ht, hq⟩ := body cdv A outer s H vs Q E gd (hr.deeper _) hsp
  have J0 : Inv (cxOf CX0 P w K mg base N qual (defScope st) f cdv A outer s H E) [] (L2.start N vs) H s1 := inv_start S hr.hd e0 hl r x
  refine ⟨nl.keeps x.toInCall.keep, codeAny_func (wpAny_mono (ht.nox.run [] s1 (L2.start N vs) H _ J0 hq) (fun fl s' hs => ?_) fun _ _ z => z)⟩
  cases fl with
  | brk => exact hs.elim fun _ z => z.elim fun _ z => z.2.elim
  | cont => exact hs.elim fun _ z => z.elim fun _ z => z.2.elim
  | ret u =>
    obtain ⟨v, σ', H', J, rv, q⟩ := hs
    exact ⟨v, H', J.os, J.bare, J.base, J.hok, rv, q⟩
  | next =>
    obtain ⟨σ', H', J, q⟩ := hs
    exact ⟨.non, H', J.os, J.bare, J.base, J.hok, rfl, q⟩
end
section
variable {X : Cx} {CX : CXT} {k : Nat} {f : Addr} {fd : FuncData} {ps : List Str} {sp : Sp} {dvs : List V} {ds : List Value} {E : XK} {x : Str} {p pos : Pos} {e : Expr} {es : List Expr} {t : TA}
theorem runG {pins : List (Addr × Obj)} {σ : L2.St} {H : Hp} {s : Shared} {Q : VK} {us : List Value} {vs : List V} (F : FnG X.prog X.w X.K X.mg X.base CX k f fd ps sp) (gd : X.A.guards = some []) (hr : Room k X.A) (hb : Binds X.K fd ps ds) (hd : Vals dvs ds) (hx : Passes CX X E)
    (I : Inv X pins σ H s) (r : Vals vs us) (h : sp (vs ++ dvs) H Q E) : wpAny (model X.prog X.w) X.A (call (.ref f) us) (EP X pins σ Q) X.xe s := by
  have r2 := r.append hd
  refine wpAny_call (codeAny_mono (F.goes X.A X.stack s H ⟨us, []⟩ (us ++ ds) (vs ++ dvs) Q E gd hr I.env0 (hb s us I.kIn (by rw [← r2.length]; exact F.many _ _ _ _ h)) r2 h) ?_)
  intro res s' hq
  match res, hq with
  | .error er, hq => exact hx pins σ H s er s' I hq
  | .ok (.ret u), hq => exact I.after hq
  | .ok .next, hq => exact False.elim hq
  | .ok .brk, hq => exact False.elim hq
  | .ok .cont, hq => exact False.elim hq
theorem pe_callG (F : FnG X.prog X.w X.K X.mg X.base CX k f fd ps sp) (gd : X.A.guards = some []) (hr : Room k X.A) (hg : Gl X x) (hm : X.mg x = some (.ref f)) (hk : PySem.W.keepIn X.K (.ref f) = true) (hb : Binds X.K fd ps ds) (hd : Vals dvs ds) (hx : Passes CX X E)
    (ha : PA X (e :: es) t) (hdb : (x == ("__debug__" : Str)) = false := by decide) (he : starEach (e :: es) X.env = (false, eval e X.env) :: starEach es X.env := by rfl) (hpl : (backTo pos (starEach es X.env)).any (·.1) = false := by rfl) :
    PE X (.Call (.Name x p) (e :: es) [] pos) (tCall sp dvs E t) :=
  ⟨fun pins s σ H Q I h => wpAny_Call_Name_kw (ld_glob I hg hm (PySem.W.callWith_K (h₀ := X.base) I.ok.mod.kin hk (thn (ha.run pos pins s σ H _ I h) fun us s1 ⟨vs, H1, I1, r, q⟩ => ⟨I1.kIn, runG F gd hr hb hd hx I1 r q⟩) he hpl) hdb)⟩
theorem pe_call0G (F : FnG X.prog X.w X.K X.mg X.base CX k f fd ps sp) (gd : X.A.guards = some []) (hr : Room k X.A) (hg : Gl X x) (hm : X.mg x = some (.ref f)) (hk : PySem.W.keepIn X.K (.ref f) = true) (hb : Binds X.K fd ps ds) (hd : Vals dvs ds) (hx : Passes CX X E)
    (hdb : (x == ("__debug__" : Str)) = false := by decide) : PE X (.Call (.Name x p) [] [] pos) (tCall sp dvs E tNil) :=
  ⟨fun pins s σ H Q I h => wpAny_Call_Name_kw (ld_glob I hg hm (PySem.W.callWith_K0 I.kIn hk (runG (us := []) F gd hr hb hd hx I .nil h)) hdb)⟩
/-- repr(x) of lists and tuples of plain things -/
def rShow (K : PySem.W.Frag) : List V → Hp → VK → Prop := fun xs H Q => ∃ (x : V) (d : PyData), xs = [x] ∧ Dp K H x d ∧ d.showable = true ∧ d.hasDict = false ∧ isDisplay d = true ∧ d.depth < 60 ∧ d.shown.length ≤ sizeLine ∧ Q (.str d.shown) H
theorem call_show (gd : X.A.guards = some []) (hu : X.A.units + 64 < cLine) : CallR X (.builtin "repr") (rShow X.K) := by
  intro pins s σ H xs us Q I r h
  obtain ⟨x, d, rfl, hd, h1, h2, h3, h4, h5, q⟩ := h
  cases r with
  | cons r1 r2 =>
    cases r2
    obtain ⟨as, rd⟩ := Dp.reads I d x _ hd r1
    obtain ⟨a, rfl⟩ := isRef_of_reads rd h3
    refine repr_of_reads' rd h1 (PyData.noDict_hsm h2) gd (by omega) (fun _ _ z => z) (fun h' u tk hk => ?_) h5
    exact ⟨.str d.shown, H, I.kept hk, ⟨_, rfl⟩, q⟩
end
/-- the law's own call, by a promise that knows of the guards -/
theorem lawG {P : Program} {w : World} {K : PySem.W.Frag} {mg mb : Str → Option Value} {k : Nat} {fa a : Addr} {fd : FuncData} {x : Str} {sp : Sp} {s₁ : Shared} {vs : List Value} {ns : List Int}
    (kx : K.In s₁.heap) (hns : s₁.heap.Ns mainGlobals mg) (hb : s₁.heap.Ns builtinsNs mb) (hbb : ∀ x : Str, x ≠ "__name__" → mb x = bootBuiltins x) (nl : s₁.heap.NoLimit) (hg : s₁.gens = #[])
    (ha : s₁.heap.get? a = some { cls := .type "list", data := .seq vs.toArray }) (hi : IntsAre vs ns) (hl : ns.length ≤ sizeLine) (hr : Room k callerA)
    (F : ∀ base : Heap, K.In base → base.Ns mainGlobals mg → FnG P w K mg base CX0 k fa fd [x] sp) (bind1 : ∀ (s : Shared) (u : Value), BindsTo s fd ⟨[u], []⟩ [(x, u)])
    (hsp : ∀ H : Hp, Only H → SqL K H a (ns.map V.int) → sp [.ref a] H (fun v _ => v = .bl true) fun _ _ _ => False) :
    codeAny (model P w) callerA (.call (.ref fa) ⟨[.ref a], []⟩) (fun r s' => r = .ok (.ret (.bool true)) ∧ OldK s₁.heap s'.heap ∧ s'.os = s₁.os ∧ AllBare s'.gens) s₁ := by
  have rv := vals_ints hi
  have lv := hi.length
  -- the abstract heap: the script, or nothing
  obtain ⟨H, hO, hS, hok, hA, hK⟩ : ∃ H : Hp, Only H ∧ SqL K H a (ns.map V.int) ∧ HOk P w H s₁.heap ∧ (∀ b, H b ≠ none → b = a) ∧ (H a ≠ none → K.lookup a = none) := by
    cases hk : K.lookup a with
    | some o =>
      have z := kx a o hk
      rw [ha] at z
      cases z
      refine ⟨fun _ => none, fun _ => .inl rfl, .inr ⟨_, vs.toArray, _, hk, rfl, rfl, rfl, by rw [List.size_toArray, lv]; exact hl, by simpa using rv⟩, ?_, ?_, ?_⟩
      · intro b u z
        cases (z : (none : Option HO) = some u)
      · intro b z
        exact absurd rfl z
      · intro z
        exact absurd rfl z
    | none =>
      let o : Obj := { cls := .type "list", data := .seq vs.toArray }
      let H : Hp := fun b => if b = a then some (.frz o (.lst (ns.map V.int))) else none
      have at_a : H a = some (.frz o (.lst (ns.map V.int))) := if_pos rfl
      have off : ∀ b, b ≠ a → H b = none := fun b hb => if_neg hb
      refine ⟨H, fun b => ?_, .inl (.inr ⟨o, at_a⟩), fun b u z => ?_, fun b z => ?_, fun _ => rfl⟩
      · by_cases e : b = a
        · rw [e]; exact .inr ⟨o, _, at_a⟩
        · exact .inl (off b e)
      · by_cases e : b = a
        · subst e
          cases at_a.symm.trans z
          exact ⟨ha, by rw [List.length_map]; exact hl, vs, _, rv, ha⟩
        · rw [off b e] at z; cases z
      · by_cases e : b = a
        · exact e
        · exact absurd (off b e) z
  have none_or : ∀ b, b ≠ a → H b = none := fun b hb => Classical.byContradiction fun z => hb (hA b z)
  have dict_free : ∀ {b : Addr} {o : Obj} {es : Array DictEntry} {ep : Nat}, s₁.heap.get? b = some o → o.data = .dict es ep → H b = none := fun {b o es ep} e d => none_or b fun z => by
    rw [z, ha] at e
    cases e
    cases d
  have ns_kept : ∀ {b : Addr} {m : Str → Option Value}, s₁.heap.Ns b m → (hidT s₁.heap H).Ns b m := fun {b m} ⟨o, es, ep, e, d, r⟩ => ⟨o, es, ep, hidT_get e (dict_free e d), d, r⟩
  have kb : K.In (hidT s₁.heap H) := fun b o e => hidT_get (kx b o e) (by
    cases q : H b with
    | none => rfl
    | some u =>
      have e' : b = a := hA b (by rw [q]; simp)
      subst e'
      rw [hK (by rw [q]; simp)] at e
      cases e)
  have md : Mod K mg (hidT s₁.heap H) := ⟨kb, ns_kept hns, ⟨mb, ns_kept hb, hbb⟩, nl.elim fun mc z => ⟨mc, ns_kept z.1, z.2⟩⟩
  have no_ex : ∀ b : Addr, b ∉ ([] : List Addr) := fun b z => by cases z
  have e0 : Env0 P w K mg (hidT s₁.heap H) callerA [] s₁ H := ⟨rfl, md, fun b o e => of_hidT e, Nat.le_of_eq (hidT_size _ _), trivial, fun b z => absurd z (no_ex b), hok, .of_eq hg⟩
  refine codeAny_mono ((F _ kb (ns_kept hns)).goes callerA [] s₁ H ⟨[.ref a], []⟩ [.ref a] [.ref a] _ _ rfl hr e0 (bind1 s₁ (.ref a)) (.cons rfl .nil) (hsp H hO hS)) fun r s' h => ?_
  match r, h with
  | .error e, h => exact h.elim
  | .ok .next, h => exact False.elim h
  | .ok .brk, h => exact False.elim h
  | .ok .cont, h => exact False.elim h
  | .ok (.ret u), h =>
    obtain ⟨v, H', os, bare, un, hok', r', q⟩ := h
    have q1 : v = .bl true := q
    subst q1
    have r1 : u = Value.bool true := r'
    subst r1
    refine ⟨rfl, OldK.of_keep fun b o e => ?_, os, bare⟩
    rcases hO b with z | ⟨ob, xs, z⟩
    · exact un.keep b o e z (fun y => no_ex b y) (no_ex b)
    · obtain ⟨g1, _⟩ := hok b _ z
      obtain ⟨g2, _⟩ := hok' b _ (un.frzs b ob _ z)
      rw [e] at g1
      cases g1
      exact g2
theorem walkG {l : PySem.W.OpenLaw} {n k : Nat} {q : Program} {loose : List Str} {XP : (Str → Option Value) → Heap → Prop} {YP : World → Heap → Prop} {d : DefRec} {K : Params → PySem.W.Frag} {sp : World → Sp} {x : Str}
    (hn : l.most = some n) (hn2 : n ≤ sizeLine) (hdf : d.params.defaults = []) (hr : Room k callerA) (hY : ∀ (w : World) (h : Heap), YP w h → (K w.params).In h)
    (F : ∀ (w : World) (mg : Str → Option Value) (fa : Addr) (h : Heap), (K w.params).In h → h.Ns mainGlobals mg → mg d.name = some (.ref fa) → ∃ fd : FuncData, (∀ (s : Shared) (u : Value), BindsTo s fd ⟨[u], []⟩ [(x, u)]) ∧
      ∀ base : Heap, (K w.params).In base → base.Ns mainGlobals mg → FnG l.prog w (K w.params) mg base CX0 k fa fd [x] (sp w))
    (hsp : ∀ (w : World) (H : Hp) (a : Addr) (ns : List Int), ns.length ≤ n → Only H → SqL (K w.params) H a (ns.map V.int) → sp w [.ref a] H (fun v _ => v = .bl true) fun _ _ _ => False) :
    PySem.W.WalkO q loose XP YP l.row.toRowW d [] (fun f vs => PySem.call f vs) :=
  Att.attach_call hn hdf fun w s₀ s₁ mg mb fa o pm cd doc a vs ns G Y ho hd hcd hmg hobj hints hlen hg => by
    have kx := hY w _ Y
    obtain ⟨fd, hb, hF⟩ := F w mg fa _ kx G.T.g hmg
    exact lawG kx G.T.g G.T.b G.T.builtins G.T.nolimit hg hobj hints (Nat.le_trans hlen hn2) hr hF hb fun H hO hS => hsp w H a ns hlen hO hS
/-! the functions of data, with the guards known -/
theorem fx_okG {P : Program} {w : World} {K : PySem.W.Frag} {mg : Str → Option Value} {base : Heap} {G : Nat → Nat} {ms : List Nat} {fr : Option Nat} {x qual : Str} {st : Stmt} {f : Addr} {fd : FuncData} {N ps : List Str} {k : Nat} {s : Fs} (F : Fun K x qual st f fd) (S : FnScope N ps (defScope st))
    (hbody : ∀ (cdv : Value) (A : Around) (outer : List PySem.Env) (s0 : Shared) (H : Hp) (E : XK), A.guards = some [] → Room k (A.deeper (envOfC qual (defScope st) s0.heap.objs.size f cdv)) →
      ∃ t, PSs (cxOf CX0 P w K mg base N qual (defScope st) f cdv A outer s0 H E).nox (defBody st) t ∧ fST K G ms fr noX [] ms t s ms) :
    FnG P w K mg base CX0 (k + 1) f fd ps (SpX K G ms fr (gDef ms fr N ps.length s)) := by
  refine okG F S (fun vs H Q E h => ?_) (fun cdv A outer s0 H vs Q E gd hr h => ?_)
  · obtain ⟨c, f, ds, d, post, r, _, h2, _⟩ := h
    have := r.len
    simp at this
    rw [this, gDef_len h2]
  · obtain ⟨t, ht, hst⟩ := hbody cdv A outer s0 H E gd hr
    exact ⟨t, ht, fx_run hst h⟩
def showP : List PyData → Option PyData := o1 fun a => if (a.showable = true ∧ a.hasDict = false ∧ isDisplay a = true) ∧ a.depth < 60 ∧ a.shown.length ≤ 100000 ∧ a.canLay0 = true then some (.str a.shown) else none
theorem ok_show {K : PySem.W.Frag} : BNok K (rShow K) showP := ok1 fun a d h O H x Q l hx q => by
  split at h
  · rename_i hh
    cases h
    exact ⟨x, a, rfl, dq_dp _ _ (.inr hh.2.2.2) (DO.low hx), hh.1.1, hh.1.2.1, hh.1.2.2, hh.2.1, sz hh.2.2.1, q _ H (Same.refl H) (.str _)⟩
  · cases h
end Gd

namespace Sv
open PySem PySem.Spec PyProof.Rows L2 Pre Dv
/-! ## reckoning with the functions of data: what simp is handed, and rules for loops and comprehensions -/
theorem gI_int (i : Int) : Sv.gI (.int i) = some i := rfl
theorem gS_str (i : Str) : Sv.gS (.str i) = some i := rfl
theorem gB_bool (i : Bool) : Sv.gB (.bool i) = some i := rfl
theorem gL_list (i : List PyData) : Sv.gL (.list i) = some i := rfl
theorem gT_tuple (i : List PyData) : Sv.gT (.tuple i) = some i := rfl
theorem gR_list (i : List PyData) : Sv.gR (.list i) = some i := rfl
theorem gQ_list (i : List PyData) : Sv.gQ (.list i) = some i := rfl
theorem gQ_tuple (i : List PyData) : Sv.gQ (.tuple i) = some i := rfl
theorem gQ_scr (ns : List Int) : Sv.gQ (Sv.scr ns) = some (ns.map .int) := by
  have := Sv.gR_scr ns
  simpa [Sv.gQ, Sv.gR, Sv.scr] using this
theorem asL_scr (ns : List Int) : asL (Sv.scr ns) = .list (ns.map .int) := by simp [asL, gR_scr]
theorem asL_list (ds : List PyData) : asL (.list ds) = .list ds := rfl
theorem asL_tuple (ds : List PyData) : asL (.tuple ds) = .tuple ds := rfl
theorem asL_int (i : Int) : asL (.int i) = .int i := rfl
theorem asL_str (i : Str) : asL (.str i) = .str i := rfl
theorem asL_bool (i : Bool) : asL (.bool i) = .bool i := rfl
theorem asL_none : asL .none = .none := rfl
theorem shaped_nil : SeqAt.shaped (.list []) = true := by decide
theorem gIs_map (ns : List Int) : gIs (ns.map .int) = some ns := by
  induction ns with
  | nil => rfl
  | cons n r ih => simp [gIs, ih]
theorem gSs_map (ns : List Str) : gSs (ns.map .str) = some ns := by
  induction ns with
  | nil => rfl
  | cons n r ih => simp [gSs, ih]
theorem gBs_map (ns : List Bool) : gBs (ns.map .bool) = some ns := by
  induction ns with
  | nil => rfl
  | cons n r ih => simp [gBs, ih]
/-- a comprehension that changes nothing around it: p the test, g the item -/
theorem lcL_map {vs : List Nat} {Gg : Fg} {T : Ft} {F : Fx} {env : Env} (p : PyData → Bool) (g : PyData → PyData) : ∀ ds : List PyData, (∀ d ∈ ds, ∃ e1 e2, Gg d env = some e1 ∧ T e1 = some (p d, e2) ∧ (p d = false → wipeE e2 vs = env) ∧ (p d = true → ∃ e3, F e2 = some (g d, e3) ∧ wipeE e3 vs = env)) →
    lcL vs Gg T F ds env = some ((ds.filter p).map g, env)
  | [], _ => rfl
  | d :: ds, h => by
    obtain ⟨e1, e2, h1, h2, h3, h4⟩ := h d List.mem_cons_self
    have ih := lcL_map p g ds fun x hx => h x (List.mem_cons_of_mem _ hx)
    unfold lcL
    rw [h1, Option.bind_some, h2, Option.bind_some]
    cases hp : p d with
    | true =>
      obtain ⟨e3, h5, h6⟩ := h4 hp
      rw [if_pos rfl, h5, Option.bind_some, h6, ih]
      simp [List.filter_cons, hp]
    | false =>
      rw [if_neg (show ¬ (false = true) by decide), h3 hp, ih]
      simp [List.filter_cons, hp]
/-- .. where each item draws on what stands around it: the state runs along -/
theorem lcL_run {α : Type} {vs : List Nat} {Gg : Fg} {F : Fx} (mk : α → Env) (g : PyData → α → PyData) (st : PyData → α → α) : ∀ (ds : List PyData) (a : α), (∀ d ∈ ds, ∀ a, ∃ e1 e3, Gg d (mk a) = some e1 ∧ F e1 = some (g d a, e3) ∧ wipeE e3 vs = mk (st d a)) →
    ∃ es b, lcL vs Gg yesT F ds (mk a) = some (es, mk b) ∧ es.length = ds.length ∧ b = ds.foldl (fun a d => st d a) a
  | [], a, _ => ⟨[], a, rfl, rfl, rfl⟩
  | d :: ds, a, h => by
    obtain ⟨e1, e3, h1, h2, h3⟩ := h d List.mem_cons_self a
    obtain ⟨es, b, h4, h5, h6⟩ := lcL_run mk g st ds (st d a) fun x hx => h x (List.mem_cons_of_mem _ hx)
    refine ⟨g d a :: es, b, ?_, by simp [h5], by rw [h6]; rfl⟩
    unfold lcL
    rw [h1, Option.bind_some]
    show (some (true, e1)).bind _ = _
    rw [Option.bind_some, if_pos rfl, h2, Option.bind_some, h3, h4]
    rfl
/-- a loop that goes on to its end: the state by the data walked -/
theorem loopF_run {α : Type} {Gg : Fg} {s : Fs} (mk : α → Env → Prop) (st : PyData → α → α) : ∀ (ds : List PyData) (a : α) (e : Env), mk a e → (∀ d ∈ ds, ∀ a e, mk a e → ∃ e1 e2, Gg d e = some e1 ∧ (s e1 = some (.nx e2) ∨ s e1 = some (.ct e2)) ∧ mk (st d a) e2) →
    ∃ e2, loopF Gg s ds e = some (.nx e2) ∧ mk (ds.foldl (fun a d => st d a) a) e2
  | [], a, e, h, _ => ⟨e, rfl, h⟩
  | d :: ds, a, e, h, hs => by
    obtain ⟨e1, e2, h1, h2, h3⟩ := hs d List.mem_cons_self a e h
    obtain ⟨e4, h5, h6⟩ := loopF_run mk st ds (st d a) e2 h3 fun x hx => hs x (List.mem_cons_of_mem _ hx)
    refine ⟨e4, ?_, h6⟩
    unfold loopF
    rw [h1, Option.bind_some]
    rcases h2 with h2 | h2
    · rw [h2]; exact h5
    · rw [h2]; exact h5
/-- .. with what was walked so far told by the invariant; it may end before: N what holds behind it, R what it hands back -/
theorem loopF_inv {Gg : Fg} {s : Fs} (Inv : List PyData → List PyData → Env → Prop) (N : Env → Prop) (R : PyData → Env → Prop) : ∀ (ds pr : List PyData) (e : Env), Inv pr ds e → (∀ pr e, Inv pr [] e → N e) →
    (∀ pr d r e, Inv pr (d :: r) e → ∃ e1, Gg d e = some e1 ∧ ((∃ e2, (s e1 = some (.nx e2) ∨ s e1 = some (.ct e2)) ∧ Inv (pr ++ [d]) r e2) ∨ (∃ e2, s e1 = some (.bk e2) ∧ N e2) ∨ ∃ x e2, s e1 = some (.rt x e2) ∧ R x e2)) →
    (∃ e2, loopF Gg s ds e = some (.nx e2) ∧ N e2) ∨ ∃ x e2, loopF Gg s ds e = some (.rt x e2) ∧ R x e2
  | [], pr, e, h, hn, _ => .inl ⟨e, rfl, hn pr e h⟩
  | d :: ds, pr, e, h, hn, hs => by
    obtain ⟨e1, h1, h2⟩ := hs pr d ds e h
    have key : ∀ e2, s e1 = some (.nx e2) ∨ s e1 = some (.ct e2) → loopF Gg s (d :: ds) e = loopF Gg s ds e2 := fun e2 h => by
      rw [loopF, h1, Option.bind_some]
      rcases h with h | h <;> rw [h] <;> rfl
    rcases h2 with ⟨e2, h3, h4⟩ | ⟨e2, h3, h4⟩ | ⟨x, e2, h3, h4⟩
    · rw [key e2 h3]
      exact loopF_inv Inv N R ds (pr ++ [d]) e2 h4 hn hs
    · refine .inl ⟨e2, ?_, h4⟩
      rw [loopF, h1, Option.bind_some, h3]
      rfl
    · refine .inr ⟨x, e2, ?_, h4⟩
      rw [loopF, h1, Option.bind_some, h3]
      rfl
end Sv

namespace Xq
open PySem PySem.Spec PyProof.Rows L2 Pre Dv Sv Gd
/-! ## an error that is kept: tracked from the except suite on -/
theorem exK_ok {P : Program} {w : World} {H : Hp} {h : Heap} {a : Addr} {cls : Value} {d : Option Addr} {oe : Obj} {vs : Array Value} (e : h.get? a = some oe) (z : Zc cls d oe) (hd : oe.data = .fields vs) : ObjOk P w H h a (exK cls d a) :=
  ⟨⟨oe, vs, e, z, hd⟩, ⟨oe, e⟩, fun _ _ ⟨o, v, q, r⟩ k => ⟨o, v, k o q, r⟩⟩
section
variable {X : Cx} {pins : List (Addr × Obj)} {σ : L2.St} {H : Hp} {s : Shared}
theorem track {a : Addr} {oe : Obj} {vs : Array Value} {cls : Value} {d : Option Addr} (I : Inv X pins σ H s) (na : H a = none) (e : s.heap.get? a = some oe) (z : Zc cls d oe) (hd : oe.data = .fields vs) (n0 : X.s_0.heap.get? a = none) (nL : a ≠ X.env.locals) (np : ∀ p ∈ X.pn ++ pins, p.1 ≠ a) :
    Inv X pins σ (upd H a (exK cls d a)) s := by
  have ne0 : ∀ b o, X.s_0.heap.get? b = some o → b ≠ a := fun b o q z => by rw [z, n0] at q; cases q
  have neH : ∀ {b : Addr} {o : HO}, H b = some o → b ≠ a := fun {b o} q z => by rw [z, na] at q; cases q
  refine ⟨I.ok, I.os, I.bare, ⟨I.base.keep, I.base.slot, fun b o q n hx => ?_, I.base.there, fun b xs q => ?_, fun b o u q => ?_, fun b ps q => ?_⟩, I.loc, I.cell, ?_, fun x c q => ?_, fun p hp => ?_, fun b u q => ?_, I.len⟩
  · rw [upd_ne (ne0 b o q)]; exact I.base.free b o q n hx
  · have q2 := I.base.tups b xs q; rw [upd_ne (neH q2)]; exact q2
  · have q2 := I.base.frzs b o u q; rw [upd_ne (neH q2)]; exact q2
  · obtain ⟨m, q2⟩ := I.base.tbls b ps q; exact ⟨m, by rw [upd_ne (neH q2)]; exact q2⟩
  · rw [upd_ne (Ne.symm nL)]; exact I.free
  · have hc : c ≠ a := fun z2 => by
      obtain ⟨v, o, ho, hv⟩ := I.cell x c q
      rw [z2, e] at ho
      cases ho
      rw [hd] at hv
      cases hv
    rw [upd_ne hc]; exact I.freeC x c q
  · obtain ⟨p1, p2, p3, p4, p5⟩ := I.pin p hp
    exact ⟨p1, by rw [upd_ne (np p hp)]; exact p2, p3, p4, p5⟩
  · by_cases hb : b = a
    · subst hb
      rw [upd_same] at q
      cases q
      exact exK_ok e z hd
    · rw [upd_ne hb] at q
      exact (I.hok b u q).stay (fun c v _ q => q) (fun c q => by rw [upd_ne (neH q)]; exact q) fun c xs q => by rw [upd_ne (neH q)]; exact q
theorem toSuite (I : Inv X pins σ H s) (a : Addr) : Inv (X.suite a (X.pn ++ pins)) [] σ H s :=
  ⟨I.ok.suite _ _, I.os, I.bare, I.base, I.loc, I.cell, I.free, I.freeC, fun p hp => by rw [List.append_nil] at hp; exact I.pin p hp, I.hok, I.len⟩
theorem ofSuite {a : Addr} {pn' : List (Addr × Obj)} (I : Inv (X.suite a (X.pn ++ pins)) pn' σ H s) (ok : X.Ok) : Inv X pins σ H s :=
  ⟨ok, I.os, I.bare, I.base, I.loc, I.cell, I.free, I.freeC, fun p hp => I.pin p (List.mem_append_left _ hp), I.hok, I.len⟩
end
/-- what the clause 'except x as n' wishes of an exception of the body: slot i is n's; the error is tracked -/
def wK (K : PySem.W.Frag) (c : Value) (i : Nat) (ts : Addr → TS) (Wout : WX) (D : Ends) : WX := fun cls d σ H =>
  ∃ b, PySem.W.exmOne K cls c = some b ∧ (b = true → ∀ a, H a = none → ts a { nx := fun σ' H' => D.nx (σ'.set i none) H', rt := D.rt, bk := fun σ' H' => D.bk (σ'.set i none) H', ct := fun σ' H' => D.ct (σ'.set i none) H' } (σ.set i (some (.ref a))) (upd H a (exK cls d a))) ∧
    (b = false → Wout cls d σ H)
section
variable {X : Cx} {pins : List (Addr × Obj)} {H : Hp} {sI : Shared} {B h : Heap} {a : Addr} {cls : Value} {d : Option Addr} {σ : L2.St}
/-- an error over our frames is none of the things that stood before -/
theorem apart (hst : X.stack = X.env :: X.outer) (hfr : X.env.frame = some X.env.locals) (hex : X.ex = []) (J : Inv X pins σ H sI) (ground : ∀ b o, sI.heap.get? b = some o → b ∉ frs X.stack → B.get? b = some o) (fl : HandSPX.FlyingZ B (X.env :: X.outer) a (Zc cls d) h) :
    a ≠ X.env.locals ∧ X.s_0.heap.get? a = none ∧ ∀ p ∈ X.pn ++ pins, p.1 ≠ a := by
  obtain ⟨oe, vs, e1, _, e2⟩ := fl.there
  have off : a ∉ frs (X.env :: X.outer) := fun hm => by
    obtain ⟨_, o2, e3, e4⟩ := fl.2.2.1.mem hm
    cases e1.symm.trans e3
    exact e4 _ e2
  have gone : sI.heap.get? a = none := by
    cases q : sI.heap.get? a with
    | none => rfl
    | some o => cases fl.2.1.symm.trans (ground a o q (hst ▸ off))
  refine ⟨fun z => off (List.mem_filterMap.mpr ⟨X.env, List.mem_cons_self, z ▸ hfr⟩), ?_, fun p hp z => ?_⟩
  · cases q : X.s_0.heap.get? a with
    | none => rfl
    | some o =>
      obtain ⟨o2, e3⟩ := J.base.there a o q (hex ▸ List.not_mem_nil)
      cases gone.symm.trans e3
  · have e3 := (J.pin p hp).1
    rw [z, gone] at e3
    cases e3
end
section
variable {X : Cx} {x n : Str} {c : Value} {i : Nat} {body suite : List Stmt} {b₀ : Stmt} {nameAt tryAt hdlAt : Pos} {tb : WX → TS} {ts : Addr → TS} {Wout : WX} {pins : List (Addr × Obj)} {σ : L2.St} {H : Hp}
/-- the clause's name read, its class looked at -/
theorem clauseT {sx : Shared} {a : Addr} {oe : Obj} {cls : Value} {d : Option Addr} {b : Bool} {Q : Bool → Shared → Prop} {E : Value → Shared → Prop} (hc : Names X x c) (J : Inv X pins σ H sx) (he : sx.heap.get? a = some oe) (hz : Zc cls d oe) (hb : PySem.W.exmOne X.K cls c = some b) (q : Q b sx) :
    wpAny (model X.prog X.w) (X.A.mark (some (.ref a))) (eval (.Name x nameAt) X.env) (fun v s2 => wpAny (model X.prog X.w) (X.A.mark (some (.ref a))) (excMatches (.ref a) v) Q E s2) E sx := by
  have ty : PySem.W.Looks (model X.prog X.w) sx.heap (typeOf (.ref a)) cls := fun _ _ _ _ k z => wpAny_typeOf_ref (k _ _ he) (hz.1.symm ▸ z)
  have asks : wpAny (model X.prog X.w) (X.A.mark (some (.ref a))) (excMatches (.ref a) c) Q E sx := (PySem.W.exm_one J.kIn ty hb).here q
  obtain ⟨h1, h2, h3⟩ := hc
  rcases h3 with h3 | ⟨h3, h4, h5⟩
  · exact ld_glob (X := X.suite a (X.pn ++ pins)) (toSuite J a) h1 h3 asks h2
  · exact ld_blt (X := X.suite a (X.pn ++ pins)) (toSuite J a) h1 h3 h4 asks h5 h2
theorem ps_tryK (hst : X.stack = X.env :: X.outer) (hfr : X.env.frame = some X.env.locals) (hex : X.ex = []) (nd : X.N.Nodup) (hi : X.N[i]? = some n) (hn : X.env.kindOf n = some .local) (hc : Names X x c) (tk : Takes X Wout)
    (walk : ∀ (W : WX) (pn : List (Addr × Obj)) (xe : Value → Shared → Prop), Takes (X.tr pn xe) W → PassesOwn (model X.prog X.w) X.A X.env xe → PSs (X.tr pn xe) body (tb W)) (after : ∀ (a : Addr) (pn : List (Addr × Obj)), PSs (X.suite a pn) (b₀ :: suite) (ts a)) :
    PS X (.Try body [.ExceptHandler (some (.Name x nameAt)) (some n) (b₀ :: suite) hdlAt] [] [] tryAt) (fun D σ H => tb (wK X.K c i ts Wout D) D σ H) := by
  constructor
  intro pins s σ H D I0 wish
  have ok := I0.ok
  have frames : X.A.frames = some (X.env :: X.outer) := hst ▸ ok.frames
  apply wpAny_Try_except
  refine wpAny_mono ((walk (wK X.K c i ts Wout D) (X.pn ++ pins) _ (fun u sU air => ?_) PassesOwn.looking).run [] s σ H D (I0.toTry (fun er s1 => wpAny (model X.prog X.w) X.A (noteFrame er X.env) (fun _ s2 => wpAny (model X.prog X.w) X.A (setFlight er none)
    (fun _ s3 => wpAny (model X.prog X.w) X.A (handleBy er X.env [.ExceptHandler (some (.Name x nameAt)) (some n) (b₀ :: suite) hdlAt]) (SP X pins D) X.xe s3) X.xe s2) X.xe s1)) wish) (fun fl sE out => ?_) fun _ _ z => z
  case refine_2 =>
    cases fl with
    | next => exact wpAny_execs_nil (out.elim fun σ2 r => r.elim fun H2 r => ⟨σ2, H2, r.1.ofTry ok, r.2⟩)
    | brk => exact out.elim fun σ2 r => r.elim fun H2 r => ⟨σ2, H2, r.1.ofTry ok, r.2⟩
    | cont => exact out.elim fun σ2 r => r.elim fun H2 r => ⟨σ2, H2, r.1.ofTry ok, r.2⟩
    | ret u => exact out.elim fun v2 r => r.elim fun σ2 r => r.elim fun H2 r => ⟨v2, σ2, H2, r.1.ofTry ok, r.2.1, r.2.2⟩
  obtain ⟨a, B, sI, pins2, σ1, H1, cls, d, rfl, JT, ground, grown, sky, free, osE, gensE, b, is, yes, no⟩ := air
  have J := JT.ofTry ok
  rw [hst] at sky
  apply Sky.land Zc.steady frames hfr sky
  intro h3 fl3 g3
  have J3 : Inv X pins σ1 H1 { sU with heap := h3 } := J.landed ground fl3.1 (grown.trans g3) osE gensE
  obtain ⟨oe, vs, e3, z3, _⟩ := fl3.there
  obtain ⟨nL, n0, npin⟩ := apart hst hfr hex J ground fl3
  apply wpAny_handleBy_cons (codeAny_handlers_test (clauseT hc J3 e3 z3 is ?_)) (fun z => nomatch z)
  cases b with
  | true =>
    apply codeAny_handlers_suite_as
    apply HandSPX.lands_againZ fl3
    intro h4 fl4 g4
    obtain ⟨oe4, vs4, e4, z4, f4⟩ := fl4.there
    have K4 : Inv X pins σ1 H1 { sU with heap := h4 } := J.landed ground fl4.1 ((grown.trans g3).trans g4) osE gensE
    have J4 := track K4 free e4 z4 f4 n0 nL npin
    refine store_ok (X := X.suite a (X.pn ++ pins)) (v := .ref a) (toSuite J4 a) nd hi (.inl hn) rfl (fun s5 J5 => ?_) (.inr hn)
    refine wpAny_mono ((after a (X.pn ++ pins)).run [] s5 _ _ _ J5 (yes rfl a free)) (fun fl s6 out => ?_) fun _ _ z => z.elim
    have drop : ∀ {σ6 : L2.St} {H6 : Hp} {R : Shared → Prop}, Inv (X.suite a (X.pn ++ pins)) [] σ6 H6 s6 → (∀ s7, Inv X pins (σ6.set i none) H6 s7 → R s7) → wpAny (model X.prog X.w) X.A (do bindName X.env n .none; unbindBehindTheSuite X.env n hdlAt) (fun _ s7 => R s7) X.xe s6 :=
      fun J6 q => gone_ok (ofSuite J6 ok) nd hi hn q
    cases fl with
    | next => exact out.elim fun σ6 r => r.elim fun H6 r => drop r.1 fun s7 J7 => ⟨_, _, J7, r.2⟩
    | brk => exact out.elim fun σ6 r => r.elim fun H6 r => drop r.1 fun s7 J7 => ⟨_, _, J7, r.2⟩
    | cont => exact out.elim fun σ6 r => r.elim fun H6 r => drop r.1 fun s7 J7 => ⟨_, _, J7, r.2⟩
    | ret u => exact out.elim fun v6 r => r.elim fun σ6 r => r.elim fun H6 r => drop r.1 fun s7 J7 => ⟨_, _, _, J7, r.2.1, r.2.2⟩
  | false =>
    apply wpAny_handleBy_nil
    obtain ⟨_, _, _, oe5, vs5, T, oT, ts5, e5, _, f5, one5, _⟩ := id fl3
    unfold PySem.passOn
    apply wpAny_bind
    apply wpAny_field e5 f5 one5
    rw [if_neg (by simp)]
    have up : wpAny (model X.prog X.w) X.A (setFlight (.ref a) X.env.frame) (fun _ s4 => wpAny (model X.prog X.w) X.A (throw (.ref a) : Sem Flow) (SP X pins D) X.xe s4) X.xe { sU with heap := h3 } := by
      rw [hfr]
      apply HandSPX.setFlight_upZ fl3
      intro h4 held g4
      exact wpAny_throw (tk _ _ ⟨a, B, sI, pins, σ1, H1, cls, d, rfl, J, ground, (grown.trans g3).trans g4, .inr (.inr (hst ▸ held)), free, osE, gensE, no rfl⟩)
    first
      | exact wpAny_bind (wpAny_pure (wpAny_bind up))
      | exact wpAny_bind up
end
/-! ## isinstance of a kept error -/
def rIsX (K : PySem.W.Frag) : List V → Hp → VK → Prop := fun xs H Q => ∃ (a D : Addr) (c : V) (u : Value) (b : Bool), xs = [.ref a, c] ∧ ClsV c u ∧ H a = some (exK (.ref D) none a) ∧ ExcC K D ∧ PySem.W.kitOne K (.ref D) u = some b ∧ Q (.bl b) H
def rIsXT (K : PySem.W.Frag) : List V → Hp → VK → Prop := fun xs H Q => ∃ (a D tp : Addr) (cs : List V) (us : List Value) (b : Bool), xs = [.ref a, .ref tp] ∧ H tp = some (.tup cs) ∧ Paired ClsV cs us ∧ H a = some (exK (.ref D) none a) ∧ ExcC K D ∧ PySem.W.kitAny K (.ref D) us = some b ∧ Q (.bl b) H
section
variable {X : Cx}
theorem instX {pins : List (Addr × Obj)} {σ : L2.St} {H : Hp} {s : Shared} {a D : Addr} (I : Inv X pins σ H s) (e : H a = some (exK (.ref D) none a)) : ∃ oe, PySem.W.InstAt s.heap a oe D none := by
  obtain ⟨⟨oe, vs, h1, ⟨h2, h3⟩, h4⟩, _, _⟩ := I.hok a _ e
  refine ⟨oe, h1, h2, ?_, ?_⟩
  · unfold PySem.W.notCls
    rw [h4]
  · rw [h3]
    trivial
theorem call_isX : CallR X (.builtin "isinstance") (rIsX X.K) := by
  intro pins s σ H xs us Q I r h
  obtain ⟨a, D, c, u, b, rfl, k, e, C, hk, q⟩ := h
  obtain ⟨u1, u2, rfl, r1, r2⟩ := vals2 r
  have e2 := k.eq r2
  subst e2
  cases (show u1 = Value.ref a from r1)
  obtain ⟨oe, J⟩ := instX I e
  exact PySem.W.kia_one (PySem.W.handS_kitx_exc C.hg C.hk C.hs C.hd C.ha C.hn C.ht C.hm) I.kIn J hk (fun z => nomatch z) fun tk => ⟨.bl b, H, I.tok tk, rfl, q⟩
theorem call_isXT : CallR X (.builtin "isinstance") (rIsXT X.K) := by
  intro pins s σ H xs us Q I r h
  obtain ⟨a, D, tp, cs, ws, b, rfl, hT, k, e, C, hk, q⟩ := h
  obtain ⟨u1, u2, rfl, r1, r2⟩ := vals2 r
  cases (show u2 = Value.ref tp from r2)
  cases (show u1 = Value.ref a from r1)
  obtain ⟨oe, J⟩ := instX I e
  obtain ⟨_, its, rv, o, h1, h2, n, h3⟩ := (show ObjOk X.prog X.w H s.heap tp (.tup cs) from I.hok tp _ hT)
  have e3 := ClsV.all k rv
  subst e3
  obtain ⟨oc, od, dt, sl⟩ := o
  simp only at h2 h3
  subst h2 h3
  exact PySem.W.kia_tup (PySem.W.handS_kitx_exc C.hg C.hk C.hs C.hd C.ha C.hn C.ht C.hm) I.kIn J h1 hk (fun z => nomatch z) fun tk => ⟨.bl b, H, I.tok tk, rfl, q⟩
end
end Xq

namespace Xq
open PySem PySem.Spec PyProof.Rows L2 Pre Dv Sv Gd
def exN : PyData → Option Str
  | .dict [(.str n, .none)] => some n
  | _ => none
theorem exN_eq {d : PyData} {n : Str} (h : exN d = some n) : d = exD n := by
  unfold exN at h
  split at h
  · cases h; rfl
  · cases h
theorem exN_D {n : Str} : exN (exD n) = some n := rfl
theorem do_exc {K : PySem.W.Frag} {H : Hp} {v : V} {n : Str} (h : Dq K H v (exD n)) : ∃ a C, v = .ref a ∧ PySem.W.nsIn K mainGlobals n = some (some (.ref C)) ∧ H a = some (exK (.ref C) none a) := by
  generalize hd : exD n = d at h
  cases h with
  | non => cases hd
  | bl => cases hd
  | int => cases hd
  | str => cases hd
  | lst => cases hd
  | tup => cases hd
  | @scr a ns hs =>
    exfalso
    unfold exD at hd
    cases ns with
    | nil => cases hd
    | cons z zs => simp at hd
  | exc h1 h2 =>
    unfold exD at hd
    simp only [PyData.dict.injEq, List.cons.injEq, Prod.mk.injEq, PyData.str.injEq, and_true] at hd
    subst hd
    exact ⟨_, _, rfl, h1, h2⟩
  | emd => cases hd
section
variable {K : PySem.W.Frag} {G G' : Nat → Nat} {Ms W S : List Nat} {fr : Option Nat} {Wx : WX} {WL W1 : List Nat} {p : Bool} {ta te : TE} {F X : Fx} {L : Fa} {tr : TA}
def isXF (tab : List (Str × Bool)) (F : Fx) : Fx := fun env => (F env).bind fun x => (exN x.1).bind fun n => (tab.lookup n).map fun b => (.bool b, x.2)
theorem fv_isX {tab : List (Str × Bool)} {c : V} {u : Value} (k : ClsV c u) (ht : ∀ n b, tab.lookup n = some b → ∀ D, PySem.W.nsIn K mainGlobals n = some (some (.ref D)) → ExcC K D ∧ PySem.W.kitOne K (.ref D) u = some b) (h : fEV K G W S p ta F) :
    fEV K G W S p (tCB (rIsX K) (tCons ta (tCons (tC c) tNil))) (isXF tab F) := fun env d env' e c0 f H σ r Q q => by
  obtain ⟨x, e1, e⟩ := bd e
  obtain ⟨n, e2, e⟩ := bd e
  obtain ⟨b, e3, e⟩ := mp e
  cases e
  refine h env x.1 x.2 e1 c0 f H σ r _ fun f1 v H1 a1 hv => ?_
  rw [exN_eq e2] at hv
  obtain ⟨a, C, rfl, h1, h2⟩ := do_exc hv
  obtain ⟨g1, g2⟩ := ht n b e3 C h1
  exact ⟨a, C, c, u, b, rfl, k, (rm_some h2).2, g1, g2, q f1 _ H1 a1 (.bl _)⟩
/-- .. one of several classes -/
theorem fv_isXT {tab : List (Str × Bool)} {cs : List V} {us : List Value} {tcs : TA} (k : Paired ClsV cs us) (hcs : ∀ σ H (Q : List V → Hp → Prop), Q cs H → tcs σ H Q) (hl : cs.length ≤ 100000)
    (ht : ∀ n b, tab.lookup n = some b → ∀ D, PySem.W.nsIn K mainGlobals n = some (some (.ref D)) → ExcC K D ∧ PySem.W.kitAny K (.ref D) us = some b) (h : fEV K G W S p ta F) :
    fEV K G W S p (tCB (rIsXT K) (tCons ta (tCons (tTup tcs) tNil))) (isXF tab F) := fun env d env' e c0 f H σ r Q q => by
  obtain ⟨x, e1, e⟩ := bd e
  obtain ⟨n, e2, e⟩ := bd e
  obtain ⟨b, e3, e⟩ := mp e
  cases e
  refine h env x.1 x.2 e1 c0 f H σ r _ fun f1 v H1 a1 hv => ?_
  rw [exN_eq e2] at hv
  obtain ⟨a, C, rfl, h1, h2⟩ := do_exc hv
  obtain ⟨g1, g2⟩ := ht n b e3 C h1
  refine hcs σ H1 _ ⟨sz hl, fun tp np => ?_⟩
  have h3 := (rm_some h2).2
  exact ⟨a, C, tp, cs, us, b, rfl, upd_same, k, by rw [upd_ne (ne_of_none h3 np)]; exact h3, g1, g2, q f1 _ _ (a1.step (same_new np)) (.bl _)⟩
/-! ## statements that raise -/
def raiF (n : Str) : Fs := fun env => some (.ex (exD n) env)
theorem fs_raise {n : Str} {C : Addr} (hC : PySem.W.nsIn K mainGlobals n = some (some (.ref C))) : fST K G Ms fr Wx WL Ms (fun _ σ H => Wx (.ref C) none σ H) (raiF n) W1 := fun env o e c f H σ D r hM k => by
  cases e
  exact k f H σ (.ref C) none r ⟨rfl, n, C, rfl, rfl, hC⟩
/-- an expression that may raise: F what it tells, X the error -/
def fXV (K : PySem.W.Frag) (G : Nat → Nat) (W : List Nat) (p : Bool) (Wx : WX) (te : TE) (F X : Fx) : Prop := fEV K G W [] p te F ∧ ∀ env y env', X env = some (y, env') → ∀ c f H σ, SR K G c W f H σ env → (∀ f' H' cls d, Aft K G c W σ p f H env f' H' env' → exR K y cls d → Wx cls d σ H') → ∀ Q, te σ H Q
def orX (F X : Fx) (k : PyData × Sv.Env → Out) : Fs := fun env => match F env with
  | some x => some (k x)
  | none => (X env).map fun y => .ex y.1 y.2
theorem orX_cases {F X : Fx} {k : PyData × Sv.Env → Out} {env : Sv.Env} {o : Out} (h : orX F X k env = some o) : (∃ x, F env = some x ∧ o = k x) ∨ ∃ y, X env = some y ∧ o = .ex y.1 y.2 := by
  unfold orX at h
  split at h
  · cases h; exact .inl ⟨_, by assumption, rfl⟩
  · obtain ⟨y, h1, h2⟩ := mp h
    exact .inr ⟨y, h1, h2.symm⟩
theorem fs_dropX (h : fXV K G Ms p Wx te F X) : fST K G Ms fr Wx WL Ms (tDrop te) (orX F X fun x => .nx x.2) Ms := fun env o e c f H σ D r hM k => by
  rcases orX_cases e with ⟨x, e1, rfl⟩ | ⟨y, e1, rfl⟩
  · exact h.1 env x.1 x.2 e1 c f H σ r _ fun f1 v H1 a1 hv => k f1 H1 σ a1.r
  · exact h.2 env y.1 y.2 e1 c f H σ r (fun f' H' cls d a hx => k f' H' σ cls d a.r hx) _
theorem fs_setX {i : Nat} (h : fXV K G Ms p Wx te F X) (hi : i ∉ Ms := by decide) : fST K G Ms fr Wx WL Ms (tAsg te (gName i)) (orX F X fun x => .nx (x.2.set i (some x.1))) Ms := fun env o e c f H σ D r hM k => by
  rcases orX_cases e with ⟨x, e1, rfl⟩ | ⟨y, e1, rfl⟩
  · exact h.1 env x.1 x.2 e1 c f H σ r _ fun f1 v H1 a1 hv => k f1 H1 _ (a1.r.set hi (unS hv))
  · exact h.2 env y.1 y.2 e1 c f H σ r (fun f' H' cls d a hx => k f' H' σ cls d a.r hx) _
theorem fs_retX (h : fXV K G Ms p Wx te F X) : fST K G Ms none Wx WL Ms (tRet te) (orX F X fun x => .rt x.1 x.2) W1 := fun env o e c f H σ D r hM k => by
  rcases orX_cases e with ⟨x, e1, rfl⟩ | ⟨y, e1, rfl⟩
  · exact h.1 env x.1 x.2 e1 c f H σ r _ fun f1 v H1 a1 hv => k f1 H1 σ v a1.r (unS hv)
  · exact h.2 env y.1 y.2 e1 c f H σ r (fun f' H' cls d a hx => k f' H' σ cls d a.r hx) _
/-! ## try: .. except X as n: .. -/
def unsO (i : Nat) : Out → Option Out
  | .nx e => some (.nx (e.set i none))
  | .bk e => some (.bk (e.set i none))
  | .ct e => some (.ct (e.set i none))
  | .rt d e => some (.rt d e)
  | .ex _ _ => none
def tryF (L : List Str) (i : Nat) (s u : Fs) : Fs := fun env => (s env).bind fun o => match o with
  | .ex y e => (exN y).bind fun n => if n ∈ L then (u (e.set i (some y))).bind (unsO i) else none
  | o => some o
theorem fs_try {c0 : Value} {L : List Str} {i : Nat} {s u : Fs} {tb : WX → TS} {tsu : Addr → TS} {Wout : WX} (hx : ∀ n ∈ L, ∀ C, PySem.W.nsIn K mainGlobals n = some (some (.ref C)) → PySem.W.exmOne K (.ref C) c0 = some true)
    (hb : ∀ W2, fST K G Ms fr W2 WL Ms (tb W2) s W1) (hu : ∀ a, fST K G Ms fr noX WL Ms (tsu a) u W1) (hi : i ∉ Ms := by decide) (hi1 : i ∉ W1 := by decide) (hiL : i ∉ WL := by decide) :
    fST K G Ms fr Wx WL Ms (fun D σ H => tb (wK K c0 i tsu Wout D) D σ H) (tryF L i s u) W1 := fun env o e c f H σ D r hM k => by
  obtain ⟨o1, e1, e⟩ := bd e
  refine hb _ env o1 e1 c f H σ D r hM ?_
  cases o1 with
  | nx e2 => cases e; exact k
  | rt d e2 => cases e; exact k
  | bk e2 => cases e; exact k
  | ct e2 => cases e; exact k
  | ex y e2 =>
    obtain ⟨n, e3, e⟩ := bd e
    split at e
    case isFalse => cases e
    rename_i hn
    obtain ⟨o2, e4, e⟩ := bd e
    intro f' H' σ' cls d r' hR
    obtain ⟨rfl, n', C, hy, rfl, hC⟩ := hR
    have : n' = n := by
      rw [hy] at e3
      exact Option.some.inj e3
    subst this
    subst hy
    refine ⟨true, hx _ hn C hC, fun _ a na => ?_, fun z => nomatch z⟩
    have r2 := r'.same (same_new (o := exK (.ref C) none a) na)
    have hd : DO K (hid c.O Ms f') (upd H' a (exK (.ref C) none a)) (.ref a) (exD n') := .exc hC (by rw [rm_at (r'.live.new na)]; exact upd_same)
    refine hu a _ o2 e4 c f' _ _ _ (r2.set hi hd) hM ?_
    cases o2 with
    | nx e5 => cases e; exact fun f'' H'' σ'' r'' => k f'' H'' _ (r''.unset hi1 none)
    | bk e5 => cases e; exact fun f'' H'' σ'' r'' => k f'' H'' _ (r''.unset hiL none)
    | ct e5 => cases e; exact fun f'' H'' σ'' r'' => k f'' H'' _ (r''.unset hiL none)
    | rt d e5 => cases e; exact k
    | ex y e5 => cases e
/-! ## defs that may raise -/
def SpE (K : PySem.W.Frag) (G : Nat → Nat) (ms : List Nat) (fr : Option Nat) (g x : List PyData → Option (PyData × List PyData)) : Sp := fun vs H Q E => SpX K G ms fr g vs H Q E ∨ ∃ (c : Fr) (f : Nat → List Addr) (ds : List PyData) (y : PyData) (post : List PyData),
  SR K G c ms f H (vs.map some) (ds.map some) ∧ c.M = ms.map (fun i => (i, vs.getD i .non)) ∧ x ds = some (y, post) ∧ ∀ f' H' cls d, SR K G c ms f' H' (vs.map some) (post.map some) → exR K y cls d → E cls d H'
def xDef (ms : List Nat) (N : List Str) (n : Nat) (s : Fs) : List PyData → Option (PyData × List PyData) := fun ds => if ds.length = n then (s (Sv.envOf N ds)).bind fun o => match o with
  | .ex y e => some (y, mixP ms ds e)
  | _ => none
  else none
theorem xDef_len {ms : List Nat} {N : List Str} {n : Nat} {s : Fs} {ds : List PyData} {x : PyData × List PyData} (h : xDef ms N n s ds = some x) : ds.length = n := by
  unfold xDef at h
  split at h
  · assumption
  · cases h
theorem fx_runE {ms : List Nat} {N : List Str} {n : Nat} {s : Fs} {t : TS} {vs : List V} {H : Hp} {Q : VK} {E : XK} (hst : fST K G ms fr (fun cls d _ H => E cls d H) [] ms t s ms) (h : SpE K G ms fr (gDef ms fr N n s) (xDef ms N n s) vs H Q E) : t { nx := fun _ H' => Q .non H', rt := Q } (L2.start N vs) H := by
  rcases h with h | ⟨c, f0, ds, y, post, r, hM, h2, q⟩
  · exact fx_run hst h
  · have hn := xDef_len h2
    unfold xDef at h2
    rw [if_pos hn] at h2
    obtain ⟨o, h3, h2⟩ := bd h2
    refine hst _ o h3 (c.at ms f0 H) f0 H _ _ (sr_start r).inB (by show c.M.map _ = ms; rw [hM, List.map_map]; exact List.map_id _) ?_
    cases o with
    | bk e => cases h2
    | ct e => cases h2
    | nx e => cases h2
    | rt d e => cases h2
    | ex y' e =>
      cases h2
      intro f' H' σ' cls d r' hx
      exact q f' H' cls d (sr_end (A := []) r hM r' fun _ z => nomatch z) hx
theorem SpE.len {ms : List Nat} {N : List Str} {n : Nat} {s : Fs} {vs : List V} {H : Hp} {Q : VK} {E : XK} (h : SpE K G ms fr (gDef ms fr N n s) (xDef ms N n s) vs H Q E) : vs.length = n := by
  rcases h with ⟨c, f, ds, d, post, r, _, h2, _⟩ | ⟨c, f, ds, d, post, r, _, h2, _⟩
  · have := r.len
    simp at this
    rw [this, gDef_len h2]
  · have := r.len
    simp at this
    rw [this, xDef_len h2]
/-! calls -/
theorem fv_callE {g x : List PyData → Option (PyData × List PyData)} {E : XK} (h : fEA K G W S p tr L) : fEV K G W S p (tCall (SpE K G' [] none g x) [] E tr) (callF g L) := fun env d env' e c f H σ r Q q => by
  obtain ⟨x, e1, e⟩ := bd e
  obtain ⟨y, e2, e⟩ := mp e
  cases e
  refine h env x.1 x.2 e1 c f H σ r _ fun f1 vs H1 a1 hv => .inl ?_
  refine ⟨⟨H1, hidS c W S f1, []⟩, fun _ => [], x.1, y.1, y.2, by rw [List.append_nil]; exact sr_args (c := c) (f := f1) a1.live hv, rfl, e2, fun f' v H' r' hr => ?_⟩
  refine q f1 v H' (a1.step r'.base) ?_
  have hr : DO K (Sv.hid (hidS c W S f1) [] f') H' v y.1 := hr
  simpa [Sv.hid] using hr
theorem fv_callS {g x : List PyData → Option (PyData × List PyData)} {E : L2.St → XK} (h : fEA K G W S p tr L) : fEV K G W S p (tCallS (SpE K G' [] none g x) E tr) (callF g L) := fun env d env' e c f H σ r Q q => by
  obtain ⟨x, e1, e⟩ := bd e
  obtain ⟨y, e2, e⟩ := mp e
  cases e
  refine h env x.1 x.2 e1 c f H σ r _ fun f1 vs H1 a1 hv => .inl ?_
  refine ⟨⟨H1, hidS c W S f1, []⟩, fun _ => [], x.1, y.1, y.2, sr_args (c := c) (f := f1) a1.live hv, rfl, e2, fun f' v H' r' hr => ?_⟩
  refine q f1 v H' (a1.step r'.base) ?_
  have hr : DO K (Sv.hid (hidS c W S f1) [] f') H' v y.1 := hr
  simpa [Sv.hid] using hr
theorem fx_call {g x : List PyData → Option (PyData × List PyData)} (h : fEA K G W [] p tr L) : fXV K G W p Wx (tCallS (SpE K G' [] none g x) (WE Wx) tr) (callF g L) (callF x L) := by
  refine ⟨fv_callS h, fun env y env' e c f H σ r q Q => ?_⟩
  obtain ⟨a, e1, e⟩ := bd e
  obtain ⟨z, e2, e⟩ := mp e
  cases e
  refine h env a.1 a.2 e1 c f H σ r _ fun f1 vs H1 a1 hv => .inr ?_
  refine ⟨⟨H1, hidS c W [] f1, []⟩, fun _ => [], a.1, z.1, z.2, sr_args (c := c) (f := f1) a1.live hv, rfl, e2, fun f' H' cls d r' hx => ?_⟩
  exact q f1 H' cls d (a1.step r'.base) hx
end
section
variable {P : Program} {w : World} {K : PySem.W.Frag} {mg : Str → Option Value} {base : Heap}
/-- the rule for a def that may raise, with the guards known -/
theorem okXG {x qual : Str} {st : Stmt} {f : Addr} {fd : FuncData} {N ps : List Str} {k : Nat} {sp : Sp} (F : Fun K x qual st f fd) (S : FnScope N ps (defScope st)) (many : ∀ vs H Q E, sp vs H Q E → vs.length = ps.length)
    (body : ∀ (cdv : Value) (A : Around) (outer : List PySem.Env) (s : Shared) (H : Hp) (vs : List V) (Q : VK) (E : XK), A.guards = some [] → Room k (A.deeper (envOfC qual (defScope st) s.heap.objs.size f cdv)) → sp vs H Q E →
      ∃ t, PSs (cxOf (L2.CX P w) P w K mg base N qual (defScope st) f cdv A outer s H E) (defBody st) t ∧ t { nx := fun _ H' => Q .non H', rt := Q } (L2.start N vs) H) : FnG P w K mg base (L2.CX P w) (k + 1) f fd ps sp := by
  obtain ⟨oc, od, kV, doc, pm, an, cdv, ct, osl, rfl, lk, hcd⟩ := F.ex
  refine ⟨many, fun A outer s H args us vs Q E gd hr e0 hb r hsp => ?_⟩
  have hl := many vs H Q E hsp
  have kx : K.In s.heap := e0.mod.kin.keeps fun b o z => (e0.bs b o z).1
  have nl : s.heap.NoLimit := e0.mod.nolimit.keeps fun b o z => (e0.bs b o z).1
  have kinds : ∀ y ∈ ps.zip us, (defScope st).names.lookup y.1 = some .local ∨ ((defScope st).names.lookup y.1 = some .cell ∧ ((cellsFrom (s.heap.objs.size + 1) (defScope st).names []).lookup y.1).isSome = true) := by
    rintro ⟨n, v⟩ hy
    cases S.par n (List.of_mem_zip hy).1 with
    | inl q => exact .inl q
    | inr q => exact .inr ⟨q, PySem.W.cellsFrom_some _ _ _ (.inl q)⟩
  refine codeAny_call_function hr.depth (kx _ _ lk) rfl S.co S.gen rfl (PySem.W.codeRec_of kx hcd) (hb _ _ _ _ (wpAny_newFunctionEnv_cells S.kind kinds fun env he s1 x => ?_))
  subst he
  obtain ⟨t, ht, hq⟩ := body cdv A outer s H vs Q E gd (hr.deeper _) hsp
  have J0 : Inv (cxOf (L2.CX P w) P w K mg base N qual (defScope st) f cdv A outer s H E) [] (L2.start N vs) H s1 := inv_start S hr.hd e0 hl r x
  refine ⟨nl.keeps x.toInCall.keep, codeAny_func (wpAny_mono (ht.run [] s1 (L2.start N vs) H _ J0 hq) (fun fl s' hs => ?_) fun _ _ z => z)⟩
  cases fl with
  | brk => exact hs.elim fun _ z => z.elim fun _ z => z.2.elim
  | cont => exact hs.elim fun _ z => z.elim fun _ z => z.2.elim
  | ret u =>
    obtain ⟨v, σ', H', J, rv, q⟩ := hs
    exact ⟨v, H', J.os, J.bare, J.base, J.hok, rv, q⟩
  | next =>
    obtain ⟨σ', H', J, q⟩ := hs
    exact ⟨.non, H', J.os, J.bare, J.base, J.hok, rfl, q⟩
theorem fx_okXG {G : Nat → Nat} {ms : List Nat} {fr : Option Nat} {x qual : Str} {st : Stmt} {f : Addr} {fd : FuncData} {N ps : List Str} {k : Nat} {s : Fs} (F : Fun K x qual st f fd) (S : FnScope N ps (defScope st))
    (hbody : ∀ (cdv : Value) (A : Around) (outer : List PySem.Env) (s0 : Shared) (H : Hp) (E : XK), A.guards = some [] → Room k (A.deeper (envOfC qual (defScope st) s0.heap.objs.size f cdv)) →
      ∃ t, PSs (cxOf (L2.CX P w) P w K mg base N qual (defScope st) f cdv A outer s0 H E) (defBody st) t ∧ fST K G ms fr (fun cls d _ H => E cls d H) [] ms t s ms) :
    FnG P w K mg base (L2.CX P w) (k + 1) f fd ps (SpE K G ms fr (gDef ms fr N ps.length s) (xDef ms N ps.length s)) := by
  refine okXG F S (fun vs H Q E h => h.len) (fun cdv A outer s0 H vs Q E gd hr h => ?_)
  obtain ⟨t, ht, hst⟩ := hbody cdv A outer s0 H E gd hr
  exact ⟨t, ht, fx_runE hst h⟩
end
section
variable {X : Cx} {CX : CXT} {k : Nat} {f : Addr} {fd : FuncData} {ps : List Str} {sp : Sp} {E : L2.St → XK} {x : Str} {p pos : Pos} {e : Expr} {es : List Expr} {t : TA}
/-- a call in a place where what it lets out is taken -/
theorem pe_callSG (F : FnG X.prog X.w X.K X.mg X.base CX k f fd ps sp) (gd : X.A.guards = some []) (hr : Room k X.A) (hg : Gl X x) (hm : X.mg x = some (.ref f)) (hk : PySem.W.keepIn X.K (.ref f) = true) (hb : Binds X.K fd ps []) (hx : ∀ σ, PassesAt CX X σ (E σ))
    (ha : PA X (e :: es) t) (hdb : (x == ("__debug__" : Str)) = false := by decide) (he : starEach (e :: es) X.env = (false, eval e X.env) :: starEach es X.env := by rfl) (hpl : (backTo pos (starEach es X.env)).any (·.1) = false := by rfl) :
    PE X (.Call (.Name x p) (e :: es) [] pos) (tCallS sp E t) :=
  ⟨fun pins s σ H Q I h => wpAny_Call_Name_kw (ld_glob I hg hm (PySem.W.callWith_K (h₀ := X.base) I.ok.mod.kin hk (thn (ha.run pos pins s σ H _ I h) fun us s1 hh => by
    obtain ⟨vs, H1, I1, r, q⟩ := hh
    refine ⟨I1.kIn, ?_⟩
    have hn := F.many vs H1 Q (E σ) q
    have b := hb s1 us I1.kIn (by rw [List.append_nil, ← r.length]; exact hn)
    rw [List.append_nil] at b
    refine wpAny_call (codeAny_mono (F.goes X.A X.stack s1 H1 ⟨us, []⟩ us vs Q (E σ) gd hr I1.env0 b r q) ?_)
    intro res s' hq
    match res, hq with
    | .error er, hq => exact hx σ pins H1 s1 er s' I1 hq
    | .ok (.ret u), hq => exact I1.after hq
    | .ok .next, hq => exact False.elim hq
    | .ok .brk, hq => exact False.elim hq
    | .ok .cont, hq => exact False.elim hq) he hpl) hdb)⟩
end
end Xq

namespace Xq
open PySem PySem.Spec PyProof.Rows L2 Pre Dv Sv Gd
section
variable {X : Cx}
theorem ip_and : PIp X .BitAnd (ipI fun i j => Builtin.bitAnd i j) := by
  intro pins s σ H x y v u Q I rx ry h
  obtain ⟨i, j, rfl, rfl, q⟩ := h
  obtain ⟨t, rfl⟩ := rx
  obtain ⟨t', rfl⟩ := ry
  exact iand_int ⟨.int _, H, I.tok _, ⟨_, rfl⟩, q⟩
/-! repr of anything plain -/
def flZ : V → Option Str
  | .non => some "None"
  | .bl b => some (if b then "True" else "False")
  | .int i => if i.natAbs.log2 < 1920 then some (toString i) else none
  | .str x => some (reprText x)
  | _ => none
def rShowA (K : PySem.W.Frag) : List V → Hp → VK → Prop := fun xs H Q => ∃ x, xs = [x] ∧ ((∃ z, flZ x = some z ∧ z.length ≤ sizeLine ∧ Q (.str z) H) ∨ (∃ a, x = .ref a ∧ H a = some (.dK []) ∧ Q (.str "{}") H) ∨ rShow K [x] H Q)
theorem call_showA (gd : X.A.guards = some []) (hu : X.A.units + 64 < cLine) : CallR X (.builtin "repr") (rShowA X.K) := by
  intro pins s σ H xs us Q I r h
  obtain ⟨x, rfl, h⟩ := h
  rcases h with ⟨z, h1, h2, q⟩ | ⟨a, rfl, e, q⟩ | h
  · cases r with
    | cons r1 r2 =>
      cases r2
      rename_i u
      have go : ∀ (x : V), L2.RelV x u → flZ x = some z → wpAny (model X.prog X.w) X.A (call (.builtin "repr") [u]) (EP X pins σ Q) X.xe s := by
        intro x r1 h1
        cases x <;> simp only [flZ] at h1 <;> try cases h1
        · cases (show u = Value.none from r1)
          exact PySem.P.repr_of_none ⟨.str "None", H, I.tok _, ⟨_, rfl⟩, q⟩
        · cases (show u = Value.bool _ from r1)
          exact PySem.P.repr_of_bool ⟨.str _, H, I.tok _, ⟨_, rfl⟩, q⟩
        · split at h1
          · cases h1
            obtain ⟨t, rfl⟩ := r1
            exact PySem.P.repr_of_int (by assumption) ⟨.str _, H, I.tok _, ⟨_, rfl⟩, q⟩
          · cases h1
        · obtain ⟨t, rfl⟩ := r1
          exact PySem.P.repr_of_str ⟨.str _, H, I.tok _, ⟨_, rfl⟩, q⟩ h2
      exact go _ r1 h1
  · cases r with
    | cons r1 r2 =>
      cases r2
      cases (show _ = Value.ref a from r1)
      obtain ⟨_, hsys, vs, kv, o, es, ep, h1, h2, h3, h4⟩ := I.hok a _ e
      have hv : vs = [] := by cases kv; rfl
      subst hv
      have he : es.toList = [] := by
        have h5 := h4.2.1
        cases hq : es.toList with
        | nil => rfl
        | cons p r => rw [hq] at h5; exact absurd h5.length (by simp)
      have rd : Reads s.heap (.ref a) (.dict []) [a] := by
        have := Reads.dict (kvs := []) (as := []) (bs := []) h1 h2.1 h3 (by rw [he]; exact .nil) (by rw [he]; exact .nil)
        simpa using this
      have h5 : PyData.depth (.dict []) ≤ 10 := by decide
      have h6 : X.A.units + (PyData.depth (.dict []) + 1) < cLine := by omega
      refine repr_of_reads' rd rfl (fun _ z => ?_) gd h6 (fun _ _ z => z) (fun h' u tk hk => ?_) (by decide)
      · have := List.mem_singleton.mp z
        rw [this] at hsys
        simp at hsys
      · exact ⟨.str _, H, I.kept hk, ⟨_, rfl⟩, q⟩
  · exact call_show gd hu pins s σ H [x] us Q I r h
end
section
variable {K : PySem.W.Frag} {G : Nat → Nat} {W S : List Nat} {p : Bool} {ta : TE} {F : Fx}
def showAP : List PyData → Option PyData := o1 fun a => match a with
  | .none => some (.str "None")
  | .bool b => some (.str (if b then "True" else "False"))
  | .int i => if i.natAbs.log2 < 1920 ∧ (toString i : Str).length ≤ 100000 then some (.str (toString i)) else none
  | .str x => if (reprText x).length ≤ 100000 then some (.str (reprText x)) else none
  | .dict [(.none, .none)] => some (.str "{}")
  | a => showP [a]
theorem do_emd {H : Hp} {v : V} (h : Dq K H v emD) : ∃ a, v = .ref a ∧ H a = some (.dK []) := by
  generalize hd : emD = d at h
  cases h with
  | emd h1 => exact ⟨_, rfl, h1⟩
  | exc => cases hd
  | @scr a ns hs =>
    exfalso
    unfold emD at hd
    cases ns with
    | nil => cases hd
    | cons z zs => simp at hd
  | non => cases hd
  | bl => cases hd
  | int => cases hd
  | str => cases hd
  | lst => cases hd
  | tup => cases hd
theorem ok_showA : BNok K (rShowA K) showAP := fun ds d h O H xs Q l hx q => by
  unfold showAP at h
  cases hx with
  | nil => cases h
  | cons h1 h2 =>
    cases h2 with
    | cons _ _ => cases h
    | nil =>
      rename_i v a
      simp only [o1] at h
      split at h
      · cases h; cases dp_non h1; exact ⟨_, rfl, .inl ⟨_, rfl, by decide, q _ H (Same.refl H) (.str _)⟩⟩
      · rename_i b
        cases h; cases dp_bl h1; exact ⟨_, rfl, .inl ⟨_, rfl, by cases b <;> decide, q _ H (Same.refl H) (.str _)⟩⟩
      · split at h
        · rename_i hi
          cases h; cases dp_int h1; exact ⟨_, rfl, .inl ⟨_, (if_pos hi.1 : (if _ then _ else _) = _), sz hi.2, q _ H (Same.refl H) (.str _)⟩⟩
        · cases h
      · split at h
        · rename_i hi
          cases h; cases dp_str h1; exact ⟨_, rfl, .inl ⟨_, rfl, sz hi, q _ H (Same.refl H) (.str _)⟩⟩
        · cases h
      · cases h
        obtain ⟨a, rfl, h2⟩ := do_emd h1
        exact ⟨_, rfl, .inr (.inl ⟨a, rfl, rm_le _ _ h2, q _ H (Same.refl H) (.str _)⟩)⟩
      · exact ⟨_, rfl, .inr (.inr (ok_show _ _ h O H _ Q l (.cons h1 .nil) q))⟩
/-! x is True -/
def isBP (neg : Bool) : PyData → PyData → Option PyData := fun a b => match a, b with
  | .bool i, .bool j => some (.bool (neg != decide (i = j)))
  | _, _ => none
theorem ok_isB : R2ok K (fun x y H Q => ∃ a b, x = .bl a ∧ y = .bl b ∧ Q (.bl (decide (a = b))) H) (isBP false) := fun a b d h O H x y Q l hx hy q => by
  unfold isBP at h
  split at h
  · cases h
    cases dp_bl hx
    cases dp_bl hy
    exact ⟨_, _, rfl, rfl, q _ H (Same.refl H) (by simpa using Dq.bl _)⟩
  · cases h
theorem ok_notB : R2ok K (fun x y H Q => ∃ a b, x = .bl a ∧ y = .bl b ∧ Q (.bl (!decide (a = b))) H) (isBP true) := fun a b d h O H x y Q l hx hy q => by
  unfold isBP at h
  split at h
  · cases h
    cases dp_bl hx
    cases dp_bl hy
    exact ⟨_, _, rfl, rfl, q _ H (Same.refl H) (by simpa using Dq.bl _)⟩
  · cases h
/-! ~x -/
def invF (F : Fx) : Fx := fun env => (F env).bind fun x => (gI x.1).map fun i => (.int (Builtin.bitNot i), x.2)
theorem fv_inv (h : fEV K G W S p ta F) : fEV K G W S p (tUn (rU fun i => .int (Builtin.bitNot i)) ta) (invF F) := fun env d env' e c f H σ r Q q => by
  obtain ⟨x, e1, e⟩ := bd e
  obtain ⟨i, e2, e⟩ := mp e
  cases e
  refine h env x.1 x.2 e1 c f H σ r _ fun f1 v H1 a1 hv => ?_
  rw [gI_eq e2] at hv
  exact ⟨i, dp_int hv, q f1 _ H1 a1 (.int _)⟩
/-! what a class's table of answers says -/
theorem ix1 {r : Str} {R : Addr} {u : Value} {b0 : Bool} (hr : PySem.W.nsIn K mainGlobals r = some (some (.ref R))) (hC : ExcC K R) (hk : PySem.W.kitOne K (.ref R) u = some b0) :
    ∀ n b, List.lookup n [(r, b0)] = some b → ∀ D, PySem.W.nsIn K mainGlobals n = some (some (.ref D)) → ExcC K D ∧ PySem.W.kitOne K (.ref D) u = some b := fun n b h D hD => by
  rw [List.lookup_cons] at h
  split at h
  · rename_i e
    have e2 : n = r := by simpa using e
    subst e2
    cases h
    rw [hr] at hD
    cases hD
    exact ⟨hC, hk⟩
  · cases h
theorem ixs {r : Str} {R : Addr} {us : List Value} {b0 : Bool} (hr : PySem.W.nsIn K mainGlobals r = some (some (.ref R))) (hC : ExcC K R) (hk : PySem.W.kitAny K (.ref R) us = some b0) :
    ∀ n b, List.lookup n [(r, b0)] = some b → ∀ D, PySem.W.nsIn K mainGlobals n = some (some (.ref D)) → ExcC K D ∧ PySem.W.kitAny K (.ref D) us = some b := fun n b h D hD => by
  rw [List.lookup_cons] at h
  split at h
  · rename_i e
    have e2 : n = r := by simpa using e
    subst e2
    cases h
    rw [hr] at hD
    cases hD
    exact ⟨hC, hk⟩
  · cases h
theorem em1 {r : Str} {R : Addr} {c0 : Value} (hr : PySem.W.nsIn K mainGlobals r = some (some (.ref R))) (hk : PySem.W.exmOne K (.ref R) c0 = some true) : ∀ n ∈ [r], ∀ C, PySem.W.nsIn K mainGlobals n = some (some (.ref C)) → PySem.W.exmOne K (.ref C) c0 = some true := fun n hn C hC => by
  cases List.mem_singleton.mp hn
  rw [hr] at hC
  cases hC
  exact hk
end
/-! list(range(n)) -/
def intsV (n : Nat) : List V := (List.range n).map fun (k : Nat) => V.int (0 + (k : Int))
theorem intsV_da {K : PySem.W.Frag} {H : Hp} (n : Nat) : DqAll K H (intsV n) (rngD 0 n) := by
  have : ∀ l : List Nat, DqAll K H (l.map fun (k : Nat) => V.int (0 + (k : Int))) (l.map fun (k : Nat) => PyData.int (0 + (k : Int))) := fun l => by
    induction l with
    | nil => exact .nil
    | cons a r ih => exact .cons (.int _) ih
  exact this _
def rRng1 : List V → Hp → VK → Prop := fun vs H Q => ∃ j, vs = [V.int j] ∧ ∀ p, H p = none → Q (.ref p) (upd H p (.rng 0 j))
def rLRng : List V → Hp → VK → Prop := fun xs H Q => ∃ p j, xs = [V.ref p] ∧ H p = some (.rng 0 j) ∧ -1000000 ≤ j ∧ j ≤ 100000 ∧ ∀ l, H l = none → Q (.ref l) (upd H l (.lst (intsV j.toNat)))
section
variable {X : Cx}
theorem cr_range1 : CallR X (.type "range") rRng1 := by
  intro pins s σ H vs us Q I r h
  obtain ⟨j, rfl, q⟩ := h
  obtain ⟨u1, rfl, t, rfl⟩ := vals1 r
  exact call_range_1 ⟨.ref s.heap.objs.size, upd H s.heap.objs.size (.rng 0 j), I.laid (t' := s.toks + 1 + 1) (fun b o e => Heap.get?_push_of_some _ e) (Nat.le_refl _) ⟨_, _, _, Heap.get?_push_size _ rfl⟩, rfl, q _ (I.hok.fresh (Nat.le_refl _))⟩
theorem vals_ints (n : Nat) : ∀ (its : List Value) (lo : Nat), its.length = n → (∀ j v, its[j]? = some v → ∃ t, v = Value.int ((0 : Int) + ((lo + j : Nat) : Int) * 1) t) → Vals ((List.range n).map fun (k : Nat) => V.int (0 + ((lo + k : Nat) : Int))) its := by
  induction n with
  | zero =>
    intro its lo hl _
    cases its with
    | nil => exact .nil
    | cons _ _ => simp at hl
  | succ n ih =>
    intro its lo hl hv
    cases its with
    | nil => simp at hl
    | cons u r =>
      rw [List.range_succ_eq_map, List.map_cons, List.map_map]
      obtain ⟨t, e⟩ := hv 0 u rfl
      refine .cons ⟨t, by rw [e]; simp⟩ ?_
      have z := ih r (lo + 1) (by simpa using hl) fun j v hj => by
        obtain ⟨t, e⟩ := hv (j + 1) v (by simpa using hj)
        exact ⟨t, by rw [e, show lo + 1 + j = lo + (j + 1) by omega]⟩
      have e2 : ((fun k : Nat => V.int (0 + ((lo + k : Nat) : Int))) ∘ Nat.succ) = fun k : Nat => V.int (0 + ((lo + 1 + k : Nat) : Int)) := by
        funext k
        show V.int _ = V.int _
        rw [show lo + (k + 1) = lo + 1 + k by omega]
      rw [e2]
      exact z
theorem call_list_rng (hc : X.calm = true) : CallR X (.type "list") rLRng := by
  intro pins s σ H vs us Q I r h
  obtain ⟨p, j, rfl, e, h1, h2, q⟩ := h
  obtain ⟨u1, rfl, rx⟩ := vals1 r
  cases (show u1 = Value.ref p from rx)
  obtain ⟨t, u, v, ho⟩ := I.hok p _ e
  have hsz : Builtin.Range.rangeSize 0 j 1 = (j.toNat : Int) := by
    rw [rangeSize_one]
    split <;> omega
  refine call_list_range (I.ok.hd hc) ho (small_one (by decide) (by decide) (by omega) (by omega)) hsz (by omega) fun h' tk acc c' hk hn hi => ?_
  have hv : Vals (intsV j.toNat) acc.toList := by
    have z := vals_ints j.toNat acc.toList 0 (by simpa using hi.1) fun k v hkv => by
      obtain ⟨t, e⟩ := hi.2 k v (by simpa using hkv)
      exact ⟨t, by rw [e]; simp⟩
    simpa [intsV] using z
  have hl : (intsV j.toNat).length ≤ sizeLine := by
    have : (intsV j.toNat).length = j.toNat := by simp [intsV]
    rw [this]
    exact sz (by omega)
  exact ⟨.ref s.heap.objs.size, _, I.laid (t' := tk) hk (Nat.le_refl _) (show ObjOk X.prog X.w _ h' _ (.lst (intsV j.toNat)) from ⟨hl, acc.toList, c', hv, by simpa using hn⟩), rfl, q _ (I.hok.fresh (Nat.le_refl _))⟩
end
section
variable {K : PySem.W.Frag} {G : Nat → Nat} {W S : List Nat} {p : Bool} {te : TE} {F : Fx}
def lrF (F : Fx) : Fx := fun env => (F env).bind fun x => (gI x.1).bind fun n => if -1000000 ≤ n ∧ n ≤ 100000 then some (.list (rngD 0 n.toNat), x.2) else none
theorem ef_lrng (h : fEV K G W S p te F) : fEF K G W 1 p (tCB rLRng (tCons (tCB rRng1 (tCons te tNil)) tNil)) (lrF F) := fun env d env' e c f H σ rr Q q => by
  obtain ⟨x, e1, e⟩ := bd e
  obtain ⟨n, e2, e⟩ := bd e
  split at e
  · rename_i hn
    cases e
    refine h env x.1 x.2 e1 c f H σ rr _ fun f1 v H1 a1 hv => ?_
    rw [gI_eq e2] at hv
    refine ⟨n, by rw [dp_int hv], fun p np => ⟨p, n, rfl, upd_same, hn.1, hn.2, fun l nl => ?_⟩⟩
    exact new_list (a1.step (same_new np)) nl (intsV_da _) q
  · cases e
end
section
variable {K : PySem.W.Frag} {G G' : Nat → Nat} {W S : List Nat} {p : Bool} {te : TE} {F : Fx} {L : Fa}
theorem fv_emd : fEV K G W S true (fun _ H Q => ∀ d, H d = none → Q (.ref d) (upd H d (.dK []))) (cc emD) := fun env d env' e c f H σ r Q q => by
  cases e
  intro a na
  refine q f _ _ ((Aft.rfl r).step (same_new na)) (.emd ?_)
  rw [rm_at fun z => (r.live.new na) (cutf_sub z)]
  exact upd_same
/-- a call that makes a new list of plain things of what is seen -/
def callFS (g : List PyData → Option (PyData × List PyData)) (L : Fa) : Fx := fun env => (L env).bind fun x => (g x.1).bind fun y => match y.1 with
  | .list es => if noL.noLs es = true then some (.list es, x.2) else none
  | _ => none
theorem ef_callS {g : List PyData → Option (PyData × List PyData)} {E : XK} {tr : TA} (h : fEA K G W S p tr L) : fEF K G W 1 p (tCall (SpX K G' [] (some 1) g) [] E tr) (callFS g L) := fun env d env' e c f H σ r Q q => by
  obtain ⟨x, e1, e⟩ := bd e
  obtain ⟨y, e2, e⟩ := bd e
  split at e
  case h_2 => cases e
  rename_i es hy
  split at e
  case isFalse => cases e
  rename_i hn
  cases e
  refine h env x.1 x.2 e1 c f H σ r _ fun f1 vs H1 a1 hv => ?_
  refine ⟨⟨H1, hidS c W S f1, []⟩, fun _ => [], x.1, y.1, y.2, by rw [List.append_nil]; exact sr_args (c := c) (f := f1) a1.live hv, rfl, e2, fun f' v H' r' hr => ?_⟩
  obtain ⟨A, hA, rh, ho⟩ := hr
  rw [hy] at ho
  obtain ⟨a, ws, ds, A', rfl, hd, rfl, g1, g2, g3⟩ := ho
  cases hd
  obtain ⟨rfl, g4⟩ := owA_to g3
  have na : H1 a = none := (hA a List.mem_cons_self).2
  have base : Same H1 H' := r'.base
  have offc : ∀ b ∈ hid c.O W f1, b ≠ a := fun b hb z => a1.r.live b hb (by rw [z]; exact na)
  have lA : ∀ b ∈ [a], H' b ≠ none := fun b hb => by
    rw [List.mem_singleton.mp hb, g1]
    simp
  have r2 : SR K G (c.hide [a]) W f1 H' σ _ := a1.r.hideFresh base (fun b hb => by rw [List.mem_singleton.mp hb]; exact na) lA
  refine q f1 _ [a] H' (a1.step base) (fun b hb => ?_) r2 ⟨a, ws, es, [], rfl, rfl, rfl, g1, by simp, owA_of ?_⟩
  · rw [List.mem_singleton.mp hb]
    exact ⟨fun z => offc a (mem_hid.mpr (.inl z)) rfl, a1.r.base.free na⟩
  · refine noLs_up (fun b hb hnb => ?_) es ws hn g4
    rcases mem_hide.mp hb with z | z
    · exact absurd (mem_hid.mpr (.inl (List.mem_append_left _ z))) hnb
    · rcases mem_hid.mp z with z | ⟨i, hi, z⟩
      · exact absurd (mem_hid.mpr (.inl (List.mem_append_right _ (mem_hid.mpr (.inl z))))) hnb
      · obtain ⟨w, dd, _, _, k3⟩ := a1.r.own i hi
        obtain ⟨us, k4⟩ := ow_lst _ _ _ _ k3 b z
        exact ⟨us, base _ _ k4⟩
end
section
variable {K : PySem.W.Frag}
/-- isinstance's answer of an own class over another -/
theorem kit_own {r C : Addr} {b : Bool} (hd : PySem.W.hasDictIn K C = true) (ht : PySem.W.typeIn K (.ref C) = some (.type "type")) (hs : PySem.W.subIn K (.ref r) (.ref C) = some b) (hr : PySem.W.subIn K (.ref r) (.ref r) = some true) : PySem.W.kitOne K (.ref r) (.ref C) = some b := by
  unfold PySem.W.kitOne
  by_cases e : (Value.ref r == Value.ref C) = true
  · rw [if_pos e]
    have e2 : r = C := Value.ref.inj (beq_iff_eq.mp e)
    rw [← e2, hr] at hs
    exact hs
  · rw [if_neg e]
    obtain ⟨cd, hc, _⟩ := PySem.W.any_some hd
    show (if ((PySem.W.clsIn K C).isSome && PySem.W.typeIn K (.ref C) == some (.type "type")) = true then PySem.W.subIn K (.ref r) (.ref C) else none) = some b
    rw [hc, ht, hs]
    rfl
theorem kit_type {r : Addr} {T : String} {b : Bool} (hm : PySem.W.kitMeta T = true) (hs : PySem.W.subIn K (.ref r) (.type T) = some b) : PySem.W.kitOne K (.ref r) (.type T) = some b := by
  show (if (Value.ref r == Value.type T) = true then some true else (if PySem.W.kitMeta T = true then PySem.W.subIn K (.ref r) (.type T) else none)) = some b
  rw [if_neg (by simp), if_pos hm, hs]
end
abbrev divP := ipc (fun _ j => decide (0 < j ∧ j < 1267650600228229401496703205376)) fun i j => i / j
theorem ok_divW {K : PySem.W.Frag} : R2ok K (rI CDivW fun i j => .int (i / j)) divP := ok_c fun i j h => by
  have h2 : 0 < j ∧ j < 1267650600228229401496703205376 := by simpa using h
  exact wide_div (b := 100) h2.1 (by omega) (by decide) (by decide)
end Xq

/-! enumerate of a tuple -/
namespace PySem
open Sem (wp)
open AutoSeq1 (wpAny_loadPart')
/-- what the enumerate object over v begins as -/
def enO (it : Addr) : Obj := { cls := .type "enumerate", data := .fields #[.none, .bool false, .ref it, rawInt 0, .none, .none] }
def tiO (v : Addr) : Obj := { cls := .type "tuple_iterator", data := .fields #[.ref v, .int 0 0] }
theorem enum_tuple_new (v : Addr) (xs : Array Value) (m : Nat) (dd : Option Addr) (sl : Array (Option Value)) : Meets (Builtin.«enumerate.__new__» ⟨[.type "enumerate", .ref v], []⟩)
    (fun _ R s => s.heap.get? v = some { cls := .type "tuple", dict := dd, data := .seq xs m, slots := sl } ∧ R (.ok (.ret (.ref (s.heap.push (tiO v)).objs.size))) { s with heap := (s.heap.push (tiO v)).push (enO s.heap.objs.size) }) := by
  refine .of_wp fun prog w A R s both => ?_
  have isub := sub_enumerate
  obtain ⟨hp, gs, dn, tk, os⟩ := s
  obtain ⟨at_v, go⟩ := both
  have T : Heap.IsTuple (Shared.heap ⟨hp, gs, dn, tk, os⟩) v xs := ⟨_, at_v, rfl, m, rfl⟩
  wp_walk using wpAny_loadPart' at_v
  refine wpAny_stack_any fun st => wpAny_pure ?_
  split
  · rename_i c _ _ _ _ _
    cases hc : (c == Value.type "enumerate") <;> (wp_walk using wpAny_loadPart' at_v, wpAny_pyIter_tuple T) <;> exact ⟨_, rfl, go⟩
  · wp_walk using wpAny_loadPart' at_v, wpAny_pyIter_tuple T
    exact ⟨_, rfl, go⟩
theorem call_enum_tuple {prog : Program} {w : World} {A : Around} {E : Value → Shared → Prop} {s : Shared} {v : Addr} {xs : Array Value} {Q : Value → Shared → Prop} (T : s.heap.IsTuple v xs)
    (go : Q (.ref (s.heap.objs.size + 1)) { s with heap := (s.heap.push (tiO v)).push (enO s.heap.objs.size) }) : wpAny (model prog w) A (call (.type "enumerate") [.ref v]) Q E s := by
  obtain ⟨⟨c, dd, dt, sl⟩, at_v, h1, m, h2⟩ := T
  cases (show c = .type "tuple" from h1)
  cases (show dt = .seq xs m from h2)
  have size1 : (s.heap.push (tiO v)).objs.size = s.heap.objs.size + 1 := Heap.size_push ..
  refine callType_new F.called_enumerate (by decide) (F.typeCall_enumerate_1 _) (F.newCall_enumerate_1 _) (fun obj => F.args_object_init_2 obj _) F.entry_enumerate_new (enum_tuple_new v xs m dd sl) ⟨at_v, ?_⟩
  show _ ∧ _
  rw [size1]
  have e := Heap.get?_push_size (s.heap.push (tiO v)) (o := enO s.heap.objs.size) rfl
  rw [size1] at e
  exact ⟨⟨_, e, rfl⟩, go⟩
end PySem

/-! zip of lists and tuples, mixed -/
namespace Xq
open PySem PySem.Spec PyProof.Rows L2 Pre Dv Sv Gd
def ItAt (k : Bool) (h : Heap) (it a : Addr) (i : Nat) : Prop := if k = true then h.IsListIter it a i else h.IsTupleIter it a i
def IsQ (k : Bool) (h : Heap) (a : Addr) (items : Array Value) : Prop := if k = true then h.IsList a items else h.IsTuple a items
def SqK (k : Bool) (K : PySem.W.Frag) (H : Hp) (a : Addr) (xs : List V) : Prop := if k = true then SqL K H a xs else SqT K H a xs
def itO (k : Bool) (a : Addr) : Obj := if k = true then { cls := .type "list_iterator", data := .fields #[.ref a, .int 0 0] } else { cls := .type "tuple_iterator", data := .fields #[.ref a, .int 0 0] }
theorem ItAt.obj {k : Bool} {h : Heap} {it a : Addr} {i : Nat} (x : ItAt k h it a i) : ∃ o, h.get? it = some o ∧ ∀ v, o.data ≠ .cell v := by
  cases k
  · obtain ⟨o, h1, _, h2⟩ := (show h.IsTupleIter it a i from x)
    exact ⟨o, h1, fun v q => by rw [h2] at q; cases q⟩
  · obtain ⟨o, h1, _, h2⟩ := (show h.IsListIter it a i from x)
    exact ⟨o, h1, fun v q => by rw [h2] at q; cases q⟩
theorem ItAt.keep {k : Bool} {h h' : Heap} {it a : Addr} {i : Nat} (x : ItAt k h it a i) (q : ∀ o, h.get? it = some o → h'.get? it = some o) : ItAt k h' it a i := by
  cases k
  · exact (show h.IsTupleIter it a i from x).at q
  · exact (show h.IsListIter it a i from x).at q
theorem drawsQ (k : Bool) {prog : Program} {w : World} {A : Around} (hh : A.handled = none) (it a : Addr) (hne : a ≠ it) (items : Array Value) : Draws prog w A it [it, a] items.size (fun i v => items[i]? = some v) (fun i h => ItAt k h it a i ∧ IsQ k h a items) := by
  cases k
  · exact Draws.tuple hh it a hne items
  · exact Draws.list hh it a hne items
theorem beginsQ (k : Bool) (a : Addr) (items : Array Value) : Begins (.ref a) (itO k a) fun h => IsQ k h a items := by
  cases k
  · exact begins_tuple a items
  · exact begins_list a items
theorem IsQ.lt {k : Bool} {h : Heap} {a : Addr} {items : Array Value} (x : IsQ k h a items) : a < h.objs.size := by
  cases k
  · exact (show h.IsTuple a items from x).elim fun o z => Heap.lt_size z.1
  · exact (show h.IsList a items from x).elim fun o z => Heap.lt_size z.1
theorem itO_at {k : Bool} {h : Heap} {it a : Addr} (e : h.get? it = some (itO k a)) : ItAt k h it a 0 := by
  cases k
  · exact ⟨_, e, rfl, rfl⟩
  · exact ⟨_, e, rfl, rfl⟩
section
variable {X : Cx} {pins : List (Addr × Obj)} {σ : L2.St} {H : Hp} {s : Shared}
theorem sqK_vals {k : Bool} {a : Addr} {xs : List V} (I : Inv X pins σ H s) (q : SqK k X.K H a xs) : ∃ its : List Value, Vals xs its ∧ IsQ k s.heap a its.toArray := by
  cases k
  · obtain ⟨its, rv, T, _⟩ := I.tuple (show SqT X.K H a xs from q)
    exact ⟨its, rv, T⟩
  · obtain ⟨its, rv, T, _⟩ := I.list (show SqL X.K H a xs from q)
    exact ⟨its, rv, T.isList⟩
theorem sqK_inj {k : Bool} {a : Addr} {xs ys : List V} (I : Inv X pins σ H s) (p : SqK k X.K H a xs) (q : SqK k X.K H a ys) : xs = ys := by
  cases k
  · exact I.tuple_inj p q
  · exact I.list_inj p q
end
def ItzQ (j k : Bool) (K : PySem.W.Frag) (a b : Addr) : It where
  go := fun i H => ∃ (xs ys : List V) (x y : V), SqK j K H a xs ∧ SqK k K H b ys ∧ xs[i]? = some x ∧ ys[i]? = some y
  yld := fun i H v H' => ∃ T x y, v = .ref T ∧ H T = none ∧ H' = upd H T (.tup [x, y]) ∧ (∀ xs, SqK j K H a xs → xs[i]? = some x) ∧ ∀ ys, SqK k K H b ys → ys[i]? = some y
  stop := fun i H => ∃ xs ys : List V, SqK j K H a xs ∧ SqK k K H b ys ∧ i = min xs.length ys.length
theorem turn_zipQ {j k : Bool} {P : Program} {w : World} {K : PySem.W.Frag} {elts : List Expr} {kk : Nat} {tpos : Pos} {a b z TI TO i1 i2 : Addr} (S : ZipSep2 z TI TO i1 i2 [i1, a] [i2, b]) (n1 : a ≠ i1) (n2 : b ≠ i2) :
    Turn P w K (.Tuple elts kk tpos) (ItzQ j k K a b) [z, TI, TO, i1, i2] z (fun i h => IsZip h z TI TO .none ∧ IsTupOf2 h TI (.ref i1) (.ref i2) ∧ (∃ x y, IsTupOf2 h TO x y) ∧ ItAt j h i1 a i ∧ ItAt k h i2 b i) where
  mem := List.mem_cons_self
  obj := fun i h st c hc => by
    obtain ⟨g1, g2, ⟨x, y, g3⟩, g4, g5⟩ := st
    simp only [List.mem_cons, List.not_mem_nil, or_false] at hc
    rcases hc with rfl | rfl | rfl | rfl | rfl
    · exact ⟨_, g1, fun v q => nomatch q⟩
    · exact ⟨_, g2, fun v q => nomatch q⟩
    · exact ⟨_, g3, fun v q => nomatch q⟩
    · exact g4.obj
    · exact g5.obj
  keep := fun i h h' st q => by
    obtain ⟨g1, g2, ⟨x, y, g3⟩, g4, g5⟩ := st
    exact ⟨q z (by simp) _ g1, q TI (by simp) _ g2, ⟨x, y, q TO (by simp) _ g3⟩, g4.keep (q i1 (by simp)), g5.keep (q i2 (by simp))⟩
  item := by
    intro X eP ew eK calm i pins s σ H E I free st more
    subst eP ew eK
    obtain ⟨g1, g2, ⟨x0, y0, g3⟩, g4, g5⟩ := st
    obtain ⟨xs, ys, x, y, q1, q2, at1, at2⟩ := more
    obtain ⟨its1, r1, T1⟩ := sqK_vals I q1
    obtain ⟨its2, r2, T2⟩ := sqK_vals I q2
    obtain ⟨u1, hu1, ru1⟩ := r1.get at1
    obtain ⟨u2, hu2, ru2⟩ := r2.get at2
    have lt1 : i < its1.toArray.size := by simpa using (List.getElem?_eq_some_iff.mp hu1).1
    have lt2 : i < its2.toArray.size := by simpa using (List.getElem?_eq_some_iff.mp hu2).1
    have lz : z < s.heap.objs.size := Heap.lt_size g1
    have h0 : X.A.in1.handled = none := by show X.A.handled = none; exact I.ok.hd calm
    refine wpAny_pyNext_zipD2_item S (drawsQ j (prog := X.prog) (w := X.w) h0 i1 a n1 its1.toArray) (drawsQ k (prog := X.prog) (w := X.w) h0 i2 b n2 its2.toArray) g1 g2 g3 ⟨g4, T1⟩ ⟨g5, T2⟩ lt1 lt2 fun v1 v2 h1 tk e1 e2 z1 z2 st1 st2 tup size keep => ?_
    have ev1 : v1 = u1 := by
      have z : its1.toArray[i]? = some v1 := e1
      rw [show its1.toArray[i]? = its1[i]? by simp, hu1] at z
      exact (Option.some.inj z).symm
    have ev2 : v2 = u2 := by
      have z : its2.toArray[i]? = some v2 := e2
      rw [show its2.toArray[i]? = its2[i]? by simp, hu2] at z
      exact (Option.some.inj z).symm
    subst ev1 ev2
    refine ⟨_, rfl, wpAny_letOwnedTupleGo_zip (s := { s with heap := h1, toks := tk }) z1 fun h2 z3 sb => ?_⟩
    have tup2 : h2.get? s.heap.objs.size = some { cls := .type "tuple", data := .seq #[v1, v2] } := (sb.2 _ (Nat.ne_of_gt lz)).trans tup
    have new : ObjOk X.prog X.w (upd H s.heap.objs.size (.tup [x, y])) h2 s.heap.objs.size (.tup [x, y]) := ⟨by show 2 ≤ sizeLine; decide, [v1, v2], .cons ru1 (.cons ru2 .nil), _, tup2, rfl, _, rfl⟩
    have kept : ∀ c o, c ∉ [z, TI, TO, i1, i2] → s.heap.get? c = some o → h2.get? c = some o := fun c o hc q => by
      simp only [List.mem_cons, List.not_mem_nil, or_false, not_or] at hc
      exact (sb.2 c hc.1).trans (keep c o hc.1 hc.2.2.1 hc.2.2.2.1 hc.2.2.2.2 q)
    have J := I.turnedNew (t' := tk) (ch := [z, TI, TO, i1, i2]) kept free (Nat.le_refl _) new
    refine ⟨.ref s.heap.objs.size, _, J, rfl, ⟨_, x, y, rfl, I.hok.fresh (Nat.le_refl _), rfl, fun l hl => by rw [sqK_inj I hl q1]; exact at1, fun l hl => by rw [sqK_inj I hl q2]; exact at2⟩, ⟨z3, ?_, ⟨v1, v2, ?_⟩, ?_, ?_⟩, fun c hc => ?_⟩
    · exact (sb.2 _ S.TIz).trans (keep _ _ S.TIz S.TITO S.TIi1 S.TIi2 g2)
    · exact (sb.2 _ S.TOz).trans z2
    · exact st1.1.keep fun o q => (sb.2 _ (Ne.symm S.zi1)).trans q
    · exact st2.1.keep fun o q => (sb.2 _ (Ne.symm S.zi2)).trans q
    · have lc : c < s.heap.objs.size := by
        simp only [List.mem_cons, List.not_mem_nil, or_false] at hc
        rcases hc with rfl | rfl | rfl | rfl | rfl
        · exact lz
        · exact Heap.lt_size g2
        · exact Heap.lt_size g3
        · exact g4.obj.elim fun o z => Heap.lt_size z.1
        · exact g5.obj.elim fun o z => Heap.lt_size z.1
      rw [upd_ne (Nat.ne_of_lt lc)]
      exact (free c hc).1
  done := by
    intro X eP ew eK calm i pins s σ H E I free st over
    subst eP ew eK
    obtain ⟨g1, g2, ⟨x0, y0, g3⟩, g4, g5⟩ := st
    obtain ⟨xs, ys, q1, q2, hi⟩ := over
    obtain ⟨its1, r1, T1⟩ := sqK_vals I q1
    obtain ⟨its2, r2, T2⟩ := sqK_vals I q2
    have l1 := r1.length
    have l2 := r2.length
    have h0 : X.A.in1.handled = none := by show X.A.handled = none; exact I.ok.hd calm
    refine wpAny_pyNext_zipD2_end S (drawsQ j (prog := X.prog) (w := X.w) h0 i1 a n1 its1.toArray) (drawsQ k (prog := X.prog) (w := X.w) h0 i2 b n2 its2.toArray) g1 g2 g3 ⟨g4, T1⟩ ⟨g5, T2⟩ (by simp; omega) (by simp; omega) (by simp; omega) fun h1 tk keep => ⟨rfl, I.turnedL (t' := tk) (ch := [z, TI, TO, i1, i2]) (fun c o hc q => ?_) free⟩
    simp only [List.mem_cons, List.not_mem_nil, or_false, not_or] at hc
    exact keep c o hc.1 hc.2.2.1 hc.2.2.2.1 hc.2.2.2.2 q
  self := fun A i s Q E st q => wpAny_pyIter_zip st.1 q
def iZipQ (K : PySem.W.Frag) (ta : TA) : TI := fun σ H R => ta σ H fun vs H1 => ∃ j k a b xs ys, vs = [.ref a, .ref b] ∧ SqK j K H1 a xs ∧ SqK k K H1 b ys ∧ R (ItzQ j k K a b) H1
theorem pi_zipQ {X : Cx} {e e2 : Expr} {ta : TA} {p pos tpos : Pos} {elts : List Expr} {kk : Nat} (hg : Gl X "zip") (hm : X.mg "zip" = none) (ha : PA X [e, e2] ta)
    (hs : starEach [e, e2] X.env = (false, eval e X.env) :: starEach [e2] X.env := by rfl) (hpl : (backTo pos (starEach [e2] X.env)).any (·.1) = false := by rfl) : PI X (.Tuple elts kk tpos) (.Call (.Name "zip" p) [e, e2] [] pos) (iZipQ X.K ta) := by
  constructor
  intro pins s σ H R I h
  refine Call_ (ld_blt I hg hm PyProof.Rows.boot_zip (PyProof.Rows.callWith_type1 (thn (ha.run pos pins s σ H _ I h) fun us s1 out => ?_) hs hpl))
  obtain ⟨vs, H1, J, rv, j, k, a, b, xs, ys, rfl, q1, q2, q⟩ := out
  obtain ⟨v1, v2, rfl, ra, rb⟩ := vals2 rv
  cases (show v1 = Value.ref a from ra)
  cases (show v2 = Value.ref b from rb)
  obtain ⟨its1, r1, T1⟩ := sqK_vals J q1
  obtain ⟨its2, r2, T2⟩ := sqK_vals J q2
  have la := T1.lt
  have lb := T2.lt
  refine zip_begins2 (beginsQ j a its1.toArray) (beginsQ k b its2.toArray) T1 T2 fun h1 z1 z2 z3 z4 z5 size keep => wpAny_pyIter_zip z1 ?_
  have J2 : Inv X pins σ H1 { s1 with heap := h1 } := J.kept (t' := s1.toks) keep
  have le : ∀ m : Nat, s1.heap.objs.size ≤ s1.heap.objs.size + m := fun m => Nat.le_add_right _ _
  refine ⟨s1.heap.objs.size + 4, [s1.heap.objs.size + 4, s1.heap.objs.size + 2, s1.heap.objs.size + 3, s1.heap.objs.size, s1.heap.objs.size + 1], _, _, H1, rfl, J2, turn_zipQ ?_ (Nat.ne_of_lt la) (Nat.ne_of_lt (Nat.lt_succ_of_lt lb)), ⟨z1, z2, ⟨_, _, z3⟩, itO_at z4, itO_at z5⟩, fun c hc => ?_, q⟩
  · exact zip_sep2 (fp1 := [a]) (fp2 := [b]) (fun c hc => by rw [List.mem_singleton.mp hc]; exact la) (fun c hc => by rw [List.mem_singleton.mp hc]; exact lb)
  · have hle : s1.heap.objs.size ≤ c := by
      simp only [List.mem_cons, List.not_mem_nil, or_false] at hc
      rcases hc with rfl | rfl | rfl | rfl | rfl
      · exact le 4
      · exact le 2
      · exact le 3
      · exact le 0
      · exact le 1
    exact J.fpOk hle (J.hok.fresh hle)
theorem walk_zipQ {j k : Bool} {K : PySem.W.Frag} {a b : Addr} {xs ys : List V} {n : Nat} (hn : n = min xs.length ys.length) : Walk (ItzQ j k K a b) n (fun H => SqK j K H a xs ∧ SqK k K H b ys) (YPair (fun i => xs[i]?) (fun i => ys[i]?)) := by
  subst hn
  refine ⟨fun i _ hi q => ?_, fun _ q => ⟨xs, ys, q.1, q.2, rfl⟩, fun i H v H' _ q y => ?_⟩
  · have h1 : i < xs.length := by omega
    have h2 : i < ys.length := by omega
    exact ⟨xs, ys, xs[i], ys[i], q.1, q.2, by simp [h1], by simp [h2]⟩
  · obtain ⟨T, x, z, h1, h2, h3, h4, h5⟩ := y
    exact ⟨T, x, z, h1, h2, h3, h4 xs q.1, h5 ys q.2⟩
def gK (k : Bool) (d : PyData) : Option (List PyData) := if k = true then gR d else gT d
theorem do_K {K : PySem.W.Frag} {O : List Addr} {H : Hp} {k : Bool} {v : V} {d : PyData} {ds : List PyData} (h : DO K O H v d) (e : gK k d = some ds) : ∃ a vs, v = .ref a ∧ SqK k K (rm O H) a vs ∧ DA K O H vs ds := by
  cases k
  · rw [gT_eq (show gT d = some ds from e)] at h
    obtain ⟨a, vs, rfl, g1, g2⟩ := dp_tup h
    exact ⟨a, vs, rfl, g1, g2⟩
  · exact do_R h e
theorem sqK_same {k : Bool} {K : PySem.W.Frag} {H H' : Hp} {a : Addr} {vs : List V} (s : Same H H') (h : SqK k K H a vs) : SqK k K H' a vs := by
  cases k
  · exact Evl.ex_t s h
  · exact Same.seq s h
def IteQ (k : Bool) (K : PySem.W.Frag) (a : Addr) : It where
  go := fun i H => ∃ (xs : List V) (x : V), SqK k K H a xs ∧ xs[i]? = some x
  yld := fun i H v H' => ∃ T x, v = .ref T ∧ H T = none ∧ H' = upd H T (.tup [.int (i : Nat), x]) ∧ ∀ xs, SqK k K H a xs → xs[i]? = some x
  stop := fun i H => ∃ xs : List V, SqK k K H a xs ∧ xs.length = i
theorem turn_enumQ {k : Bool} {P : Program} {w : World} {K : PySem.W.Frag} {elts : List Expr} {kk : Nat} {tpos : Pos} (a e it : Addr) :
    Turn P w K (.Tuple elts kk tpos) (IteQ k K a) [e, it] e (fun i h => (∃ old, IsEnum h e it ((i : Nat) : Int) old) ∧ ItAt k h it a i ∧ e ≠ it ∧ a ≠ it ∧ a ≠ e) where
  mem := List.mem_cons_self
  obj := fun i h st b hb => by
    obtain ⟨⟨old, g1⟩, g2, _⟩ := st
    rcases List.mem_cons.mp hb with z | z
    · exact z ▸ ⟨_, g1, fun v q => nomatch q⟩
    · cases List.mem_singleton.mp z
      exact g2.obj
  keep := fun i h h' st kp => by
    obtain ⟨⟨old, g1⟩, g2, g3⟩ := st
    exact ⟨⟨old, kp e List.mem_cons_self _ g1⟩, g2.keep (kp it (List.mem_cons_of_mem _ List.mem_cons_self)), g3⟩
  item := by
    intro X eP ew eK calm i pins s σ H E I free st more
    subst eP ew eK
    obtain ⟨⟨old, g1⟩, g2, n1, n2, n3⟩ := st
    obtain ⟨xs, x, hq, hx⟩ := more
    obtain ⟨its, rv, T⟩ := sqK_vals I hq
    obtain ⟨u, hu, ru⟩ := rv.get hx
    have hlt : i < its.toArray.size := by simpa using (List.getElem?_eq_some_iff.mp hu).1
    have le : e < s.heap.objs.size := Heap.lt_size g1
    have li : it < s.heap.objs.size := g2.obj.elim fun o q => Heap.lt_size q.1
    refine wpAny_pyNext_enum_itemD (drawsQ k (prog := X.prog) (w := X.w) (A := X.A.in1) (by show X.A.handled = none; exact I.ok.hd calm) it a n2 its.toArray) g1 ⟨g2, T⟩ hlt n1 (by simp; exact ⟨n1, fun z => n3 z.symm⟩) fun y h1 tk hy out st2 tup size keep => ?_
    have ey : y = u := by
      have z : its.toArray[i]? = some y := hy
      rw [show its.toArray[i]? = its[i]? by simp, hu] at z
      exact (Option.some.inj z).symm
    subst ey
    refine ⟨_, rfl, wpAny_letOwnedTupleGo_enum (s := { s with heap := h1, toks := tk + 1 }) out fun h2 back sb => ?_⟩
    have tup2 : h2.get? s.heap.objs.size = some { cls := .type "tuple", data := .seq #[.int i tk, y] } := (sb.2 _ (Nat.ne_of_gt le)).trans tup
    have new : ObjOk X.prog X.w (upd H s.heap.objs.size (.tup [.int (i : Nat), x])) h2 s.heap.objs.size (.tup [.int (i : Nat), x]) := ⟨by show 2 ≤ sizeLine; decide, [.int i tk, y], .cons ⟨_, rfl⟩ (.cons ru .nil), _, tup2, rfl, _, rfl⟩
    have J : Inv X pins σ (upd H s.heap.objs.size (.tup [.int (i : Nat), x])) { s with heap := h2, toks := tk + 1 } := by
      refine I.turnedNew (ch := [e, it]) (fun b ob hb q => ?_) free (Nat.le_refl _) new
      have b1 : b ≠ e := fun z => hb (by simp [z])
      have b2 : b ≠ it := fun z => hb (by simp [z])
      exact (sb.2 b b1).trans (keep b ob b1 b2 q)
    refine ⟨.ref s.heap.objs.size, _, J, rfl, ⟨_, x, rfl, I.hok.fresh (Nat.le_refl _), rfl, fun ys hy2 => by rw [sqK_inj I hy2 hq]; exact hx⟩, ⟨⟨y, ?_⟩, st2.1.keep fun o q => (sb.2 it (Ne.symm n1)).trans q, n1, n2, n3⟩, fun b hb => ?_⟩
    · rw [show ((i + 1 : Nat) : Int) = (i : Int) + 1 by omega]
      exact back
    · have lb : b < s.heap.objs.size := by
        rcases List.mem_cons.mp hb with z | z
        · rw [z]; exact le
        · rw [List.mem_singleton.mp z]; exact li
      rw [upd_ne (Nat.ne_of_lt lb)]
      exact (free b hb).1
  done := by
    intro X eP ew eK calm i pins s σ H E I free st over
    subst eP ew eK
    obtain ⟨⟨old, g1⟩, g2, n1, n2, n3⟩ := st
    obtain ⟨xs, hq, hx⟩ := over
    obtain ⟨its, rv, T⟩ := sqK_vals I hq
    obtain ⟨f0, f1, f2, f3, f4, f5⟩ := free it (by simp)
    have hl := rv.length
    have hi : i = its.toArray.size := by simp; omega
    subst hi
    refine wpAny_pyNext_enum_endD (drawsQ k (prog := X.prog) (w := X.w) (A := X.A.in1) (by show X.A.handled = none; exact I.ok.hd calm) it a n2 its.toArray) g1 ⟨g2, T⟩ fun h1 eb => ⟨rfl, I.turned (t' := s.toks) (fun b o hb q => eb b o hb q) f0 f1 f3 f4 f5⟩
  self := fun A i s Q E st q => st.1.elim fun _ g1 => wpAny_pyIter_enum g1 q
def iEnumQ (K : PySem.W.Frag) (ta : TA) : TI := fun σ H R => ta σ H fun vs H1 => ∃ k a xs, vs = [.ref a] ∧ SqK k K H1 a xs ∧ R (IteQ k K a) H1
theorem call_enumQ {k : Bool} {prog : Program} {w : World} {A : Around} {E : Value → Shared → Prop} {s : Shared} {v : Addr} {xs : Array Value} {Q : Value → Shared → Prop} (T : IsQ k s.heap v xs)
    (go : ∀ h', IsEnum h' (s.heap.objs.size + 1) s.heap.objs.size 0 .none → ItAt k h' s.heap.objs.size v 0 → (∀ b o, s.heap.get? b = some o → h'.get? b = some o) → Q (.ref (s.heap.objs.size + 1)) { s with heap := h' }) : wpAny (model prog w) A (call (.type "enumerate") [.ref v]) Q E s := by
  cases k
  · refine call_enum_tuple (show s.heap.IsTuple v xs from T) (go _ ?_ ?_ ?_)
    · have size1 : (s.heap.push (tiO v)).objs.size = s.heap.objs.size + 1 := Heap.size_push ..
      have z := Heap.get?_push_size (s.heap.push (tiO v)) (o := enO s.heap.objs.size) rfl
      rw [size1] at z
      exact z
    · exact ⟨_, Heap.get?_push_of_some _ (Heap.get?_push_size _ rfl), rfl, rfl⟩
    · exact fun b o z => Heap.get?_push_of_some _ (Heap.get?_push_of_some _ z)
  · exact call_enumerate_list (show s.heap.IsList v xs from T) fun h' e it _ kp => go h' e it kp
theorem pi_enumQ {X : Cx} {e : Expr} {ta : TA} {p pos tpos : Pos} {elts : List Expr} {kk : Nat} (hg : Gl X "enumerate") (hm : X.mg "enumerate" = none) (ha : PA X [e] ta) (hs : starEach [e] X.env = [(false, eval e X.env)] := by rfl) :
    PI X (.Tuple elts kk tpos) (.Call (.Name "enumerate" p) [e] [] pos) (iEnumQ X.K ta) := by
  constructor
  intro pins s σ H R I h
  refine Call_ (ld_blt I hg hm boot_enumerate (PyProof.Rows.callWith_type1 (thn (ha.run pos pins s σ H _ I h) fun us s1 out => ?_) hs rfl))
  obtain ⟨vs, H1, J, rv, k, a, xs, rfl, hq, q⟩ := out
  obtain ⟨v1, rfl, r⟩ := vals1 rv
  cases (show v1 = Value.ref a from r)
  obtain ⟨its, rw1, T⟩ := sqK_vals J hq
  have la := T.lt
  refine call_enumQ T fun h1 at_e at_i kept => ?_
  have J2 : Inv X pins σ H1 { s1 with heap := h1 } := J.kept (t' := s1.toks) kept
  refine wpAny_pyIter_enum at_e ⟨s1.heap.objs.size + 1, [s1.heap.objs.size + 1, s1.heap.objs.size], _, _, H1, rfl, J2, turn_enumQ a (s1.heap.objs.size + 1) s1.heap.objs.size, ⟨⟨.none, at_e⟩, at_i, Nat.succ_ne_self _, Nat.ne_of_lt la, Nat.ne_of_lt (Nat.lt_succ_of_lt la)⟩, fun b hb => ?_, q⟩
  have hle : s1.heap.objs.size ≤ b := by
    rcases List.mem_cons.mp hb with z | z
    · rw [z]; exact Nat.le_succ _
    · rw [List.mem_singleton.mp z]
      exact Nat.le_refl _
  exact J.fpOk hle (J.hok.fresh hle)
theorem walk_enumQ {k : Bool} {K : PySem.W.Frag} {a : Addr} {xs : List V} : Walk (IteQ k K a) xs.length (fun H => SqK k K H a xs) (YPair (fun i => some (.int (i : Nat))) (fun i => xs[i]?)) :=
  ⟨fun i _ hi q => ⟨xs, xs[i], q, by simp [hi]⟩, fun _ q => ⟨xs, q, rfl⟩, fun i H v H' _ q y => by
    obtain ⟨T, x, h1, h2, h3, h4⟩ := y
    exact ⟨T, .int (i : Nat), x, h1, h2, h3, rfl, h4 xs q⟩⟩
section
variable {K : PySem.W.Frag} {G : Nat → Nat} {W : List Nat} {p p2 : Bool} {te tf : TE} {F F2 : Fx}
def gJ : PyData → Option (Bool × List PyData)
  | .tuple ds => some (false, ds)
  | d => (gR d).map fun ds => (true, ds)
theorem gJ_K {d : PyData} {k : Bool} {ds : List PyData} (h : gJ d = some (k, ds)) : gK k d = some ds := by
  unfold gJ at h
  split at h
  · cases h; rfl
  · obtain ⟨es, h1, h2⟩ := mp h
    cases h2
    exact h1
def zpAF (F F2 : Fx) : Fa := fun env => (F env).bind fun x => (F2 x.2).bind fun y => (gJ x.1).bind fun ds => (gJ y.1).map fun es => (zpD ds.2 es.2, y.2)
theorem it_zipQ (h : fEV K G W [] p te F) (h' : fEV K G W [] p2 tf F2) : fIT K G W (p && p2) (iZipQ K (tCons te (tCons tf tNil))) (zpAF F F2) := fun env ds env' e c f H σ r R q => by
  obtain ⟨x, e1, e⟩ := bd e
  obtain ⟨y, e1', e⟩ := bd e
  obtain ⟨⟨j, d1⟩, e2, e⟩ := bd e
  obtain ⟨⟨k, d2⟩, e3, e⟩ := mp e
  cases e
  refine h env x.1 x.2 e1 c f H σ r _ fun f1 v H1 a1 hv => h' x.2 y.1 y.2 e1' c f1 H1 σ a1.r _ fun f2 w H2 a2 hw => ?_
  obtain ⟨a, vs, rfl, g1, g2⟩ := do_K (unS (a2.seen (.inl rfl) hv)) (gJ_K e2)
  obtain ⟨b, ws, rfl, g3, g4⟩ := do_K (unS hw) (gJ_K e3)
  refine ⟨j, k, a, b, vs, ws, rfl, sqK_same rm_le g1, sqK_same rm_le g3, q _ f2 H2 (a1.trans a2) ⟨fun H2 => SqK j K H2 a vs ∧ SqK k K H2 b ws, YPair (fun i => vs[i]?) (fun i => ws[i]?), ?_, fun H2 s2 => ⟨sqK_same ((rm_sub sub_tree).trans s2) g1, sqK_same ((rm_sub sub_tree).trans s2) g3⟩, y_pair fun O2 k H2 x y s2 hx hy => ?_⟩⟩
  · refine walk_zipQ ?_
    show (zpD d1 d2).length = _
    unfold zpD
    rw [List.length_zipWith, dpAll_len g2, dpAll_len g4]
  · obtain ⟨d, hd, hv⟩ := dpAll_getV g2 hx
    obtain ⟨e, he, hw⟩ := dpAll_getV g4 hy
    exact ⟨d, e, zp_get hd he, dp_same s2 _ _ hv, dp_same s2 _ _ hw⟩
def enQF (F : Fx) : Fa := fun env => (F env).bind fun x => (gJ x.1).map fun ds => (enD ds.2, x.2)
theorem it_enumQ (h : fEV K G W [] p te F) : fIT K G W p (iEnumQ K (tCons te tNil)) (enQF F) := fun env es env' e c f H σ r R q => by
  obtain ⟨x, e1, e⟩ := bd e
  obtain ⟨⟨k, ds⟩, e2, e⟩ := mp e
  cases e
  refine h env x.1 x.2 e1 c f H σ r _ fun f1 v H1 a1 hv => ?_
  obtain ⟨a, vs, rfl, g1, g2⟩ := do_K (unS hv) (gJ_K e2)
  refine ⟨k, a, vs, rfl, sqK_same rm_le g1, q _ f1 H1 a1 ⟨fun H2 => SqK k K H2 a vs, YPair (fun i => some (.int (i : Nat))) (fun i => vs[i]?), ?_, fun H2 s2 => sqK_same ((rm_sub sub_tree).trans s2) g1, y_pair fun O2 k H2 x y s2 hx hy => ?_⟩⟩
  · show Walk _ (enD ds).length _ _
    unfold enD
    rw [List.length_zipWith, List.length_range, Nat.min_self, ← dpAll_len g2]
    exact walk_enumQ (xs := vs)
  · cases hx
    obtain ⟨d, hd, hv⟩ := dpAll_getV g2 hy
    exact ⟨_, d, en_get hd, .int _, dp_same s2 _ _ hv⟩
end
end Xq

namespace Sv
open PySem PySem.Spec PyProof.Rows L2 Pre Dv
/-! ## data that repr shows, and how long that is at most -/
def fine : PyData → Bool
  | .none | .bool _ => true
  | .int i => decide (i.natAbs < 18446744073709551616)
  | .str x => PyData.strOk x
  | .list ds | .tuple ds => fines ds
  | .dict _ => false
where fines : List PyData → Bool
  | [] => true
  | d :: r => fine d && fines r
def wid : PyData → Nat
  | .none => 4
  | .bool _ => 5
  | .int _ => 70
  | .str x => 10 * x.length + 2
  | .list ds | .tuple ds => wids ds + 3
  | .dict _ => 0
where wids : List PyData → Nat
  | [] => 0
  | d :: r => wid d + 2 + wids r
theorem textFrom_le : ∀ (ts : List Str) (k : Nat) (acc : Str), (textFrom k acc ts).length ≤ acc.length + (ts.map fun t => t.length + 2).sum
  | [], k, acc => by simp [textFrom]
  | t :: r, k, acc => by
    have ih := textFrom_le r (k + 1) (acc ++ (if k > 0 then ", " else "" : String) ++ t)
    refine Nat.le_trans (show (textFrom k acc (t :: r)).length ≤ _ from ih) ?_
    simp only [Str.length_append, List.map_cons, List.sum_cons]
    have : (Str.ofString (if k > 0 then ", " else "")).length ≤ 2 := by split <;> decide
    omega
theorem join_le (ts : List Str) : (Str.join ", " ts).length ≤ (ts.map fun t => t.length + 2).sum := by
  have key : ∀ (x : Str) (r : List Str), (Str.join ", " (x :: r)).length ≤ x.length + (r.map fun t => t.length + 2).sum := fun x r => by
    induction r generalizing x with
    | nil => simp [Str.join]
    | cons y r ih =>
      show (x ++ ", " ++ Str.join ", " (y :: r)).length ≤ _
      simp only [Str.length_append, List.map_cons, List.sum_cons]
      have := ih y
      have h2 : (Str.ofString ", ").length = 2 := by decide
      omega
  cases ts with
  | nil => exact Nat.le_of_eq rfl
  | cons x r =>
    have := key x r
    simp only [List.map_cons, List.sum_cons]
    omega
mutual
theorem fine_all : ∀ d : PyData, fine d = true → d.showable = true ∧ d.hasDict = false ∧ d.canLay0 = true ∧ d.shown.length ≤ wid d
  | .none, _ => ⟨rfl, rfl, rfl, by show (Str.ofString "None").length ≤ 4; decide⟩
  | .bool b, _ => ⟨rfl, rfl, rfl, by cases b <;> show (Str.ofString _).length ≤ 5 <;> decide⟩
  | .int i, h => by
    have h : i.natAbs < 18446744073709551616 := by simpa [fine] using h
    have hl : i.natAbs.log2 < 64 := by
      by_cases h0 : i.natAbs = 0
      · rw [h0]; decide
      · exact (Nat.log2_lt h0).mpr (by omega)
    refine ⟨by simp [PyData.showable]; omega, rfl, rfl, ?_⟩
    have := PySem.int_text_length_le (a := i) (k := 64) (by decide) hl
    show (Str.ofString (toString i)).length ≤ 70
    rw [PySem.ofString_length]
    omega
  | .str x, h => by
    have h : PyData.strOk x = true := h
    refine ⟨rfl, rfl, h, ?_⟩
    refine PySem.StrLaws.reprText_len x fun c hc => ?_
    have : c < 1114112 := by
      unfold PyData.strOk at h
      rw [← Array.all_toList] at h
      exact of_decide_eq_true (List.all_eq_true.mp h c hc)
    omega
  | .list ds, h => by
    obtain ⟨h1, h2, h3, h4⟩ := fines_all ds h
    refine ⟨h1, h2, h3, ?_⟩
    show (textFrom 0 "[" (PyData.shownAll ds) ++ "]").length ≤ _
    have := textFrom_le (PyData.shownAll ds) 0 "["
    simp only [Str.length_append]
    have e1 : (Str.ofString "[").length = 1 := by decide
    have e2 : (Str.ofString "]").length = 1 := by decide
    show _ ≤ wid.wids ds + 3
    omega
  | .tuple ds, h => by
    obtain ⟨h1, h2, h3, h4⟩ := fines_all ds h
    refine ⟨h1, h2, h3, ?_⟩
    show (("(" : Str) ++ Str.join ", " (PyData.shownAll ds) ++ (if (PyData.shownAll ds).length == 1 then ",)" else ")" : String)).length ≤ _
    have := join_le (PyData.shownAll ds)
    simp only [Str.length_append]
    have e1 : (Str.ofString "(").length = 1 := by decide
    have e2 : (Str.ofString (if (PyData.shownAll ds).length == 1 then ",)" else ")")).length ≤ 2 := by split <;> decide
    show _ ≤ wid.wids ds + 3
    omega
  | .dict _, h => by simp [fine] at h
theorem fines_all : ∀ ds : List PyData, fine.fines ds = true → PyData.showableAll ds = true ∧ PyData.hasDictAll ds = false ∧ PyData.canLayAll0 ds = true ∧ ((PyData.shownAll ds).map fun t => t.length + 2).sum ≤ wid.wids ds
  | [], _ => ⟨rfl, rfl, rfl, Nat.le_refl _⟩
  | d :: r, h => by
    have h : fine d = true ∧ fine.fines r = true := by simpa [fine.fines] using h
    obtain ⟨a1, a2, a3, a4⟩ := fine_all d h.1
    obtain ⟨b1, b2, b3, b4⟩ := fines_all r h.2
    refine ⟨by simp [PyData.showableAll, a1, b1], by simp [PyData.hasDictAll, a2, b2], by simp [PyData.canLayAll0, a3, b3], ?_⟩
    simp only [PyData.shownAll, List.map_cons, List.sum_cons, wid.wids]
    omega
end
theorem showP_ok {d : PyData} (h : fine d = true) (hd : isDisplay d = true) (hp : d.depth < 60) (hw : wid d ≤ 100000) : Gd.showP [d] = some (.str d.shown) := by
  obtain ⟨a1, a2, a3, a4⟩ := fine_all d h
  show (if (d.showable = true ∧ d.hasDict = false ∧ isDisplay d = true) ∧ d.depth < 60 ∧ d.shown.length ≤ 100000 ∧ d.canLay0 = true then some (PyData.str d.shown) else none) = _
  rw [if_pos ⟨⟨a1, a2, hd⟩, hp, Nat.le_trans a4 hw, a3⟩]
theorem fines_map {α : Type} {f : α → PyData} {l : List α} (h : ∀ x ∈ l, fine (f x) = true) : fine.fines (l.map f) = true := by
  induction l with
  | nil => rfl
  | cons x r ih =>
    simp only [List.map_cons, fine.fines, Bool.and_eq_true]
    exact ⟨h x List.mem_cons_self, ih fun y hy => h y (List.mem_cons_of_mem _ hy)⟩
theorem wids_map {α : Type} {f : α → PyData} {l : List α} {b : Nat} (h : ∀ x ∈ l, wid (f x) ≤ b) : wid.wids (l.map f) ≤ l.length * (b + 2) := by
  induction l with
  | nil => simp [wid.wids]
  | cons x r ih =>
    have h1 := h x List.mem_cons_self
    have h2 := ih fun y hy => h y (List.mem_cons_of_mem _ hy)
    simp only [List.map_cons, wid.wids, List.length_cons]
    rw [Nat.add_mul]
    omega
theorem depths_map {α : Type} {f : α → PyData} {l : List α} {b : Nat} (h : ∀ x ∈ l, (f x).depth ≤ b) : PyData.depthAll (l.map f) ≤ b := by
  induction l with
  | nil => simp [PyData.depthAll]
  | cons x r ih =>
    have h1 := h x List.mem_cons_self
    have h2 := ih fun y hy => h y (List.mem_cons_of_mem _ hy)
    simp only [List.map_cons, PyData.depthAll]
    omega
end Sv

namespace K11
open PySem PySem.Spec PyProof.Rows L2 Pre Dv Sv
def topS (i : Nat) : Stmt := PySem.Challenge.pw_tunehall_k11_plans_looked_at.main.body.getD i (.Pass ⟨0, 0, 0, 0⟩)
abbrev s_is_whole : Stmt := topS 15
abbrev n_is_whole : List Str := ["thing", "low", "high"]
theorem sc_is_whole : FnScope n_is_whole ["thing", "low", "high"] (defScope s_is_whole) := ⟨rfl, rfl, rfl, by decide +kernel, rfl, by decide +kernel, by decide +kernel⟩
abbrev s_are_whole : Stmt := topS 16
abbrev n_are_whole : List Str := ["things", "count", "low", "high", "thing"]
theorem sc_are_whole : FnScope n_are_whole ["things", "count", "low", "high"] (defScope s_are_whole) := ⟨rfl, rfl, rfl, by decide +kernel, rfl, by decide +kernel, by decide +kernel⟩
abbrev s_need_plan : Stmt := topS 18
abbrev n_need_plan : List Str := ["web", "plan"]
theorem sc_need_plan : FnScope n_need_plan ["web", "plan"] (defScope s_need_plan) := ⟨rfl, rfl, rfl, by decide +kernel, rfl, by decide +kernel, by decide +kernel⟩
abbrev s_fault_of : Stmt := topS 19
abbrev n_fault_of : List Str := ["web", "plan", "i", "fault"]
theorem sc_fault_of : FnScope n_fault_of ["web", "plan"] (defScope s_fault_of) := ⟨rfl, rfl, rfl, by decide +kernel, rfl, by decide +kernel, by decide +kernel⟩
abbrev s_fault_at : Stmt := topS 20
abbrev n_fault_at : List Str := ["web", "plan", "i", "gaps", "lists", "j"]
theorem sc_fault_at : FnScope n_fault_at ["web", "plan", "i"] (defScope s_fault_at) := ⟨rfl, rfl, rfl, by decide +kernel, rfl, by decide +kernel, by decide +kernel⟩
abbrev s_left_for : Stmt := topS 21
abbrev n_left_for : List Str := ["web", "given", "i", "many", "gaps", "lists", "left", "tune", "gap"]
theorem sc_left_for : FnScope n_left_for ["web", "given", "i", "many"] (defScope s_left_for) := ⟨rfl, rfl, rfl, by decide +kernel, rfl, by decide +kernel, by decide +kernel⟩
abbrev s_tunes_near : Stmt := topS 22
abbrev n_tunes_near : List Str := ["tune", "gap", "around", "least"]
theorem sc_tunes_near : FnScope n_tunes_near ["tune", "gap"] (defScope s_tunes_near) := ⟨rfl, rfl, rfl, by decide +kernel, rfl, by decide +kernel, by decide +kernel⟩
abbrev s__law_cell : Stmt := topS 24
abbrev n__law_cell : List Str := ["_law_script", "_law_k", "_law_cell_here"]
theorem sc__law_cell : FnScope n__law_cell ["_law_script", "_law_k"] (defScope s__law_cell) := ⟨rfl, rfl, rfl, by decide +kernel, rfl, by decide +kernel, by decide +kernel⟩
abbrev s__law_mixed : Stmt := topS 25
abbrev n__law_mixed : List Str := ["_law_number", "_law_k"]
theorem sc__law_mixed : FnScope n__law_mixed ["_law_number", "_law_k"] (defScope s__law_mixed) := ⟨rfl, rfl, rfl, by decide +kernel, rfl, by decide +kernel, by decide +kernel⟩
abbrev s__law_next : Stmt := topS 26
abbrev n__law_next : List Str := ["_law_draw"]
theorem sc__law_next : FnScope n__law_next ["_law_draw"] (defScope s__law_next) := ⟨rfl, rfl, rfl, by decide +kernel, rfl, by decide +kernel, by decide +kernel⟩
abbrev s__law_names : Stmt := topS 27
abbrev n__law_names : List Str := ["_law_number", "_law_letters", "_law_word", "_law_j", "_law_size", "_law_at", "_law_signs", "_law_some", "_law_k", "_law_found", "_law_sign", "_law_other", "_law_words", "_law_name"]
theorem sc__law_names : FnScope n__law_names ["_law_number"] (defScope s__law_names) := ⟨rfl, rfl, rfl, by decide +kernel, rfl, by decide +kernel, by decide +kernel⟩
abbrev s__law_gaps : Stmt := topS 28
abbrev n__law_gaps : List Str := ["_law_draw", "_law_many", "_law_most", "_law_found", "_law_k", "_law_thick", "_law_i", "_law_j", "_law_number", "_law_gap", "_law_row"]
theorem sc__law_gaps : FnScope n__law_gaps ["_law_draw", "_law_many", "_law_most"] (defScope s__law_gaps) := ⟨rfl, rfl, rfl, by decide +kernel, rfl, by decide +kernel, by decide +kernel⟩
abbrev s__law_web : Stmt := topS 29
abbrev n__law_web : List Str := ["_law_draw", "_law_stations", "_law_tunes", "_law_most", "_law_names_here", "_law_many", "_law_size", "_law_lists", "_law_k", "_law_number", "_law_bits", "_law_one"]
theorem sc__law_web : FnScope n__law_web ["_law_draw", "_law_stations", "_law_tunes", "_law_most"] (defScope s__law_web) := ⟨rfl, rfl, rfl, by decide +kernel, rfl, by decide +kernel, by decide +kernel⟩
abbrev s__law_left : Stmt := topS 30
abbrev n__law_left : List Str := ["_law_web_here", "_law_given", "_law_i", "_law_many", "_law_found", "_law_tune", "_law_near", "_law_j", "_law_other"]
theorem sc__law_left : FnScope n__law_left ["_law_web_here", "_law_given", "_law_i", "_law_many"] (defScope s__law_left) := ⟨rfl, rfl, rfl, by decide +kernel, rfl, by decide +kernel, by decide +kernel⟩
abbrev s__law_fault : Stmt := topS 31
abbrev n__law_fault : List Str := ["_law_web_here", "_law_plan_here", "_law_i", "_law_tune", "_law_near", "_law_j"]
theorem sc__law_fault : FnScope n__law_fault ["_law_web_here", "_law_plan_here"] (defScope s__law_fault) := ⟨rfl, rfl, rfl, by decide +kernel, rfl, by decide +kernel, by decide +kernel⟩
abbrev s__law_plan : Stmt := topS 32
abbrev n__law_plan : List Str := ["_law_draw", "_law_web_here", "_law_given", "_law_i", "_law_number", "_law_left_here"]
theorem sc__law_plan : FnScope n__law_plan ["_law_draw", "_law_web_here"] (defScope s__law_plan) := ⟨rfl, rfl, rfl, by decide +kernel, rfl, by decide +kernel, by decide +kernel⟩
abbrev s__law_no_plan : Stmt := topS 33
abbrev n__law_no_plan : List Str := ["_law_web_here", "_law_plan_here", "_law_number", "_law_at", "_law_bad", "_law_some"]
theorem sc__law_no_plan : FnScope n__law_no_plan ["_law_web_here", "_law_plan_here", "_law_number"] (defScope s__law_no_plan) := ⟨rfl, rfl, rfl, by decide +kernel, rfl, by decide +kernel, by decide +kernel⟩
abbrev s__law_refused : Stmt := topS 34
abbrev n__law_refused : List Str := ["_law_web_here", "_law_thing", "_law_which", "_law_error", "e", "_law_others"]
theorem sc__law_refused : FnScope n__law_refused ["_law_web_here", "_law_thing", "_law_which"] (defScope s__law_refused) := ⟨rfl, rfl, rfl, by decide +kernel, rfl, by decide +kernel, by decide +kernel⟩
abbrev s__law_all_left : Stmt := topS 35
abbrev n__law_all_left : List Str := ["_law_web_here", "_law_plan_here", "_law_number", "_law_given", "_law_i", "_law_tune", "_law_many", "_law_due", "_law_own", "_law_found"]
theorem sc__law_all_left : FnScope n__law_all_left ["_law_web_here", "_law_plan_here", "_law_number"] (defScope s__law_all_left) := ⟨rfl, rfl, rfl, by decide +kernel, rfl, by decide +kernel, by decide +kernel⟩
abbrev s_law : Stmt := topS 36
abbrev n_law : List Str := ["_law_script", "_law_draw", "_law_web_here", "_law_kept", "_law_cell_here", "_law_plan_here", "_law_number", "_law_other", "_law_one", "_law_thing"]
theorem sc_law : FnScope n_law ["_law_script"] (defScope s_law) := ⟨rfl, rfl, rfl, by decide +kernel, rfl, by decide +kernel, by decide +kernel⟩
structure Txt (K : PySem.W.Frag) (mg : Str → Option Value) where
  f_is_whole : Addr
  fd_is_whole : FuncData
  F_is_whole : Fun K "is_whole" "is_whole" s_is_whole f_is_whole fd_is_whole
  B_is_whole : Binds K fd_is_whole ["thing", "low", "high"] []
  G_is_whole : mg "is_whole" = some (.ref f_is_whole)
  f_are_whole : Addr
  fd_are_whole : FuncData
  F_are_whole : Fun K "are_whole" "are_whole" s_are_whole f_are_whole fd_are_whole
  B_are_whole : Binds K fd_are_whole ["things", "count", "low", "high"] []
  G_are_whole : mg "are_whole" = some (.ref f_are_whole)
  f_need_plan : Addr
  fd_need_plan : FuncData
  F_need_plan : Fun K "need_plan" "need_plan" s_need_plan f_need_plan fd_need_plan
  B_need_plan : Binds K fd_need_plan ["web", "plan"] []
  G_need_plan : mg "need_plan" = some (.ref f_need_plan)
  f_fault_of : Addr
  fd_fault_of : FuncData
  F_fault_of : Fun K "fault_of" "fault_of" s_fault_of f_fault_of fd_fault_of
  B_fault_of : Binds K fd_fault_of ["web", "plan"] []
  G_fault_of : mg "fault_of" = some (.ref f_fault_of)
  f_fault_at : Addr
  fd_fault_at : FuncData
  F_fault_at : Fun K "fault_at" "fault_at" s_fault_at f_fault_at fd_fault_at
  B_fault_at : Binds K fd_fault_at ["web", "plan", "i"] []
  G_fault_at : mg "fault_at" = some (.ref f_fault_at)
  f_left_for : Addr
  fd_left_for : FuncData
  F_left_for : Fun K "left_for" "left_for" s_left_for f_left_for fd_left_for
  B_left_for : Binds K fd_left_for ["web", "given", "i", "many"] []
  G_left_for : mg "left_for" = some (.ref f_left_for)
  f_tunes_near : Addr
  fd_tunes_near : FuncData
  F_tunes_near : Fun K "tunes_near" "tunes_near" s_tunes_near f_tunes_near fd_tunes_near
  B_tunes_near : Binds K fd_tunes_near ["tune", "gap"] []
  G_tunes_near : mg "tunes_near" = some (.ref f_tunes_near)
  f__law_cell : Addr
  fd__law_cell : FuncData
  F__law_cell : Fun K "_law_cell" "_law_cell" s__law_cell f__law_cell fd__law_cell
  B__law_cell : Binds K fd__law_cell ["_law_script", "_law_k"] []
  G__law_cell : mg "_law_cell" = some (.ref f__law_cell)
  f__law_mixed : Addr
  fd__law_mixed : FuncData
  F__law_mixed : Fun K "_law_mixed" "_law_mixed" s__law_mixed f__law_mixed fd__law_mixed
  B__law_mixed : Binds K fd__law_mixed ["_law_number", "_law_k"] []
  G__law_mixed : mg "_law_mixed" = some (.ref f__law_mixed)
  f__law_next : Addr
  fd__law_next : FuncData
  F__law_next : Fun K "_law_next" "_law_next" s__law_next f__law_next fd__law_next
  B__law_next : Binds K fd__law_next ["_law_draw"] []
  G__law_next : mg "_law_next" = some (.ref f__law_next)
  f__law_names : Addr
  fd__law_names : FuncData
  F__law_names : Fun K "_law_names" "_law_names" s__law_names f__law_names fd__law_names
  B__law_names : Binds K fd__law_names ["_law_number"] []
  G__law_names : mg "_law_names" = some (.ref f__law_names)
  f__law_gaps : Addr
  fd__law_gaps : FuncData
  F__law_gaps : Fun K "_law_gaps" "_law_gaps" s__law_gaps f__law_gaps fd__law_gaps
  B__law_gaps : Binds K fd__law_gaps ["_law_draw", "_law_many", "_law_most"] []
  G__law_gaps : mg "_law_gaps" = some (.ref f__law_gaps)
  f__law_web : Addr
  fd__law_web : FuncData
  F__law_web : Fun K "_law_web" "_law_web" s__law_web f__law_web fd__law_web
  B__law_web : Binds K fd__law_web ["_law_draw", "_law_stations", "_law_tunes", "_law_most"] []
  G__law_web : mg "_law_web" = some (.ref f__law_web)
  f__law_left : Addr
  fd__law_left : FuncData
  F__law_left : Fun K "_law_left" "_law_left" s__law_left f__law_left fd__law_left
  B__law_left : Binds K fd__law_left ["_law_web_here", "_law_given", "_law_i", "_law_many"] []
  G__law_left : mg "_law_left" = some (.ref f__law_left)
  f__law_fault : Addr
  fd__law_fault : FuncData
  F__law_fault : Fun K "_law_fault" "_law_fault" s__law_fault f__law_fault fd__law_fault
  B__law_fault : Binds K fd__law_fault ["_law_web_here", "_law_plan_here"] []
  G__law_fault : mg "_law_fault" = some (.ref f__law_fault)
  f__law_plan : Addr
  fd__law_plan : FuncData
  F__law_plan : Fun K "_law_plan" "_law_plan" s__law_plan f__law_plan fd__law_plan
  B__law_plan : Binds K fd__law_plan ["_law_draw", "_law_web_here"] []
  G__law_plan : mg "_law_plan" = some (.ref f__law_plan)
  f__law_no_plan : Addr
  fd__law_no_plan : FuncData
  F__law_no_plan : Fun K "_law_no_plan" "_law_no_plan" s__law_no_plan f__law_no_plan fd__law_no_plan
  B__law_no_plan : Binds K fd__law_no_plan ["_law_web_here", "_law_plan_here", "_law_number"] []
  G__law_no_plan : mg "_law_no_plan" = some (.ref f__law_no_plan)
  f__law_refused : Addr
  fd__law_refused : FuncData
  F__law_refused : Fun K "_law_refused" "_law_refused" s__law_refused f__law_refused fd__law_refused
  B__law_refused : Binds K fd__law_refused ["_law_web_here", "_law_thing", "_law_which"] []
  G__law_refused : mg "_law_refused" = some (.ref f__law_refused)
  f__law_all_left : Addr
  fd__law_all_left : FuncData
  F__law_all_left : Fun K "_law_all_left" "_law_all_left" s__law_all_left f__law_all_left fd__law_all_left
  B__law_all_left : Binds K fd__law_all_left ["_law_web_here", "_law_plan_here", "_law_number"] []
  G__law_all_left : mg "_law_all_left" = some (.ref f__law_all_left)
  f_law : Addr
  fd_law : FuncData
  F_law : Fun K "law" "law" s_law f_law fd_law
  B_law : Binds K fd_law ["_law_script"] []
  G_law : mg "law" = some (.ref f_law)
  b_ValueError : mg "ValueError" = none
  b_abs : mg "abs" = none
  b_all : mg "all" = none
  b_bool : mg "bool" = none
  b_enumerate : mg "enumerate" = none
  b_int : mg "int" = none
  b_isinstance : mg "isinstance" = none
  b_len : mg "len" = none
  b_list : mg "list" = none
  b_max : mg "max" = none
  b_range : mg "range" = none
  b_repr : mg "repr" = none
  b_str : mg "str" = none
  b_sum : mg "sum" = none
  b_tuple : mg "tuple" = none
  b_zip : mg "zip" = none
  c_BadPlan : Addr
  gc_BadPlan : mg "BadPlan" = some (.ref c_BadPlan)
  nc_BadPlan : PySem.W.nsIn K mainGlobals "BadPlan" = some (some (.ref c_BadPlan))
  x_BadPlan : PySem.W.excIn K c_BadPlan [.type "ValueError", .type "Exception", .type "BaseException", .type "object"] "ValueError.__new__" = true
  kc_BadPlan : PySem.W.keepIn K (.ref c_BadPlan) = true
  bc_BadPlan : PySem.W.subIn K (.ref c_BadPlan) (.type "BaseException") = some true
  tc_BadPlan : PySem.W.typeIn K (.ref c_BadPlan) = some (.type "type")
  ec_BadPlan : ExcC K c_BadPlan
  c_TuneError : Addr
  gc_TuneError : mg "TuneError" = some (.ref c_TuneError)
  c_BadShown : Addr
  gc_BadShown : mg "BadShown" = some (.ref c_BadShown)
  c_BadNumber : Addr
  gc_BadNumber : mg "BadNumber" = some (.ref c_BadNumber)
  c_BadLine : Addr
  gc_BadLine : mg "BadLine" = some (.ref c_BadLine)
  c_Lacking : Addr
  gc_Lacking : mg "Lacking" = some (.ref c_Lacking)
  c_BadWeb : Addr
  gc_BadWeb : mg "BadWeb" = some (.ref c_BadWeb)
  c_BadText : Addr
  gc_BadText : mg "BadText" = some (.ref c_BadText)
  c_Twice : Addr
  gc_Twice : mg "Twice" = some (.ref c_Twice)
  c_TooMany : Addr
  gc_TooMany : mg "TooMany" = some (.ref c_TooMany)
  c_NoPlan : Addr
  gc_NoPlan : mg "NoPlan" = some (.ref c_NoPlan)
  kt_BadPlan_BadShown : PySem.W.kitOne K (.ref c_BadPlan) (.ref c_BadShown) = some false
  kt_BadPlan_BadNumber : PySem.W.kitOne K (.ref c_BadPlan) (.ref c_BadNumber) = some false
  kt_BadPlan_BadLine : PySem.W.kitOne K (.ref c_BadPlan) (.ref c_BadLine) = some false
  kt_BadPlan_Lacking : PySem.W.kitOne K (.ref c_BadPlan) (.ref c_Lacking) = some false
  kt_BadPlan_BadWeb : PySem.W.kitOne K (.ref c_BadPlan) (.ref c_BadWeb) = some false
  kt_BadPlan_BadText : PySem.W.kitOne K (.ref c_BadPlan) (.ref c_BadText) = some false
  kt_BadPlan_Twice : PySem.W.kitOne K (.ref c_BadPlan) (.ref c_Twice) = some false
  kt_BadPlan_TooMany : PySem.W.kitOne K (.ref c_BadPlan) (.ref c_TooMany) = some false
  kt_BadPlan_NoPlan : PySem.W.kitOne K (.ref c_BadPlan) (.ref c_NoPlan) = some false
  kt_BadPlan_BadPlan : PySem.W.kitOne K (.ref c_BadPlan) (.ref c_BadPlan) = some true
  kt_BadPlan_ValueError : PySem.W.kitOne K (.ref c_BadPlan) (.type "ValueError") = some true
  em_BadPlan_TuneError : PySem.W.exmOne K (.ref c_BadPlan) (.ref c_TuneError) = some true
end K11

namespace K11
open PySem PySem.Spec PyProof.Rows L2 Pre Dv Sv
variable {P : Program} {w : World} {K : PySem.W.Frag} {mg : Str → Option Value} {base : Heap}
abbrev srtG : List PyData → Option (List PyData) := f1 fun a => (gR a).bind fun ds => (gIs ds).map fun ns => (srt ns).map .int
def f_is_whole : Fs :=
  (retF (andV (isF "int" (vr 0)) (andV (notV (isF "bool" (vr 0))) (chnF (fun i j => decide (i ≤ j)) (fun i j => decide (i ≤ j)) (vr 1) (vr 0) (vr 2)))))
def g_is_whole : List PyData → Option (PyData × List PyData) := gDef [] none n_is_whole 3 f_is_whole
theorem ok_is_whole (T : Txt K mg) : Gd.FnG P w K mg base CX0 1 T.f_is_whole T.fd_is_whole ["thing", "low", "high"] (SpX K (gof []) [] none g_is_whole) :=
  Gd.fx_okG (k := 0) T.F_is_whole sc_is_whole (fun cdv A outer s0 H E gd hr => ⟨_, (pss_one (ps_ret (pe_and (pe_callB call_isi (by rfl) T.b_isinstance (by decide +kernel) (pa_cons (pv 0) (pa_cons (pe_bltn (v := .ty "int") (by rfl) T.b_int (by decide +kernel) rfl) pa_nil))) (pe_and (pe_not (pe_callB call_isi (by rfl) T.b_isinstance (by decide +kernel) (pa_cons (pv 0) (pa_cons (pe_bltn (v := .ty "bool") (by rfl) T.b_bool (by decide +kernel) rfl) pa_nil)))) (pe_one (pe_chain op_le op_le (pv 1) (pv 0) (pv 2))))))),
  (fs_ret (fv_and (fv_isi fv_var) (fv_and (fv_not (fv_isi fv_var)) (fv_chain fv_var fv_var fv_var))))⟩)
def b_fault_at_1 : Fs :=
  (iffF (tbF (op2 ltP (bn absP (aC (op2 subP (op2 ixTP (vr 1) (vr 2)) (op2 ixTP (vr 1) (vr 5))) aN)) (op2 ixTP (op2 ixTP (vr 3) (vr 2)) (vr 5))))
  (retF (tupF (aC (cc (.str "near")) (aC (vr 5) (aC (vr 2) aN)))))
  nxF)
def l_fault_at_1 : Fs :=
  (forF (rg1 (vr 2)) (nmG 5)
  b_fault_at_1)
def f_fault_at : Fs :=
  (seqF (asgF (slTF (vr 0) (oS (cc (.int 2))) oN) (tpG (coG (nmG 3) (coG (nmG 4) niG))))
  (seqF (iffF (notF (truF (op2 bandP (op2 shrP (op2 ixTP (vr 4) (vr 2)) (op2 ixTP (vr 1) (vr 2))) (cc (.int 1)))))
  (retF (tupF (aC (cc (.str "list")) (aC (vr 2) aN))))
  nxF)
  (seqF l_fault_at_1
  (retF (cc .none)))))
def g_fault_at : List PyData → Option (PyData × List PyData) := gDef [] none n_fault_at 3 f_fault_at
theorem ok_fault_at (T : Txt K mg) : Gd.FnG P w K mg base CX0 1 T.f_fault_at T.fd_fault_at ["web", "plan", "i"] (SpX K (gof []) [] none g_fault_at) :=
  Gd.fx_okG (k := 0) T.F_fault_at sc_fault_at (fun cdv A outer s0 H E gd hr => ⟨_, (pss_cons (ps_asg (pe_slice sl_tupA (pv 0) (po_some pe_int) po_none) (pg_tup rfl (pgs_cons (pg_name (i := 3) sc_fault_at.nd rfl (Or.inl rfl)) (pgs_cons (pg_name (i := 4) sc_fault_at.nd rfl (Or.inl rfl)) pgs_nil))))
      (pss_cons (ps_if (pt_not (pt_truth (pe_op op_and (pe_op op_shr (pe_ix ix_tup (pv 4) (pv 2) (fun _ _ => rfl)) (pe_ix ix_tup (pv 1) (pv 2) (fun _ _ => rfl))) pe_int) (fun _ => rfl)))
        (pss_one (ps_ret (pe_tup (pa_cons pe_str (pa_cons (pv 2) pa_nil)))))
        pss_nil)
      (pss_cons (ps_for PassesOwn.never rfl (pi_range1 (by rfl) T.b_range (pa_cons (pv 2) pa_nil)) (pg_name (i := 5) sc_fault_at.nd rfl (Or.inl rfl))
        (pss_one (ps_if (pt_cmpR op_lt (pe_callB call_abs (by rfl) T.b_abs (by decide +kernel) (pa_cons (pe_op op_sub (pe_ix ix_tup (pv 1) (pv 2) (fun _ _ => rfl)) (pe_ix ix_tup (pv 1) (pv 5) (fun _ _ => rfl))) pa_nil)) (pe_ix ix_tup (pe_ix ix_tup (pv 3) (pv 2) (fun _ _ => rfl)) (pv 5) (fun _ _ => rfl)) (nomark _))
          (pss_one (ps_ret (pe_tup (pa_cons pe_str (pa_cons (pv 5) (pa_cons (pv 2) pa_nil))))))
          pss_nil)))
      (pss_one (ps_ret pe_non))))),
  (fs_seq (fs_asg (fv_slT fv_var (fo_some (S := []) fv_int) fo_none) (tg_tup (tg_cons tg_name (tg_cons tg_name tg_nil))))
  (fs_seq (fs_if (ft_not (ft_tru (S := []) (fv_op ok_band (fv_op ok_shr (fv_op ok_ixT fv_var fv_var) (fv_op ok_ixT fv_var fv_var)) fv_int)))
  (fs_ret (fv_tup (fa_cons fv_str (fa_cons fv_var fa_nil))))
  fs_next)
  (fs_seq (fs_for (it_rg1 fv_var) tg_name
  (fs_if (ft_test (S := []) (fv_op ok_lt (fv_bn ok_abs (fa_cons (fv_op ok_sub (fv_op ok_ixT fv_var fv_var) (fv_op ok_ixT fv_var fv_var)) fa_nil)) (fv_op ok_ixT (fv_op ok_ixT fv_var fv_var) fv_var)))
  (fs_ret (fv_tup (fa_cons fv_str (fa_cons fv_var (fa_cons fv_var fa_nil)))))
  fs_next))
  (fs_ret fv_non))))⟩)
def f_tunes_near : Fs :=
  (seqF (iffF (tbF (op2 ltP (vr 1) (cc (.int 1))))
  (retF (cc (.int 0)))
  nxF)
  (seqF (setF 2 (op2 subP (op2 shlP (cc (.int 1)) (op2 subP (op2 mulP (cc (.int 2)) (vr 1)) (cc (.int 1)))) (cc (.int 1))))
  (seqF (setF 3 (op2 subP (vr 0) (op2 subP (vr 1) (cc (.int 1)))))
  (retF (ifV (tbF (op2 geP (vr 3) (cc (.int 0)))) (op2 shlP (vr 2) (vr 3)) (op2 shrP (vr 2) (negF (vr 3))))))))
def g_tunes_near : List PyData → Option (PyData × List PyData) := gDef [] none n_tunes_near 2 f_tunes_near
theorem ok_tunes_near (T : Txt K mg) : Gd.FnG P w K mg base CX0 1 T.f_tunes_near T.fd_tunes_near ["tune", "gap"] (SpX K (gof []) [] none g_tunes_near) :=
  Gd.fx_okG (k := 0) T.F_tunes_near sc_tunes_near (fun cdv A outer s0 H E gd hr => ⟨_, (pss_cons (ps_if (pt_cmpR op_lt (pv 1) pe_int (nomark _))
        (pss_one (ps_ret pe_int))
        pss_nil)
      (pss_cons (ps_set (i := 2) sc_tunes_near.nd rfl (.inl rfl) (pe_op op_sub (pe_op op_shl pe_int (pe_op op_sub (pe_op op_mul pe_int (pv 1)) pe_int)) pe_int))
      (pss_cons (ps_set (i := 3) sc_tunes_near.nd rfl (.inl rfl) (pe_op op_sub (pv 0) (pe_op op_sub (pv 1) pe_int)))
      (pss_one (ps_ret (pe_ifExp (pt_cmpR op_ge (pv 3) pe_int (nomark _)) (pe_op op_shl (pv 2) (pv 3)) (pe_op op_shr (pv 2) (pe_un un_neg (pv 3))))))))),
  (fs_seq (fs_if (ft_test (S := []) (fv_op ok_lt fv_var fv_int))
  (fs_ret fv_int)
  fs_next)
  (fs_seq (fs_set (fv_op ok_sub (fv_op ok_shl fv_int (fv_op ok_sub (fv_op ok_mul fv_int fv_var) fv_int)) fv_int))
  (fs_seq (fs_set (fv_op ok_sub fv_var (fv_op ok_sub fv_var fv_int)))
  (fs_ret (fv_if (ft_test (S := []) (fv_op ok_ge fv_var fv_int)) (fv_op ok_shl fv_var fv_var) (fv_op ok_shr fv_var (fv_neg fv_var)))))))⟩)
def f__law_cell : Fs :=
  (seqF (setF 2 (cc (.int 17)))
  (seqF (iffF (tbF (op2 gtP (bn lenP (aC (vr 0) aN)) (cc (.int 0))))
  (setF 2 (op2 modP (op2 ixLP (vr 0) (op2 modP (vr 1) (bn lenP (aC (vr 0) aN)))) (cc (.int 2147483647))))
  nxF)
  (retF (op2 Xq.divP (op2 modP (op2 mulP (op2 modP (op2 mulP (op2 addP (op2 addP (vr 2) (op2 mulP (op2 mulP (cc (.int 7919)) (vr 1)) (vr 1))) (op2 mulP (cc (.int 31)) (vr 1))) (cc (.int 48271))) (cc (.int 2147483647))) (cc (.int 69621))) (cc (.int 2147483629))) (cc (.int 64))))))
def g__law_cell : List PyData → Option (PyData × List PyData) := gDef [] none n__law_cell 2 f__law_cell
theorem ok__law_cell (T : Txt K mg) : Gd.FnG P w K mg base CX0 1 T.f__law_cell T.fd__law_cell ["_law_script", "_law_k"] (SpX K (gof []) [] none g__law_cell) :=
  Gd.fx_okG (k := 0) T.F__law_cell sc__law_cell (fun cdv A outer s0 H E gd hr => ⟨_, (pss_cons (ps_set (i := 2) sc__law_cell.nd rfl (.inl rfl) pe_int)
      (pss_cons (ps_if (pt_cmpR op_gt (pe_callB call_len_seq (by rfl) T.b_len PySem.boot_len (pa_cons (pv 0) pa_nil)) pe_int (nomark _))
        (pss_one (ps_set (i := 2) sc__law_cell.nd rfl (.inl rfl) (pe_op op_mod (pe_ix ix_list (pv 0) (pe_op op_mod (pv 1) (pe_callB call_len_seq (by rfl) T.b_len PySem.boot_len (pa_cons (pv 0) pa_nil))) (fun _ _ => rfl)) pe_int)))
        pss_nil)
      (pss_one (ps_ret (pe_op op_fdivW (pe_op op_mod (pe_op op_mul (pe_op op_mod (pe_op op_mul (pe_op op_add (pe_op op_add (pv 2) (pe_op op_mul (pe_op op_mul pe_int (pv 1)) (pv 1))) (pe_op op_mul pe_int (pv 1))) pe_int) pe_int) pe_int) pe_int) pe_int))))),
  (fs_seq (fs_set fv_int)
  (fs_seq (fs_if (ft_test (S := []) (fv_op ok_gt (fv_bn ok_len (fa_cons fv_var fa_nil)) fv_int))
  (fs_set (fv_op ok_mod (fv_op ok_ixL fv_var (fv_op ok_mod fv_var (fv_bn ok_len (fa_cons fv_var fa_nil)))) fv_int))
  fs_next)
  (fs_ret (fv_op Xq.ok_divW (fv_op ok_mod (fv_op ok_mul (fv_op ok_mod (fv_op ok_mul (fv_op ok_add (fv_op ok_add fv_var (fv_op ok_mul (fv_op ok_mul fv_int fv_var) fv_var)) (fv_op ok_mul fv_int fv_var)) fv_int) fv_int) fv_int) fv_int) fv_int))))⟩)
def f__law_mixed : Fs :=
  (retF (op2 Xq.divP (op2 modP (op2 mulP (op2 modP (op2 mulP (op2 addP (op2 addP (op2 addP (vr 0) (op2 mulP (op2 mulP (cc (.int 7919)) (vr 1)) (vr 1))) (op2 mulP (cc (.int 31)) (vr 1))) (cc (.int 1))) (cc (.int 48271))) (cc (.int 2147483647))) (cc (.int 69621))) (cc (.int 2147483629))) (cc (.int 64))))
def g__law_mixed : List PyData → Option (PyData × List PyData) := gDef [] none n__law_mixed 2 f__law_mixed
theorem ok__law_mixed (T : Txt K mg) : Gd.FnG P w K mg base CX0 1 T.f__law_mixed T.fd__law_mixed ["_law_number", "_law_k"] (SpX K (gof []) [] none g__law_mixed) :=
  Gd.fx_okG (k := 0) T.F__law_mixed sc__law_mixed (fun cdv A outer s0 H E gd hr => ⟨_, (pss_one (ps_ret (pe_op op_fdivW (pe_op op_mod (pe_op op_mul (pe_op op_mod (pe_op op_mul (pe_op op_add (pe_op op_add (pe_op op_add (pv 0) (pe_op op_mul (pe_op op_mul pe_int (pv 1)) (pv 1))) (pe_op op_mul pe_int (pv 1))) pe_int) pe_int) pe_int) pe_int) pe_int) pe_int))),
  (fs_ret (fv_op Xq.ok_divW (fv_op ok_mod (fv_op ok_mul (fv_op ok_mod (fv_op ok_mul (fv_op ok_add (fv_op ok_add (fv_op ok_add fv_var (fv_op ok_mul (fv_op ok_mul fv_int fv_var) fv_var)) (fv_op ok_mul fv_int fv_var)) fv_int) fv_int) fv_int) fv_int) fv_int) fv_int))⟩)
def c__law_left_1 : Fx :=
  (lcF [7, 8] (Xq.enQF (vr 1)) (tpG (coG (nmG 7) (coG (nmG 8) niG))) (andF (tbF (op2 (isP true) (vr 8) (cc .none))) (tbF (op2 ltP (bn absP (aC (op2 subP (vr 8) (vr 5)) aN)) (op2 ixTP (op2 ixTP (op2 ixTP (vr 0) (cc (.int 2))) (vr 2)) (vr 7))))) (vr 7))
def b__law_left_1 : Fs :=
  (seqF (setF 6 c__law_left_1)
  (iffF (andF (tbF (op2 (eqP false) (op2 modP (op2 Xq.divP (op2 ixTP (op2 ixTP (vr 0) (cc (.int 3))) (vr 2)) (op2 shlP (cc (.int 1)) (vr 5))) (cc (.int 2))) (cc (.int 1)))) (tbF (op2 (eqDP false) (vr 6) (lsF [] aN))))
  (appF 4 (vr 5))
  nxF))
def l__law_left_1 : Fs :=
  (forF (rg1 (vr 3)) (nmG 5)
  b__law_left_1)
def f__law_left : Fs :=
  (seqF (ownF 4 (lsF [] aN))
  (seqF l__law_left_1
  (outF 4)))
def g__law_left : List PyData → Option (PyData × List PyData) := gDef [] (some 1) n__law_left 4 f__law_left
theorem ok__law_left (T : Txt K mg) : Gd.FnG P w K mg base CX0 1 T.f__law_left T.fd__law_left ["_law_web_here", "_law_given", "_law_i", "_law_many"] (SpX K (gof []) [] (some 1) g__law_left) :=
  Gd.fx_okG (k := 0) T.F__law_left sc__law_left (fun cdv A outer s0 H E gd hr => ⟨_, (pss_cons (ps_set (i := 4) sc__law_left.nd rfl (.inl rfl) (pe_lst pa_nil))
      (pss_cons (ps_for PassesOwn.never rfl (pi_range1 (by rfl) T.b_range (pa_cons (pv 3) pa_nil)) (pg_name (i := 5) sc__law_left.nd rfl (Or.inr rfl))
        (pss_cons (ps_setLc (i := 6) (own := [("_law_j", 7), ("_law_other", 8)]) rfl sc__law_left.nd rfl rfl (sw_true rfl rfl rfl (by decide +kernel)) (Xq.pi_enumQ (by rfl) T.b_enumerate (pa_cons (pv 1) pa_nil)) (blkOk_by (N := n__law_left) (sc := defScope s__law_left) (by decide +kernel)) (fun _ _ _ _ _ => (pg_tup rfl (pgs_cons (pg_name (i := 7) sc__law_left.nd rfl (Or.inl rfl)) (pgs_cons (pg_name (i := 8) sc__law_left.nd rfl (Or.inl rfl)) pgs_nil)))) (fun _ _ _ _ _ => pts_one (PW.pt (pw_and (pt_cmpR op_notN (pv 8) pe_non (nomark _)) (pw_and1 (pt_cmpR op_lt (pe_callB call_abs (by rfl) T.b_abs (by decide +kernel) (pa_cons (pe_op op_sub (pv 8) (pv 5)) pa_nil)) (pe_ix ix_tup (pe_ix ix_tup (pe_ix ix_tup (pv 0) pe_int (fun _ _ => rfl)) (pv 2) (fun _ _ => rfl)) (pv 7) (fun _ _ => rfl)) (nomark _)))))) (fun _ _ _ _ _ => (pv 7)))
        (pss_one (ps_if (PW.pt (pw_and (pt_cmpR op_eq (pe_op op_mod (pe_op op_fdivW (pe_ix ix_tup (pe_ix ix_tup (pv 0) pe_int (fun _ _ => rfl)) (pv 2) (fun _ _ => rfl)) (pe_op op_shl pe_int (pv 5))) pe_int) pe_int (nomark _)) (pw_and1 (pt_cmpR (op_eqD hr.units) (pv 6) (pe_lst pa_nil) (nomark _)))))
          (pss_one (ps_expr (pe_bm PySem.F.plainAttrs_list PySem.F.slot_list_append PySem.F.type_list_append mt_append (pv 4) (pa_cons (pv 5) pa_nil))))
          pss_nil))))
      (pss_one (ps_ret (pv 4))))),
  (fs_seq (fs_own (ef_lst (S := []) fa_nil))
  (fs_seq (fs_for (it_rg1 fv_var) tg_name
  (fs_seq (fs_set (fEF.ev (ef_lc (n := 0) (Xq.it_enumQ fv_var) (tg_tup (tg_cons tg_name (tg_cons tg_name tg_nil))) (ft_and (ft_test (S := []) (fv_op ok_notN fv_var fv_non)) (ft_test (S := []) (fv_op ok_lt (fv_bn ok_abs (fa_cons (fv_op ok_sub fv_var fv_var) fa_nil)) (fv_op ok_ixT (fv_op ok_ixT (fv_op ok_ixT fv_var fv_int) fv_var) fv_var)))) (ef_zero fv_var))))
  (fs_if (ft_and (ft_test (S := []) (fv_op ok_eq (fv_op ok_mod (fv_op Xq.ok_divW (fv_op ok_ixT (fv_op ok_ixT fv_var fv_int) fv_var) (fv_op ok_shl fv_int fv_var)) fv_int) fv_int)) (ft_test (S := []) (fv_op ok_eqD fv_var (fEF.ev (ef_lst (S := []) fa_nil)))))
  (fs_app fv_var)
  fs_next)))
  fs_retO))⟩)
def c__law_fault_1 : Fx :=
  (lcF [5] (rg1 (vr 2)) (nmG 5) (tbF (op2 ltP (bn absP (aC (op2 subP (op2 ixTP (vr 1) (vr 5)) (vr 3)) aN)) (op2 ixTP (op2 ixTP (op2 ixTP (vr 0) (cc (.int 2))) (vr 2)) (vr 5)))) (vr 5))
def b__law_fault_1 : Fs :=
  (seqF (iffF (tbF (op2 (eqP false) (op2 modP (op2 Xq.divP (op2 ixTP (op2 ixTP (vr 0) (cc (.int 3))) (vr 2)) (op2 shlP (cc (.int 1)) (vr 3))) (cc (.int 2))) (cc (.int 0))))
  (retF (tupF (aC (cc (.str "list")) (aC (vr 2) aN))))
  nxF)
  (seqF (setF 4 c__law_fault_1)
  (iffF (tbF (op2 (eqDP true) (vr 4) (lsF [] aN)))
  (retF (tupF (aC (cc (.str "near")) (aC (op2 ixLP (vr 4) (cc (.int 0))) (aC (vr 2) aN)))))
  nxF)))
def l__law_fault_1 : Fs :=
  (forF (Xq.enQF (vr 1)) (tpG (coG (nmG 2) (coG (nmG 3) niG)))
  b__law_fault_1)
def f__law_fault : Fs :=
  (seqF l__law_fault_1
  (retF (cc .none)))
def g__law_fault : List PyData → Option (PyData × List PyData) := gDef [] none n__law_fault 2 f__law_fault
theorem ok__law_fault (T : Txt K mg) : Gd.FnG P w K mg base CX0 1 T.f__law_fault T.fd__law_fault ["_law_web_here", "_law_plan_here"] (SpX K (gof []) [] none g__law_fault) :=
  Gd.fx_okG (k := 0) T.F__law_fault sc__law_fault (fun cdv A outer s0 H E gd hr => ⟨_, (pss_cons (ps_for PassesOwn.never rfl (Xq.pi_enumQ (by rfl) T.b_enumerate (pa_cons (pv 1) pa_nil)) (pg_tup rfl (pgs_cons (pg_name (i := 2) sc__law_fault.nd rfl (Or.inr rfl)) (pgs_cons (pg_name (i := 3) sc__law_fault.nd rfl (Or.inr rfl)) pgs_nil)))
        (pss_cons (ps_if (pt_cmpR op_eq (pe_op op_mod (pe_op op_fdivW (pe_ix ix_tup (pe_ix ix_tup (pv 0) pe_int (fun _ _ => rfl)) (pv 2) (fun _ _ => rfl)) (pe_op op_shl pe_int (pv 3))) pe_int) pe_int (nomark _))
          (pss_one (ps_ret (pe_tup (pa_cons pe_str (pa_cons (pv 2) pa_nil)))))
          pss_nil)
        (pss_cons (ps_setLc (i := 4) (own := [("_law_j", 5)]) (g := gName 5) rfl sc__law_fault.nd rfl rfl (sw_true rfl rfl rfl (by decide +kernel)) (pi_range1 (by rfl) T.b_range (pa_cons (pv 2) pa_nil)) (blkOk_by (N := n__law_fault) (sc := defScope s__law_fault) (by decide +kernel)) (fun _ _ _ _ _ => pg_name (i := 5) sc__law_fault.nd rfl (Or.inl rfl)) (fun _ _ _ _ _ => pts_one (pt_cmpR op_lt (pe_callB call_abs (by rfl) T.b_abs (by decide +kernel) (pa_cons (pe_op op_sub (pe_ix ix_tup (pv 1) (pv 5) (fun _ _ => rfl)) (pv 3)) pa_nil)) (pe_ix ix_tup (pe_ix ix_tup (pe_ix ix_tup (pv 0) pe_int (fun _ _ => rfl)) (pv 2) (fun _ _ => rfl)) (pv 5) (fun _ _ => rfl)) (nomark _))) (fun _ _ _ _ _ => (pv 5)))
        (pss_one (ps_if (pt_cmpR (op_neD hr.units) (pv 4) (pe_lst pa_nil) (nomark _))
          (pss_one (ps_ret (pe_tup (pa_cons pe_str (pa_cons (pe_ix ix_list (pv 4) pe_int (fun _ _ => rfl)) (pa_cons (pv 2) pa_nil))))))
          pss_nil)))))
      (pss_one (ps_ret pe_non))),
  (fs_seq (fs_for (Xq.it_enumQ fv_var) (tg_tup (tg_cons tg_name (tg_cons tg_name tg_nil)))
  (fs_seq (fs_if (ft_test (S := []) (fv_op ok_eq (fv_op ok_mod (fv_op Xq.ok_divW (fv_op ok_ixT (fv_op ok_ixT fv_var fv_int) fv_var) (fv_op ok_shl fv_int fv_var)) fv_int) fv_int))
  (fs_ret (fv_tup (fa_cons fv_str (fa_cons fv_var fa_nil))))
  fs_next)
  (fs_seq (fs_set (fEF.ev (ef_lc (n := 0) (it_rg1 fv_var) tg_name (ft_test (S := []) (fv_op ok_lt (fv_bn ok_abs (fa_cons (fv_op ok_sub (fv_op ok_ixT fv_var fv_var) fv_var) fa_nil)) (fv_op ok_ixT (fv_op ok_ixT (fv_op ok_ixT fv_var fv_int) fv_var) fv_var))) (ef_zero fv_var))))
  (fs_if (ft_test (S := []) (fv_op ok_neD fv_var (fEF.ev (ef_lst (S := []) fa_nil))))
  (fs_ret (fv_tup (fa_cons fv_str (fa_cons (fv_op ok_ixL fv_var fv_int) (fa_cons fv_var fa_nil)))))
  fs_next))))
  (fs_ret fv_non))⟩)
def f__law_no_plan : Fs :=
  (seqF (setF 3 (op2 modP (op2 Xq.divP (vr 2) (cc (.int 8))) (bn lenP (aC (vr 1) aN))))
  (seqF (setF 4 (op2 ixLP (lsF [] (aC (op2 ixTP (vr 0) (cc (.int 1))) (aC (negF (cc (.int 1))) (aC (op2 addP (op2 ixTP (vr 0) (cc (.int 1))) (vr 2)) (aC (cc (.bool true)) (aC (cc .none) (aC (cc (.str "0")) (aC (lsF [] (aC (cc (.int 0)) aN)) (aC (op2 subP (negF (cc (.int 1))) (vr 2)) aN))))))))) (op2 modP (vr 2) (cc (.int 8)))))
  (seqF (setF 5 (lsF [] (aC (bnf [] (f1 gQ) (aC (vr 1) aN)) (aC (op2 catTP (vr 1) (tupF (aC (cc (.int 0)) aN))) (aC (slTF (vr 1) (oS (cc (.int 1))) oN) (aC (cc .none) (aC (cc (.int 5)) (aC (cc (.str "plan")) (aC (cc emD) aN)))))))))
  (seqF (iffF (tbF (op2 (eqP false) (op2 modP (op2 Xq.divP (vr 2) (cc (.int 200))) (cc (.int 2))) (cc (.int 1))))
  (retF (op2 ixLP (vr 5) (op2 modP (op2 Xq.divP (vr 2) (cc (.int 400))) (cc (.int 7)))))
  nxF)
  (retF (op2 catTP (op2 catTP (slTF (vr 1) oN (oS (vr 3))) (tupF (aC (vr 4) aN))) (slTF (vr 1) (oS (op2 addP (vr 3) (cc (.int 1)))) oN)))))))
def g__law_no_plan : List PyData → Option (PyData × List PyData) := gDef [] none n__law_no_plan 3 f__law_no_plan
theorem ok__law_no_plan (T : Txt K mg) : Gd.FnG P w K mg base CX0 1 T.f__law_no_plan T.fd__law_no_plan ["_law_web_here", "_law_plan_here", "_law_number"] (SpX K (gof []) [] none g__law_no_plan) :=
  Gd.fx_okG (k := 0) T.F__law_no_plan sc__law_no_plan (fun cdv A outer s0 H E gd hr => ⟨_, (pss_cons (ps_set (i := 3) sc__law_no_plan.nd rfl (.inl rfl) (pe_op op_mod (pe_op op_fdivW (pv 2) pe_int) (pe_callB call_len_seq (by rfl) T.b_len PySem.boot_len (pa_cons (pv 1) pa_nil))))
      (pss_cons (ps_set (i := 4) sc__law_no_plan.nd rfl (.inl rfl) (pe_ix ix_list (pe_lst (pa_cons (pe_ix ix_tup (pv 0) pe_int (fun _ _ => rfl)) (pa_cons (pe_un un_neg pe_int) (pa_cons (pe_op op_add (pe_ix ix_tup (pv 0) pe_int (fun _ _ => rfl)) (pv 2)) (pa_cons pe_bl (pa_cons pe_non (pa_cons pe_str (pa_cons (pe_lst (pa_cons pe_int pa_nil)) (pa_cons (pe_op op_sub (pe_un un_neg pe_int) (pv 2)) pa_nil))))))))) (pe_op op_mod (pv 2) pe_int) (fun _ _ => rfl)))
      (pss_cons (ps_set (i := 5) sc__law_no_plan.nd rfl (.inl rfl) (pe_lst (pa_cons (pe_callTy call_list_of (by rfl) T.b_list (by decide +kernel) (pa_cons (pv 1) pa_nil)) (pa_cons (pe_op op_catA (pv 1) (pe_tup (pa_cons pe_int pa_nil))) (pa_cons (pe_slice sl_tupA (pv 1) (po_some pe_int) po_none) (pa_cons pe_non (pa_cons pe_int (pa_cons pe_str (pa_cons pe_dnewK pa_nil)))))))))
      (pss_cons (ps_if (pt_cmpR op_eq (pe_op op_mod (pe_op op_fdivW (pv 2) pe_int) pe_int) pe_int (nomark _))
        (pss_one (ps_ret (pe_ix ix_list (pv 5) (pe_op op_mod (pe_op op_fdivW (pv 2) pe_int) pe_int) (fun _ _ => rfl))))
        pss_nil)
      (pss_one (ps_ret (pe_op op_catA (pe_op op_catA (pe_slice sl_tupA (pv 1) po_none (po_some (pv 3))) (pe_tup (pa_cons (pv 4) pa_nil))) (pe_slice sl_tupA (pv 1) (po_some (pe_op op_add (pv 3) pe_int)) po_none)))))))),
  (fs_seq (fs_set (fv_op ok_mod (fv_op Xq.ok_divW fv_var fv_int) (fv_bn ok_len (fa_cons fv_var fa_nil))))
  (fs_seq (fs_set (fv_op ok_ixL (fEF.ev (ef_lst (S := []) (fa_cons (fv_op ok_ixT fv_var fv_int) (fa_cons (fv_neg fv_int) (fa_cons (fv_op ok_add (fv_op ok_ixT fv_var fv_int) fv_var) (fa_cons fv_bl (fa_cons fv_non (fa_cons fv_str (fa_cons (fEF.ev (ef_lst (S := []) (fa_cons fv_int fa_nil))) (fa_cons (fv_op ok_sub (fv_neg fv_int) fv_var) fa_nil)))))))))) (fv_op ok_mod fv_var fv_int)))
  (fs_seq (fs_set (fEF.ev (ef_lst (S := []) (fa_cons (fEF.ev (ef_bn (S := []) of_list (fa_cons fv_var fa_nil))) (fa_cons (fv_op ok_catT fv_var (fv_tup (fa_cons fv_int fa_nil))) (fa_cons (fv_slT fv_var (fo_some (S := []) fv_int) fo_none) (fa_cons fv_non (fa_cons fv_int (fa_cons fv_str (fa_cons Xq.fv_emd fa_nil))))))))))
  (fs_seq (fs_if (ft_test (S := []) (fv_op ok_eq (fv_op ok_mod (fv_op Xq.ok_divW fv_var fv_int) fv_int) fv_int))
  (fs_ret (fv_op ok_ixL fv_var (fv_op ok_mod (fv_op Xq.ok_divW fv_var fv_int) fv_int)))
  fs_next)
  (fs_ret (fv_op ok_catT (fv_op ok_catT (fv_slT fv_var fo_none (fo_some (S := []) fv_var)) (fv_tup (fa_cons fv_var fa_nil))) (fv_slT fv_var (fo_some (S := []) (fv_op ok_add fv_var fv_int)) fo_none)))))))⟩)
def c_are_whole_1 : Fx :=
  (lcF [4] (tuF (vr 0)) (nmG 4) yesT (callF g_is_whole (aC (vr 4) (aC (vr 2) (aC (vr 3) aN)))))
def f_are_whole : Fs :=
  (seqF (iffF (orF (notF (tbF (isF "tuple" (vr 0)))) (tbF (op2 (eqP true) (bn lenP (aC (vr 0) aN)) (vr 1))))
  (retF (cc (.bool false)))
  nxF)
  (retF (bn (qB fun bs => .bool (bs.all id)) (aC c_are_whole_1 aN))))
def g_are_whole : List PyData → Option (PyData × List PyData) := gDef [] none n_are_whole 4 f_are_whole
theorem ok_are_whole (T : Txt K mg) : Gd.FnG P w K mg base CX0 2 T.f_are_whole T.fd_are_whole ["things", "count", "low", "high"] (SpX K (gof []) [] none g_are_whole) :=
  Gd.fx_okG (k := 1) T.F_are_whole sc_are_whole (fun cdv A outer s0 H E gd hr => ⟨_, (pss_cons (ps_if (PW.pt (pw_or (pt_not (pt_val (pe_callB call_isi (by rfl) T.b_isinstance (by decide +kernel) (pa_cons (pv 0) (pa_cons (pe_bltn (v := .ty "tuple") (by rfl) T.b_tuple (by decide +kernel) rfl) pa_nil))))) (pw_or1 (pt_cmpR op_ne (pe_callB call_len_seq (by rfl) T.b_len PySem.boot_len (pa_cons (pv 0) pa_nil)) (pv 1) (nomark _)))))
        (pss_one (ps_ret pe_bl))
        pss_nil)
      (pss_one (ps_ret (pe_callB (cr_all rfl) (by rfl) T.b_all (by decide +kernel) (pa_cons (pe_lc (own := [("thing", 4)]) (g := gName 4) (tt := tYes) rfl sc_are_whole.nd (pi_tup (pv 0)) (blkOk_by (N := n_are_whole) (sc := defScope s_are_whole) (by decide +kernel)) (fun _ _ _ _ _ => pg_name (i := 4) sc_are_whole.nd rfl (Or.inl rfl)) (fun _ _ _ _ _ => pts_nil) (fun _ _ _ _ _ => (Gd.pe_callG (ok_is_whole T) gd hr (by rfl) T.G_is_whole T.F_is_whole.kp T.B_is_whole .nil pass0 (pa_cons (pv 4) (pa_cons (pv 2) (pa_cons (pv 3) pa_nil)))))) pa_nil))))),
  (fs_seq (fs_if (ft_or (ft_not (ft_test (S := []) (fv_isi fv_var))) (ft_test (S := []) (fv_op ok_ne (fv_bn ok_len (fa_cons fv_var fa_nil)) fv_var)))
  (fs_ret fv_bl)
  fs_next)
  (fs_ret (fv_bn ok_all (fa_cons (fEF.ev (ef_lc (n := 0) (it_tup fv_var) tg_name ft_yes (ef_zero (fv_call (fa_cons fv_var (fa_cons fv_var (fa_cons fv_var fa_nil))))))) fa_nil))))⟩)
def b_left_for_1 : Fs :=
  (iffF (tbF (op2 (isP true) (vr 7) (cc .none)))
  (augF 6 (fun i j => Builtin.bitAnd i j) (Xq.invF (callF g_tunes_near (aC (vr 7) (aC (vr 8) aN)))))
  nxF)
def l_left_for_1 : Fs :=
  (forF (Xq.zpAF (vr 1) (op2 ixTP (vr 4) (vr 2))) (tpG (coG (nmG 7) (coG (nmG 8) niG)))
  b_left_for_1)
def f_left_for : Fs :=
  (seqF (asgF (slTF (vr 0) (oS (cc (.int 2))) oN) (tpG (coG (nmG 4) (coG (nmG 5) niG))))
  (seqF (setF 6 (op2 bandP (op2 ixTP (vr 5) (vr 2)) (op2 subP (op2 shlP (cc (.int 1)) (bn max2P (aC (cc (.int 0)) (aC (vr 3) aN)))) (cc (.int 1)))))
  (seqF l_left_for_1
  (retF (vr 6)))))
def g_left_for : List PyData → Option (PyData × List PyData) := gDef [] none n_left_for 4 f_left_for
theorem ok_left_for (T : Txt K mg) : Gd.FnG P w K mg base CX0 2 T.f_left_for T.fd_left_for ["web", "given", "i", "many"] (SpX K (gof []) [] none g_left_for) :=
  Gd.fx_okG (k := 1) T.F_left_for sc_left_for (fun cdv A outer s0 H E gd hr => ⟨_, (pss_cons (ps_asg (pe_slice sl_tupA (pv 0) (po_some pe_int) po_none) (pg_tup rfl (pgs_cons (pg_name (i := 4) sc_left_for.nd rfl (Or.inl rfl)) (pgs_cons (pg_name (i := 5) sc_left_for.nd rfl (Or.inl rfl)) pgs_nil))))
      (pss_cons (ps_set (i := 6) sc_left_for.nd rfl (.inl rfl) (pe_op op_and (pe_ix ix_tup (pv 5) (pv 2) (fun _ _ => rfl)) (pe_op op_sub (pe_op op_shl pe_int (pe_callB (call_max2 rfl) (by rfl) T.b_max (by decide +kernel) (pa_cons pe_int (pa_cons (pv 3) pa_nil)))) pe_int)))
      (pss_cons (ps_for PassesOwn.never rfl (Xq.pi_zipQ (by rfl) T.b_zip (pa_cons (pv 1) (pa_cons (pe_ix ix_tup (pv 4) (pv 2) (fun _ _ => rfl)) pa_nil))) (pg_tup rfl (pgs_cons (pg_name (i := 7) sc_left_for.nd rfl (Or.inl rfl)) (pgs_cons (pg_name (i := 8) sc_left_for.nd rfl (Or.inl rfl)) pgs_nil)))
        (pss_one (ps_if (pt_cmpR op_notN (pv 7) pe_non (nomark _))
          (pss_one (ps_aug (i := 6) sc_left_for.nd rfl (.inl rfl) (pe_un un_inv (Gd.pe_callG (ok_tunes_near T) gd hr (by rfl) T.G_tunes_near T.F_tunes_near.kp T.B_tunes_near .nil pass0 (pa_cons (pv 7) (pa_cons (pv 8) pa_nil)))) Xq.ip_and))
          pss_nil)))
      (pss_one (ps_ret (pv 6)))))),
  (fs_seq (fs_asg (fv_slT fv_var (fo_some (S := []) fv_int) fo_none) (tg_tup (tg_cons tg_name (tg_cons tg_name tg_nil))))
  (fs_seq (fs_set (fv_op ok_band (fv_op ok_ixT fv_var fv_var) (fv_op ok_sub (fv_op ok_shl fv_int (fv_bn ok_max2 (fa_cons fv_int (fa_cons fv_var fa_nil)))) fv_int)))
  (fs_seq (fs_for (Xq.it_zipQ fv_var (fv_op ok_ixT fv_var fv_var)) (tg_tup (tg_cons tg_name (tg_cons tg_name tg_nil)))
  (fs_if (ft_test (S := []) (fv_op ok_notN fv_var fv_non))
  (fs_aug (Xq.fv_inv (fv_call (fa_cons fv_var (fa_cons fv_var fa_nil)))))
  fs_next))
  (fs_ret fv_var))))⟩)
def f__law_next : Fs :=
  (seqF (itmF 0 (flF (op2 addP (op2 ixLP (vr 0) (cc (.int 1))) (cc (.int 1)))) (cc (.int 1)))
  (retF (flF (callF g__law_cell (aC (op2 ixLP (vr 0) (cc (.int 0))) (aC (op2 ixLP (vr 0) (cc (.int 1))) aN))))))
def g__law_next : List PyData → Option (PyData × List PyData) := gDef [0] none n__law_next 1 f__law_next
theorem ok__law_next (T : Txt K mg) : Gd.FnG P w K mg base CX0 2 T.f__law_next T.fd__law_next ["_law_draw"] (SpX K (gof []) [0] none g__law_next) :=
  Gd.fx_okG (k := 1) T.F__law_next sc__law_next (fun cdv A outer s0 H E gd hr => ⟨_, (pss_cons (ps_asg (pe_op op_add (pe_ix ix_list (pv 0) pe_int (fun _ _ => rfl)) pe_int) (pg_sub (pv 0) pe_int set_list))
      (pss_one (ps_ret (Gd.pe_callG (ok__law_cell T) gd hr (by rfl) T.G__law_cell T.F__law_cell.kp T.B__law_cell .nil pass0 (pa_cons (pe_ix ix_list (pv 0) pe_int (fun _ _ => rfl)) (pa_cons (pe_ix ix_list (pv 0) pe_int (fun _ _ => rfl)) pa_nil)))))),
  (fs_seq (fs_item (fv_flat (S := [0]) (fv_op ok_add (fv_op ok_ixL fv_see fv_int) fv_int)) fv_int)
  (fs_ret (fv_flat (S := [0]) (fv_call (fa_cons (fv_op ok_ixL fv_see fv_int) (fa_cons (fv_op ok_ixL fv_see fv_int) fa_nil))))))⟩)
def c__law_names_1 : Fx :=
  (lcF [3] (rg1 (cc (.int 8))) (nmG 3) yesT (op2 ixSP (vr 1) (op2 modP (callF g__law_mixed (aC (vr 0) (aC (vr 3) aN))) (cc (.int 26)))))
def c__law_names_2 : Fx :=
  (lcF [8] (rg1 (cc (.int 16))) (nmG 8) yesT (op2 ixSP (vr 6) (op2 modP (op2 addP (op2 Xq.divP (vr 0) (cc (.int 256))) (op2 mulP (cc (.int 5)) (vr 8))) (bn lenSP (aC (vr 6) aN)))))
def c__law_names_3 : Fx :=
  (lcF [10] (rdF (vr 7)) (nmG 10) yesT (op2 catSP (op2 catSP (slSF (vr 2) oN (oS (vr 5))) (vr 10)) (slSF (vr 2) (oS (op2 addP (vr 5) (cc (.int 1)))) (oS (vr 4)))))
def c__law_names_4 : Fx :=
  (lcF [8] (rg1 (cc (.int 8))) (nmG 8) yesT (slSF (vr 2) oN (oS (op2 addP (vr 8) (cc (.int 1))))))
def c__law_names_5 : Fx :=
  (lcF [8] (rg1 (cc (.int 8))) (nmG 8) yesT (slSF (vr 11) oN (oS (op2 addP (vr 8) (cc (.int 1))))))
def c__law_names_6 : Fx :=
  (lcF [8] (rg1 (cc (.int 16))) (nmG 8) yesT (op2 ixSP (vr 1) (op2 modP (op2 addP (op2 Xq.divP (vr 0) (cc (.int 4))) (op2 mulP (cc (.int 7)) (vr 8))) (cc (.int 26)))))
def c__law_names_7 : Fx :=
  (lcF [13] (rdF (vr 9)) (nmG 13) (tbF (op2 (inP false) (vr 13) (op2f [] splP (vr 12) (cc (.str " "))))) (vr 13))
def c__law_names_8 : Fx :=
  (lcF [8] (rg1 (cc (.int 16))) (nmG 8) yesT (op2 catSP (cc (.str "q")) (op2 ixSP (vr 1) (vr 8))))
def f__law_names : Fs :=
  (seqF (setF 1 (cc (.str "abcdefghijklmnopqrstuvwxyz")))
  (seqF (setF 2 (op2 joinP (cc (.str "")) c__law_names_1))
  (seqF (iffF (tbF (op2 ltP (op2 modP (vr 0) (cc (.int 4))) (cc (.int 2))))
  (seqF (setF 4 (op2 addP (cc (.int 2)) (op2 modP (op2 Xq.divP (vr 0) (cc (.int 4))) (cc (.int 7)))))
  (seqF (setF 5 (op2 modP (op2 Xq.divP (vr 0) (cc (.int 32))) (vr 4)))
  (seqF (setF 6 (ifV (tbF (op2 (eqP false) (vr 5) (cc (.int 0)))) (vr 1) (op2 catSP (vr 1) (cc (.str "0123456789")))))
  (seqF (setF 7 c__law_names_2)
  (setF 9 c__law_names_3)))))
  (iffF (tbF (op2 (eqP false) (op2 modP (vr 0) (cc (.int 4))) (cc (.int 2))))
  (seqF (setF 11 (op2 catSP (op2 ixSP (vr 1) (op2 modP (op2 addP (op2 addP (idxF (vr 1) (op2 ixSP (vr 2) (cc (.int 0)))) (cc (.int 1))) (op2 modP (op2 Xq.divP (vr 0) (cc (.int 4))) (cc (.int 25)))) (cc (.int 26)))) (slSF (vr 2) (oS (cc (.int 1))) oN)))
  (seqF (setF 9 c__law_names_4)
  (setF 9 (op2f [] catG (vr 9) c__law_names_5))))
  (setF 9 c__law_names_6)))
  (seqF (setF 12 (cc (.str "tunes near station apart fix bar")))
  (seqF (iffF (tbF (op2 (eqDP true) c__law_names_7 (lsF [] aN)))
  (retF c__law_names_8)
  nxF)
  (retF (vr 9)))))))
def g__law_names : List PyData → Option (PyData × List PyData) := gDef [] none n__law_names 1 f__law_names
theorem ok__law_names (T : Txt K mg) : Gd.FnG P w K mg base CX0 2 T.f__law_names T.fd__law_names ["_law_number"] (SpX K (gof []) [] none g__law_names) :=
  Gd.fx_okG (k := 1) T.F__law_names sc__law_names (fun cdv A outer s0 H E gd hr => ⟨_, (pss_cons (ps_set (i := 1) sc__law_names.nd rfl (.inr rfl) pe_str)
      (pss_cons (ps_set (i := 2) sc__law_names.nd rfl (.inr rfl) (pe_join pe_str (pe_lc (own := [("_law_j", 3)]) (g := gName 3) (tt := tYes) rfl sc__law_names.nd (pi_range1 (by rfl) T.b_range (pa_cons pe_int pa_nil)) (blkOk_by (N := n__law_names) (sc := defScope s__law_names) (by decide +kernel)) (fun _ _ _ _ _ => pg_name (i := 3) sc__law_names.nd rfl (Or.inl rfl)) (fun _ _ _ _ _ => pts_nil) (fun _ _ _ _ _ => (pe_ix ix_str (pv 1) (pe_op op_mod (Gd.pe_callG (ok__law_mixed T) gd hr (by rfl) T.G__law_mixed T.F__law_mixed.kp T.B__law_mixed .nil pass0 (pa_cons (pv 0) (pa_cons (pv 3) pa_nil))) pe_int) (fun _ _ => rfl))))))
      (pss_cons (ps_if (pt_cmpR op_lt (pe_op op_mod (pv 0) pe_int) pe_int (nomark _))
        (pss_cons (ps_set (i := 4) sc__law_names.nd rfl (.inr rfl) (pe_op op_add pe_int (pe_op op_mod (pe_op op_fdivW (pv 0) pe_int) pe_int)))
        (pss_cons (ps_set (i := 5) sc__law_names.nd rfl (.inr rfl) (pe_op op_mod (pe_op op_fdivW (pv 0) pe_int) (pv 4)))
        (pss_cons (ps_set (i := 6) sc__law_names.nd rfl (.inr rfl) (pe_ifExp (pt_cmpR op_eq (pv 5) pe_int (nomark _)) (pv 1) (pe_op op_add_str (pv 1) pe_str)))
        (pss_cons (ps_setLc (i := 7) (own := [("_law_k", 8)]) (g := gName 8) (tt := tYes) rfl sc__law_names.nd rfl rfl (sw_true rfl rfl rfl (by decide +kernel)) (pi_range1 (by rfl) T.b_range (pa_cons pe_int pa_nil)) (blkOk_by (N := n__law_names) (sc := defScope s__law_names) (by decide +kernel)) (fun _ _ _ _ _ => pg_name (i := 8) sc__law_names.nd rfl (Or.inl rfl)) (fun _ _ _ _ _ => pts_nil) (fun _ _ _ _ _ => (pe_ix ix_str (pv 6) (pe_op op_mod (pe_op op_add (pe_op op_fdivW (pv 0) pe_int) (pe_op op_mul pe_int (pv 8))) (pe_callB call_len_str (by rfl) T.b_len PySem.boot_len (pa_cons (pv 6) pa_nil))) (fun _ _ => rfl))))
        (pss_one (ps_setLc (i := 9) (own := [("_law_sign", 10)]) (g := gName 10) (tt := tYes) rfl sc__law_names.nd rfl rfl (sw_true rfl rfl rfl (by decide +kernel)) (pi_list (pv 7)) (blkOk_by (N := n__law_names) (sc := defScope s__law_names) (by decide +kernel)) (fun _ _ _ _ _ => pg_name (i := 10) sc__law_names.nd rfl (Or.inl rfl)) (fun _ _ _ _ _ => pts_nil) (fun _ _ _ _ _ => (pe_op op_add_str (pe_op op_add_str (pe_slice sl_str (pv 2) po_none (po_some (pv 5))) (pv 10)) (pe_slice sl_str (pv 2) (po_some (pe_op op_add (pv 5) pe_int)) (po_some (pv 4)))))))))))
        (pss_one (ps_if (pt_cmpR op_eq (pe_op op_mod (pv 0) pe_int) pe_int (nomark _))
          (pss_cons (ps_set (i := 11) sc__law_names.nd rfl (.inr rfl) (pe_op op_add_str (pe_ix ix_str (pv 1) (pe_op op_mod (pe_op op_add (pe_op op_add (pe_bmS PySem.F.plainAttrs_str PySem.F.slot_str_index PySem.F.type_str_index (mt_indexX rfl takesNo) (pv 1) (pa_cons (pe_ix ix_str (pv 2) pe_int (fun _ _ => rfl)) pa_nil)) pe_int) (pe_op op_mod (pe_op op_fdivW (pv 0) pe_int) pe_int)) pe_int) (fun _ _ => rfl)) (pe_slice sl_str (pv 2) (po_some pe_int) po_none)))
          (pss_cons (ps_setLc (i := 9) (own := [("_law_k", 8)]) (g := gName 8) (tt := tYes) rfl sc__law_names.nd rfl rfl (sw_true rfl rfl rfl (by decide +kernel)) (pi_range1 (by rfl) T.b_range (pa_cons pe_int pa_nil)) (blkOk_by (N := n__law_names) (sc := defScope s__law_names) (by decide +kernel)) (fun _ _ _ _ _ => pg_name (i := 8) sc__law_names.nd rfl (Or.inl rfl)) (fun _ _ _ _ _ => pts_nil) (fun _ _ _ _ _ => (pe_slice sl_str (pv 2) po_none (po_some (pe_op op_add (pv 8) pe_int)))))
          (pss_one (ps_set (i := 9) sc__law_names.nd rfl (.inl rfl) (pe_op op_cat (pv 9) (pe_lc (own := [("_law_k", 8)]) (g := gName 8) (tt := tYes) rfl sc__law_names.nd (pi_range1 (by rfl) T.b_range (pa_cons pe_int pa_nil)) (blkOk_by (N := n__law_names) (sc := defScope s__law_names) (by decide +kernel)) (fun _ _ _ _ _ => pg_name (i := 8) sc__law_names.nd rfl (Or.inl rfl)) (fun _ _ _ _ _ => pts_nil) (fun _ _ _ _ _ => (pe_slice sl_str (pv 11) po_none (po_some (pe_op op_add (pv 8) pe_int))))))))))
          (pss_one (ps_setLc (i := 9) (own := [("_law_k", 8)]) (g := gName 8) (tt := tYes) rfl sc__law_names.nd rfl rfl (sw_true rfl rfl rfl (by decide +kernel)) (pi_range1 (by rfl) T.b_range (pa_cons pe_int pa_nil)) (blkOk_by (N := n__law_names) (sc := defScope s__law_names) (by decide +kernel)) (fun _ _ _ _ _ => pg_name (i := 8) sc__law_names.nd rfl (Or.inl rfl)) (fun _ _ _ _ _ => pts_nil) (fun _ _ _ _ _ => (pe_ix ix_str (pv 1) (pe_op op_mod (pe_op op_add (pe_op op_fdivW (pv 0) pe_int) (pe_op op_mul pe_int (pv 8))) pe_int) (fun _ _ => rfl))))))))
      (pss_cons (ps_set (i := 12) sc__law_names.nd rfl (.inr rfl) pe_str)
      (pss_cons (ps_if (pt_cmpR (op_neD hr.units) (pe_lc (own := [("_law_name", 13)]) (g := gName 13) rfl sc__law_names.nd (pi_list (pv 9)) (blkOk_by (N := n__law_names) (sc := defScope s__law_names) (by decide +kernel)) (fun _ _ _ _ _ => pg_name (i := 13) sc__law_names.nd rfl (Or.inl rfl)) (fun _ _ _ _ _ => pts_one (pt_cmpR op_in_seq (pv 13) (pe_split (pv 12) pe_str) (by with_unfolding_all rfl))) (fun _ _ _ _ _ => (pv 13))) (pe_lst pa_nil) (nomark _))
        (pss_one (ps_ret (pe_lc (own := [("_law_k", 8)]) (g := gName 8) (tt := tYes) rfl sc__law_names.nd (pi_range1 (by rfl) T.b_range (pa_cons pe_int pa_nil)) (blkOk_by (N := n__law_names) (sc := defScope s__law_names) (by decide +kernel)) (fun _ _ _ _ _ => pg_name (i := 8) sc__law_names.nd rfl (Or.inl rfl)) (fun _ _ _ _ _ => pts_nil) (fun _ _ _ _ _ => (pe_op op_add_str pe_str (pe_ix ix_str (pv 1) (pv 8) (fun _ _ => rfl)))))))
        pss_nil)
      (pss_one (ps_ret (pv 9)))))))),
  (fs_seq (fs_set fv_str)
  (fs_seq (fs_set (fv_m1 ok_join fv_str (fEF.ev (ef_lc (n := 0) (it_rg1 fv_int) tg_name ft_yes (ef_zero (fv_op ok_ixS fv_var (fv_op ok_mod (fv_call (fa_cons fv_var (fa_cons fv_var fa_nil))) fv_int)))))))
  (fs_seq (fs_if (ft_test (S := []) (fv_op ok_lt (fv_op ok_mod fv_var fv_int) fv_int))
  (fs_seq (fs_set (fv_op ok_add fv_int (fv_op ok_mod (fv_op Xq.ok_divW fv_var fv_int) fv_int)))
  (fs_seq (fs_set (fv_op ok_mod (fv_op Xq.ok_divW fv_var fv_int) fv_var))
  (fs_seq (fs_set (fv_if (ft_test (S := []) (fv_op ok_eq fv_var fv_int)) fv_var (fv_op ok_cat fv_var fv_str)))
  (fs_seq (fs_set (fEF.ev (ef_lc (n := 0) (it_rg1 fv_int) tg_name ft_yes (ef_zero (fv_op ok_ixS fv_var (fv_op ok_mod (fv_op ok_add (fv_op Xq.ok_divW fv_var fv_int) (fv_op ok_mul fv_int fv_var)) (fv_bn ok_lenS (fa_cons fv_var fa_nil))))))))
  (fs_set (fEF.ev (ef_lc (n := 0) (it_list fv_var) tg_name ft_yes (ef_zero (fv_op ok_cat (fv_op ok_cat (fv_slS fv_var fo_none (fo_some (S := []) fv_var)) fv_var) (fv_slS fv_var (fo_some (S := []) (fv_op ok_add fv_var fv_int)) (fo_some (S := []) fv_var)))))))))))
  (fs_if (ft_test (S := []) (fv_op ok_eq (fv_op ok_mod fv_var fv_int) fv_int))
  (fs_seq (fs_set (fv_op ok_cat (fv_op ok_ixS fv_var (fv_op ok_mod (fv_op ok_add (fv_op ok_add (fv_index fv_var (fv_op ok_ixS fv_var fv_int)) fv_int) (fv_op ok_mod (fv_op Xq.ok_divW fv_var fv_int) fv_int)) fv_int)) (fv_slS fv_var (fo_some (S := []) fv_int) fo_none)))
  (fs_seq (fs_set (fEF.ev (ef_lc (n := 0) (it_rg1 fv_int) tg_name ft_yes (ef_zero (fv_slS fv_var fo_none (fo_some (S := []) (fv_op ok_add fv_var fv_int)))))))
  (fs_set (fEF.ev (ef_op (S := []) of_cat fv_var (fEF.ev (ef_lc (n := 0) (it_rg1 fv_int) tg_name ft_yes (ef_zero (fv_slS fv_var fo_none (fo_some (S := []) (fv_op ok_add fv_var fv_int)))))))))))
  (fs_set (fEF.ev (ef_lc (n := 0) (it_rg1 fv_int) tg_name ft_yes (ef_zero (fv_op ok_ixS fv_var (fv_op ok_mod (fv_op ok_add (fv_op Xq.ok_divW fv_var fv_int) (fv_op ok_mul fv_int fv_var)) fv_int))))))))
  (fs_seq (fs_set fv_str)
  (fs_seq (fs_if (ft_test (S := []) (fv_op ok_neD (fEF.ev (ef_lc (n := 0) (it_list fv_var) tg_name (ft_test (S := []) (fv_op ok_in fv_var (fEF.ev (ef_split (S := []) fv_var fv_str)))) (ef_zero fv_var))) (fEF.ev (ef_lst (S := []) fa_nil))))
  (fs_ret (fEF.ev (ef_lc (n := 0) (it_rg1 fv_int) tg_name ft_yes (ef_zero (fv_op ok_cat fv_str (fv_op ok_ixS fv_var fv_var))))))
  fs_next)
  (fs_ret fv_var))))))⟩)
def f_need_plan : Fs :=
  (iffF (notF (tbF (callF g_are_whole (aC (vr 1) (aC (bn lenP (aC (op2 ixTP (vr 0) (cc (.int 0))) aN)) (aC (cc (.int 0)) (aC (op2 subP (op2 ixTP (vr 0) (cc (.int 1))) (cc (.int 1))) aN)))))))
  (Xq.raiF "BadPlan")
  nxF)
def g_need_plan : List PyData → Option (PyData × List PyData) := gDef [] none n_need_plan 2 f_need_plan
def x_need_plan : List PyData → Option (PyData × List PyData) := Xq.xDef [] n_need_plan 2 f_need_plan
theorem ok_need_plan (T : Txt K mg) : Gd.FnG P w K mg base (L2.CX P w) 3 T.f_need_plan T.fd_need_plan ["web", "plan"] (Xq.SpE K (gof []) [] none g_need_plan x_need_plan) :=
  Xq.fx_okXG (k := 2) T.F_need_plan sc_need_plan (fun cdv A outer s0 H E gd hr => ⟨_, (pss_one (ps_if (pt_not (pt_val (Gd.pe_callG (ok_are_whole T) gd hr (by rfl) T.G_are_whole T.F_are_whole.kp T.B_are_whole .nil pass0 (pa_cons (pv 1) (pa_cons (pe_callB call_len_seq (by rfl) T.b_len PySem.boot_len (pa_cons (pe_ix ix_tup (pv 0) pe_int (fun _ _ => rfl)) pa_nil)) (pa_cons pe_int (pa_cons (pe_op op_sub (pe_ix ix_tup (pv 0) pe_int (fun _ _ => rfl)) pe_int) pa_nil)))))))
        (pss_one (ps_raise rfl (takes_of rfl rfl rfl rfl) (pmk_own PySem.F.excBase_ValueError T.x_BadPlan T.gc_BadPlan T.kc_BadPlan (raises_own T.bc_BadPlan T.tc_BadPlan) rfl)))
        pss_nil)),
  (fs_if (ft_not (ft_test (S := []) (fv_call (fa_cons fv_var (fa_cons (fv_bn ok_len (fa_cons (fv_op ok_ixT fv_var fv_int) fa_nil)) (fa_cons fv_int (fa_cons (fv_op ok_sub (fv_op ok_ixT fv_var fv_int) fv_int) fa_nil)))))))
  (Xq.fs_raise T.nc_BadPlan)
  fs_next)⟩)
def c__law_gaps_1 : Fx :=
  (lcF [4] (rg1 (vr 1)) (nmG 4) yesT (op2f [] repG (lsF [] (aC (cc (.int 0)) aN)) (vr 1)))
def b__law_gaps_1 : Fs :=
  (seqF (setF 8 (callM g__law_next [some 0] (aM 0 aN)))
  (seqF (setF 9 (ifV (tbF (op2 ltP (op2 modP (vr 8) (cc (.int 8))) (op2 addP (cc (.int 2)) (op2 mulP (cc (.int 2)) (vr 5))))) (op2 addP (cc (.int 1)) (op2 modP (op2 Xq.divP (vr 8) (cc (.int 8))) (vr 2))) (cc (.int 0))))
  (seqF (itm2F 3 (vr 9) (vr 6) (vr 7))
  (itm2F 3 (vr 9) (vr 7) (vr 6)))))
def l__law_gaps_1 : Fs :=
  (forF (rg1 (vr 6)) (nmG 7)
  b__law_gaps_1)
def b__law_gaps_2 : Fs :=
  l__law_gaps_1
def l__law_gaps_2 : Fs :=
  (forF (rg1 (vr 1)) (nmG 6)
  b__law_gaps_2)
def c__law_gaps_2 : Fx :=
  (lcF [10] (rdF (vr 3)) (nmG 10) yesT (bn tupP (aC (vr 10) aN)))
def f__law_gaps : Fs :=
  (seqF (ownF 3 c__law_gaps_1)
  (seqF (setF 5 (op2 modP (callM g__law_next [some 0] (aM 0 aN)) (cc (.int 4))))
  (seqF l__law_gaps_2
  (retF (bn tupP (aC c__law_gaps_2 aN))))))
def g__law_gaps : List PyData → Option (PyData × List PyData) := gDef [0] none n__law_gaps 3 f__law_gaps
theorem ok__law_gaps (T : Txt K mg) : Gd.FnG P w K mg base CX0 3 T.f__law_gaps T.fd__law_gaps ["_law_draw", "_law_many", "_law_most"] (SpX K (gof [(3, 2)]) [0] none g__law_gaps) :=
  Gd.fx_okG (k := 2) T.F__law_gaps sc__law_gaps (fun cdv A outer s0 H E gd hr => ⟨_, (pss_cons (ps_setLc (i := 3) (own := [("_law_k", 4)]) (g := gName 4) (tt := tYes) rfl sc__law_gaps.nd rfl rfl (sw_true rfl rfl rfl (by decide +kernel)) (pi_range1 (by rfl) T.b_range (pa_cons (pv 1) pa_nil)) (blkOk_by (N := n__law_gaps) (sc := defScope s__law_gaps) (by decide +kernel)) (fun _ _ _ _ _ => pg_name (i := 4) sc__law_gaps.nd rfl (Or.inl rfl)) (fun _ _ _ _ _ => pts_nil) (fun _ _ _ _ _ => (pe_op op_rep (pe_lst (pa_cons pe_int pa_nil)) (pv 1))))
      (pss_cons (ps_set (i := 5) sc__law_gaps.nd rfl (.inl rfl) (pe_op op_mod (Gd.pe_callG (ok__law_next T) gd hr (by rfl) T.G__law_next T.F__law_next.kp T.B__law_next .nil pass0 (pa_cons (pv 0) pa_nil)) pe_int))
      (pss_cons (ps_for PassesOwn.never rfl (pi_range1 (by rfl) T.b_range (pa_cons (pv 1) pa_nil)) (pg_name (i := 6) sc__law_gaps.nd rfl (Or.inl rfl))
        (pss_one (ps_for PassesOwn.never rfl (pi_range1 (by rfl) T.b_range (pa_cons (pv 6) pa_nil)) (pg_name (i := 7) sc__law_gaps.nd rfl (Or.inl rfl))
          (pss_cons (ps_set (i := 8) sc__law_gaps.nd rfl (.inl rfl) (Gd.pe_callG (ok__law_next T) gd hr (by rfl) T.G__law_next T.F__law_next.kp T.B__law_next .nil pass0 (pa_cons (pv 0) pa_nil)))
          (pss_cons (ps_set (i := 9) sc__law_gaps.nd rfl (.inl rfl) (pe_ifExp (pt_cmpR op_lt (pe_op op_mod (pv 8) pe_int) (pe_op op_add pe_int (pe_op op_mul pe_int (pv 5))) (nomark _)) (pe_op op_add pe_int (pe_op op_mod (pe_op op_fdivW (pv 8) pe_int) (pv 2))) pe_int))
          (pss_cons (ps_asg (pv 9) (pg_sub (pe_ix ix_list (pv 3) (pv 6) (fun _ _ => rfl)) (pv 7) set_list))
          (pss_one (ps_asg (pv 9) (pg_sub (pe_ix ix_list (pv 3) (pv 7) (fun _ _ => rfl)) (pv 6) set_list)))))))))
      (pss_one (ps_ret (pe_callTy call_tuple_of (by rfl) T.b_tuple (by decide +kernel) (pa_cons (pe_lc (own := [("_law_row", 10)]) (g := gName 10) (tt := tYes) rfl sc__law_gaps.nd (pi_list (pv 3)) (blkOk_by (N := n__law_gaps) (sc := defScope s__law_gaps) (by decide +kernel)) (fun _ _ _ _ _ => pg_name (i := 10) sc__law_gaps.nd rfl (Or.inl rfl)) (fun _ _ _ _ _ => pts_nil) (fun _ _ _ _ _ => (pe_callTy call_tuple_of (by rfl) T.b_tuple (by decide +kernel) (pa_cons (pv 10) pa_nil)))) pa_nil))))))),
  (fs_seq (fs_own (ef_lc (n := 1) (it_rg1 fv_var) tg_name ft_yes (ef_op (S := []) of_rep (fEF.ev (ef_lst (S := []) (fa_cons fv_int fa_nil))) fv_var)))
  (fs_seq (fs_set (fv_op ok_mod (fv_callM (ks := [some 0]) ksOk (fc_own (i := 0) fc_nil)) fv_int))
  (fs_seq (fs_for (it_rg1 fv_var) tg_name
  (fs_for (it_rg1 fv_var) tg_name
  (fs_seq (fs_set (fv_callM (ks := [some 0]) ksOk (fc_own (i := 0) fc_nil)))
  (fs_seq (fs_set (fv_if (ft_test (S := []) (fv_op ok_lt (fv_op ok_mod fv_var fv_int) (fv_op ok_add fv_int (fv_op ok_mul fv_int fv_var)))) (fv_op ok_add fv_int (fv_op ok_mod (fv_op Xq.ok_divW fv_var fv_int) fv_var)) fv_int))
  (fs_seq (fs_item2 fv_var fv_var fv_var)
  (fs_item2 fv_var fv_var fv_var))))))
  (fs_in [0] (fs_ret (fv_bn ok_tup (fa_cons (fEF.ev (ef_lc (n := 0) (it_list fv_var) tg_name ft_yes (ef_zero (fv_bn ok_tup (fa_cons fv_var fa_nil))))) fa_nil)))))))⟩)
def t__law_plan_1 : Fs :=
  (ownF 2 (op2f [] repG (lsF [] (aC (cc .none) aN)) (bn lenP (aC (op2 ixTP (vr 1) (cc (.int 0))) aN))))
def t__law_plan_2 : Fs :=
  (setF 4 (callM g__law_next [some 0] (aM 0 aN)))
def t__law_plan_3 : Fs :=
  (setF 5 (Xq.callFS g__law_left (aC (vr 1) (aC (vr 2) (aC (vr 3) (aC (op2 ixTP (vr 1) (cc (.int 1))) aN))))))
def t__law_plan_4 : Fs :=
  (setF 5 (Xq.lrF (op2 ixTP (vr 1) (cc (.int 1)))))
def t__law_plan_5 : Fs :=
  (iffF (orF (tbF (op2 (eqDP false) (vr 5) (lsF [] aN))) (tbF (op2 (eqP false) (op2 modP (vr 4) (cc (.int 9))) (cc (.int 0)))))
  t__law_plan_4
  nxF)
def t__law_plan_6 : Fs :=
  (itmF 2 (op2 ixLP (vr 5) (op2 modP (op2 Xq.divP (vr 4) (cc (.int 9))) (bn lenP (aC (vr 5) aN)))) (vr 3))
def b__law_plan_1 : Fs :=
  (seqF t__law_plan_2
  (seqF t__law_plan_3
  (seqF t__law_plan_5
  t__law_plan_6)))
def l__law_plan_1 : Fs :=
  (forF (rg1 (flF (bn lenP (aC (vr 2) aN)))) (nmG 3)
  b__law_plan_1)
def t__law_plan_7 : Fs :=
  (retF (bn tupP (aC (vr 2) aN)))
def f__law_plan : Fs :=
  (seqF t__law_plan_1
  (seqF l__law_plan_1
  t__law_plan_7))
def g__law_plan : List PyData → Option (PyData × List PyData) := gDef [0] none n__law_plan 2 f__law_plan
theorem ok__law_plan (T : Txt K mg) : Gd.FnG P w K mg base CX0 3 T.f__law_plan T.fd__law_plan ["_law_draw", "_law_web_here"] (SpX K (gof []) [0] none g__law_plan) :=
  Gd.fx_okG (k := 2) T.F__law_plan sc__law_plan (fun cdv A outer s0 H E gd hr => ⟨_, (pss_cons (ps_set (i := 2) sc__law_plan.nd rfl (.inl rfl) (pe_op op_rep (pe_lst (pa_cons pe_non pa_nil)) (pe_callB call_len_seq (by rfl) T.b_len PySem.boot_len (pa_cons (pe_ix ix_tup (pv 1) pe_int (fun _ _ => rfl)) pa_nil))))
      (pss_cons (ps_for PassesOwn.never rfl (pi_range1 (by rfl) T.b_range (pa_cons (pe_callB call_len_seq (by rfl) T.b_len PySem.boot_len (pa_cons (pv 2) pa_nil)) pa_nil)) (pg_name (i := 3) sc__law_plan.nd rfl (Or.inl rfl))
        (pss_cons (ps_set (i := 4) sc__law_plan.nd rfl (.inl rfl) (Gd.pe_callG (ok__law_next T) gd hr (by rfl) T.G__law_next T.F__law_next.kp T.B__law_next .nil pass0 (pa_cons (pv 0) pa_nil)))
        (pss_cons (ps_set (i := 5) sc__law_plan.nd rfl (.inl rfl) (Gd.pe_callG (ok__law_left T) gd (hr.mono (by decide)) (by rfl) T.G__law_left T.F__law_left.kp T.B__law_left .nil pass0 (pa_cons (pv 1) (pa_cons (pv 2) (pa_cons (pv 3) (pa_cons (pe_ix ix_tup (pv 1) pe_int (fun _ _ => rfl)) pa_nil))))))
        (pss_cons (ps_if (PW.pt (pw_or (pt_cmpR (op_eqD hr.units) (pv 5) (pe_lst pa_nil) (nomark _)) (pw_or1 (pt_cmpR op_eq (pe_op op_mod (pv 4) pe_int) pe_int (nomark _)))))
          (pss_one (ps_set (i := 5) sc__law_plan.nd rfl (.inl rfl) (pe_callTy (Xq.call_list_rng rfl) (by rfl) T.b_list (by decide +kernel) (pa_cons (pe_callTy Xq.cr_range1 (by rfl) T.b_range (by decide +kernel) (pa_cons (pe_ix ix_tup (pv 1) pe_int (fun _ _ => rfl)) pa_nil)) pa_nil))))
          pss_nil)
        (pss_one (ps_asg (pe_ix ix_list (pv 5) (pe_op op_mod (pe_op op_fdivW (pv 4) pe_int) (pe_callB call_len_seq (by rfl) T.b_len PySem.boot_len (pa_cons (pv 5) pa_nil))) (fun _ _ => rfl)) (pg_sub (pv 2) (pv 3) set_list)))))))
      (pss_one (ps_ret (pe_callTy call_tuple_of (by rfl) T.b_tuple (by decide +kernel) (pa_cons (pv 2) pa_nil)))))),
  (fs_seq (fs_own (ef_op (S := []) of_rep (fEF.ev (ef_lst (S := []) (fa_cons fv_non fa_nil))) (fv_bn ok_len (fa_cons (fv_op ok_ixT fv_var fv_int) fa_nil))))
  (fs_seq (fs_for (it_rg1 (fv_flat (S := [2]) (fv_bn ok_len (fa_cons fv_see fa_nil)))) tg_name
  (fs_seq (fs_set (fv_callM (ks := [some 0]) ksOk (fc_own (i := 0) fc_nil)))
  (fs_seq (fs_set (fEF.ev (Xq.ef_callS (S := [2]) (fa_cons fv_var (fa_cons fv_see (fa_cons fv_var (fa_cons (fv_op ok_ixT fv_var fv_int) fa_nil)))))))
  (fs_seq (fs_if (ft_or (ft_test (S := []) (fv_op ok_eqD fv_var (fEF.ev (ef_lst (S := []) fa_nil)))) (ft_test (S := []) (fv_op ok_eq (fv_op ok_mod fv_var fv_int) fv_int)))
  (fs_set (fEF.ev (Xq.ef_lrng (S := []) (fv_op ok_ixT fv_var fv_int))))
  fs_next)
  (fs_item (fv_op ok_ixL fv_var (fv_op ok_mod (fv_op Xq.ok_divW fv_var fv_int) (fv_bn ok_len (fa_cons fv_var fa_nil)))) fv_var)))))
  (fs_in [0] (fs_ret (fv_bn ok_tup (fa_cons fv_var fa_nil))))))⟩)
def c__law_all_left_1 : Fx :=
  (lcF [4, 5] (Xq.enQF (vr 1)) (tpG (coG (nmG 4) (coG (nmG 5) niG))) yesT (ifV (tbF (op2 (eqP false) (op2 bandP (op2 shrP (vr 2) (vr 4)) (cc (.int 1))) (cc (.int 1)))) (vr 5) (cc .none)))
def t__law_all_left_1 : Fs :=
  (setF 3 (bn tupP (aC c__law_all_left_1 aN)))
def t__law_all_left_2 : Fs :=
  (setF 6 (op2 ixLP (lsF [] (aC (op2 ixTP (vr 0) (cc (.int 1))) (aC (cc (.int 0)) (aC (op2 modP (op2 Xq.divP (vr 2) (cc (.int 7))) (op2 addP (op2 ixTP (vr 0) (cc (.int 1))) (cc (.int 1)))) aN)))) (op2 modP (op2 addP (vr 2) (vr 4)) (cc (.int 3)))))
def c__law_all_left_2 : Fx :=
  (lcF [5] (rdF (callF g__law_left (aC (vr 0) (aC (vr 3) (aC (vr 4) (aC (vr 6) aN)))))) (nmG 5) yesT (op2 shlP (cc (.int 1)) (vr 5)))
def t__law_all_left_3 : Fs :=
  (setF 7 (bn (qI fun ns => some (.int ns.sum)) (aC c__law_all_left_2 aN)))
def t__law_all_left_4 : Fs :=
  (setF 8 (bnf [] (f1 gQ) (aC (vr 3) aN)))
def t__law_all_left_5 : Fs :=
  (setF 9 (lsF [] (aC (callF g_left_for (aC (vr 0) (aC (vr 3) (aC (vr 4) (aC (vr 6) aN))))) (aC (callF g_left_for (aC (vr 0) (aC (vr 8) (aC (vr 4) (aC (vr 6) aN))))) (aC (callF g_left_for (aC (vr 0) (aC (vr 8) (aC (vr 4) (aC (vr 6) aN))))) aN)))))
def t__law_all_left_6 : Fs :=
  (retF (cc (.bool false)))
def t__law_all_left_7 : Fs :=
  (iffF (orF (tbF (op2 (eqP true) (bn Gd.showP (aC (vr 9) aN)) (bn Gd.showP (aC (lsF [] (aC (vr 7) (aC (vr 7) (aC (vr 7) aN)))) aN)))) (tbF (op2 (eqDP true) (vr 8) (bnf [] (f1 gQ) (aC (vr 3) aN)))))
  t__law_all_left_6
  nxF)
def t__law_all_left_8 : Fs :=
  (iffF (tbF (op2 (isP false) (op2 ixTP (vr 3) (vr 4)) (cc .none)))
  (seqF t__law_all_left_2
  (seqF t__law_all_left_3
  (seqF t__law_all_left_4
  (seqF t__law_all_left_5
  t__law_all_left_7))))
  nxF)
def b__law_all_left_1 : Fs :=
  t__law_all_left_8
def l__law_all_left_1 : Fs :=
  (forF (rg1 (bn lenP (aC (vr 1) aN))) (nmG 4)
  b__law_all_left_1)
def t__law_all_left_9 : Fs :=
  (retF (cc (.bool true)))
def f__law_all_left : Fs :=
  (seqF t__law_all_left_1
  (seqF l__law_all_left_1
  t__law_all_left_9))
def g__law_all_left : List PyData → Option (PyData × List PyData) := gDef [] none n__law_all_left 3 f__law_all_left
theorem ok__law_all_left (T : Txt K mg) : Gd.FnG P w K mg base CX0 3 T.f__law_all_left T.fd__law_all_left ["_law_web_here", "_law_plan_here", "_law_number"] (SpX K (gof []) [] none g__law_all_left) :=
  Gd.fx_okG (k := 2) T.F__law_all_left sc__law_all_left (fun cdv A outer s0 H E gd hr => ⟨_, (pss_cons (ps_set (i := 3) sc__law_all_left.nd rfl (.inl rfl) (pe_callTy call_tuple_of (by rfl) T.b_tuple (by decide +kernel) (pa_cons (pe_lc (own := [("_law_i", 4), ("_law_tune", 5)]) (tt := tYes) rfl sc__law_all_left.nd (Xq.pi_enumQ (by rfl) T.b_enumerate (pa_cons (pv 1) pa_nil)) (blkOk_by (N := n__law_all_left) (sc := defScope s__law_all_left) (by decide +kernel)) (fun _ _ _ _ _ => (pg_tup rfl (pgs_cons (pg_name (i := 4) sc__law_all_left.nd rfl (Or.inl rfl)) (pgs_cons (pg_name (i := 5) sc__law_all_left.nd rfl (Or.inl rfl)) pgs_nil)))) (fun _ _ _ _ _ => pts_nil) (fun _ _ _ _ _ => (pe_ifExp (pt_cmpR op_eq (pe_op op_and (pe_op op_shr (pv 2) (pv 4)) pe_int) pe_int (nomark _)) (pv 5) pe_non))) pa_nil)))
      (pss_cons (ps_for PassesOwn.never rfl (pi_range1 (by rfl) T.b_range (pa_cons (pe_callB call_len_seq (by rfl) T.b_len PySem.boot_len (pa_cons (pv 1) pa_nil)) pa_nil)) (pg_name (i := 4) sc__law_all_left.nd rfl (Or.inl rfl))
        (pss_one (ps_if (pt_cmpR op_isN (pe_ix ix_tup (pv 3) (pv 4) (fun _ _ => rfl)) pe_non (nomark _))
          (pss_cons (ps_set (i := 6) sc__law_all_left.nd rfl (.inl rfl) (pe_ix ix_list (pe_lst (pa_cons (pe_ix ix_tup (pv 0) pe_int (fun _ _ => rfl)) (pa_cons pe_int (pa_cons (pe_op op_mod (pe_op op_fdivW (pv 2) pe_int) (pe_op op_add (pe_ix ix_tup (pv 0) pe_int (fun _ _ => rfl)) pe_int)) pa_nil)))) (pe_op op_mod (pe_op op_add (pv 2) (pv 4)) pe_int) (fun _ _ => rfl)))
          (pss_cons (ps_set (i := 7) sc__law_all_left.nd rfl (.inl rfl) (pe_callB (cr_sum rfl) (by rfl) T.b_sum (by decide +kernel) (pa_cons (pe_lc (own := [("_law_tune", 5)]) (g := gName 5) (tt := tYes) rfl sc__law_all_left.nd (pi_list (Gd.pe_callG (ok__law_left T) gd (hr.mono (by decide)) (by rfl) T.G__law_left T.F__law_left.kp T.B__law_left .nil pass0 (pa_cons (pv 0) (pa_cons (pv 3) (pa_cons (pv 4) (pa_cons (pv 6) pa_nil)))))) (blkOk_by (N := n__law_all_left) (sc := defScope s__law_all_left) (by decide +kernel)) (fun _ _ _ _ _ => pg_name (i := 5) sc__law_all_left.nd rfl (Or.inl rfl)) (fun _ _ _ _ _ => pts_nil) (fun _ _ _ _ _ => (pe_op op_shl pe_int (pv 5)))) pa_nil)))
          (pss_cons (ps_set (i := 8) sc__law_all_left.nd rfl (.inl rfl) (pe_callTy call_list_of (by rfl) T.b_list (by decide +kernel) (pa_cons (pv 3) pa_nil)))
          (pss_cons (ps_set (i := 9) sc__law_all_left.nd rfl (.inl rfl) (pe_lst (pa_cons (Gd.pe_callG (ok_left_for T) gd hr (by rfl) T.G_left_for T.F_left_for.kp T.B_left_for .nil pass0 (pa_cons (pv 0) (pa_cons (pv 3) (pa_cons (pv 4) (pa_cons (pv 6) pa_nil))))) (pa_cons (Gd.pe_callG (ok_left_for T) gd hr (by rfl) T.G_left_for T.F_left_for.kp T.B_left_for .nil pass0 (pa_cons (pv 0) (pa_cons (pv 8) (pa_cons (pv 4) (pa_cons (pv 6) pa_nil))))) (pa_cons (Gd.pe_callG (ok_left_for T) gd hr (by rfl) T.G_left_for T.F_left_for.kp T.B_left_for .nil pass0 (pa_cons (pv 0) (pa_cons (pv 8) (pa_cons (pv 4) (pa_cons (pv 6) pa_nil))))) pa_nil)))))
          (pss_one (ps_if (PW.pt (pw_or (pt_cmpR op_ne (pe_callB (Gd.call_show gd hr.units) (by rfl) T.b_repr (by decide +kernel) (pa_cons (pv 9) pa_nil)) (pe_callB (Gd.call_show gd hr.units) (by rfl) T.b_repr (by decide +kernel) (pa_cons (pe_lst (pa_cons (pv 7) (pa_cons (pv 7) (pa_cons (pv 7) pa_nil)))) pa_nil)) (nomark _)) (pw_or1 (pt_cmpR (op_neD hr.units) (pv 8) (pe_callTy call_list_of (by rfl) T.b_list (by decide +kernel) (pa_cons (pv 3) pa_nil)) (nomark _)))))
            (pss_one (ps_ret pe_bl))
            pss_nil))))))
          pss_nil)))
      (pss_one (ps_ret pe_bl)))),
  (fs_seq (fs_set (fv_bn ok_tup (fa_cons (fEF.ev (ef_lc (n := 0) (Xq.it_enumQ fv_var) (tg_tup (tg_cons tg_name (tg_cons tg_name tg_nil))) ft_yes (ef_zero (fv_if (ft_test (S := []) (fv_op ok_eq (fv_op ok_band (fv_op ok_shr fv_var fv_var) fv_int) fv_int)) fv_var fv_non)))) fa_nil)))
  (fs_seq (fs_for (it_rg1 (fv_bn ok_len (fa_cons fv_var fa_nil))) tg_name
  (fs_if (ft_test (S := []) (fv_op ok_isN (fv_op ok_ixT fv_var fv_var) fv_non))
  (fs_seq (fs_set (fv_op ok_ixL (fEF.ev (ef_lst (S := []) (fa_cons (fv_op ok_ixT fv_var fv_int) (fa_cons fv_int (fa_cons (fv_op ok_mod (fv_op Xq.ok_divW fv_var fv_int) (fv_op ok_add (fv_op ok_ixT fv_var fv_int) fv_int)) fa_nil))))) (fv_op ok_mod (fv_op ok_add fv_var fv_var) fv_int)))
  (fs_seq (fs_set (fv_bn ok_sum (fa_cons (fEF.ev (ef_lc (n := 0) (it_list (fEF.ev (ef_call (fa_cons fv_var (fa_cons fv_var (fa_cons fv_var (fa_cons fv_var fa_nil))))))) tg_name ft_yes (ef_zero (fv_op ok_shl fv_int fv_var)))) fa_nil)))
  (fs_seq (fs_set (fEF.ev (ef_bn (S := []) of_list (fa_cons fv_var fa_nil))))
  (fs_seq (fs_set (fEF.ev (ef_lst (S := []) (fa_cons (fv_call (fa_cons fv_var (fa_cons fv_var (fa_cons fv_var (fa_cons fv_var fa_nil))))) (fa_cons (fv_call (fa_cons fv_var (fa_cons fv_var (fa_cons fv_var (fa_cons fv_var fa_nil))))) (fa_cons (fv_call (fa_cons fv_var (fa_cons fv_var (fa_cons fv_var (fa_cons fv_var fa_nil))))) fa_nil))))))
  (fs_if (ft_or (ft_test (S := []) (fv_op ok_ne (fv_bn Gd.ok_show (fa_cons fv_var fa_nil)) (fv_bn Gd.ok_show (fa_cons (fEF.ev (ef_lst (S := []) (fa_cons fv_var (fa_cons fv_var (fa_cons fv_var fa_nil))))) fa_nil)))) (ft_test (S := []) (fv_op ok_neD fv_var (fEF.ev (ef_bn (S := []) of_list (fa_cons fv_var fa_nil))))))
  (fs_ret fv_bl)
  fs_next)))))
  fs_next))
  (fs_ret fv_bl)))⟩)
def b_fault_of_1 : Fs :=
  (seqF (setF 3 (callF g_fault_at (aC (vr 0) (aC (vr 1) (aC (vr 2) aN)))))
  (iffF (tbF (op2 (isP true) (vr 3) (cc .none)))
  (retF (vr 3))
  nxF))
def l_fault_of_1 : Fs :=
  (forF (rg1 (bn lenP (aC (vr 1) aN))) (nmG 2)
  b_fault_of_1)
def f_fault_of : Fs :=
  (seqF (Xq.orX (callF g_need_plan (aC (vr 0) (aC (vr 1) aN))) (callF x_need_plan (aC (vr 0) (aC (vr 1) aN))) fun x => .nx x.2)
  (seqF l_fault_of_1
  (retF (cc .none))))
def g_fault_of : List PyData → Option (PyData × List PyData) := gDef [] none n_fault_of 2 f_fault_of
def x_fault_of : List PyData → Option (PyData × List PyData) := Xq.xDef [] n_fault_of 2 f_fault_of
theorem ok_fault_of (T : Txt K mg) : Gd.FnG P w K mg base (L2.CX P w) 4 T.f_fault_of T.fd_fault_of ["web", "plan"] (Xq.SpE K (gof []) [] none g_fault_of x_fault_of) :=
  Xq.fx_okXG (k := 3) T.F_fault_of sc_fault_of (fun cdv A outer s0 H E gd hr => ⟨_, (pss_cons (ps_expr (Xq.pe_callSG (ok_need_plan T) gd hr (by rfl) T.G_need_plan T.F_need_plan.kp T.B_need_plan (fun σ => passAt (takes_of rfl rfl rfl rfl) σ) (pa_cons (pv 0) (pa_cons (pv 1) pa_nil))))
      (pss_cons (ps_for (passes_of rfl) rfl (pi_range1 (by rfl) T.b_range (pa_cons (pe_callB call_len_seq (by rfl) T.b_len PySem.boot_len (pa_cons (pv 1) pa_nil)) pa_nil)) (pg_name (i := 2) sc_fault_of.nd rfl (Or.inl rfl))
        (pss_cons (ps_set (i := 3) sc_fault_of.nd rfl (.inl rfl) (Gd.pe_callG (ok_fault_at T) gd (hr.mono (by decide)) (by rfl) T.G_fault_at T.F_fault_at.kp T.B_fault_at .nil pass0 (pa_cons (pv 0) (pa_cons (pv 1) (pa_cons (pv 2) pa_nil)))))
        (pss_one (ps_if (pt_cmpR op_notN (pv 3) pe_non (nomark _))
          (pss_one (ps_ret (pv 3)))
          pss_nil))))
      (pss_one (ps_ret pe_non)))),
  (fs_seq (Xq.fs_dropX (Xq.fx_call (fa_cons fv_var (fa_cons fv_var fa_nil))))
  (fs_seq (fs_for (it_rg1 (fv_bn ok_len (fa_cons fv_var fa_nil))) tg_name
  (fs_seq (fs_set (fv_call (fa_cons fv_var (fa_cons fv_var (fa_cons fv_var fa_nil)))))
  (fs_if (ft_test (S := []) (fv_op ok_notN fv_var fv_non))
  (fs_ret fv_var)
  fs_next)))
  (fs_ret fv_non)))⟩)
def t__law_web_1 : Fs :=
  (setF 4 (callF g__law_names (aC (callM g__law_next [some 0] (aM 0 aN)) aN)))
def t__law_web_2 : Fs :=
  (setF 5 (op2 addP (cc (.int 1)) (op2 modP (callM g__law_next [some 0] (aM 0 aN)) (vr 1))))
def t__law_web_3 : Fs :=
  (setF 6 (op2 addP (cc (.int 1)) (op2 modP (callM g__law_next [some 0] (aM 0 aN)) (vr 2))))
def t__law_web_4 : Fs :=
  (ownF 7 (lsF [] aN))
def t__law_web_5 : Fs :=
  (setF 9 (callM g__law_next [some 0] (aM 0 aN)))
def t__law_web_6 : Fs :=
  (setF 10 (op2 subP (op2 shlP (cc (.int 1)) (vr 6)) (cc (.int 1))))
def t__law_web_7 : Fs :=
  (setF 10 (op2 shlP (cc (.int 1)) (op2 modP (op2 Xq.divP (vr 9) (cc (.int 4))) (vr 6))))
def t__law_web_8 : Fs :=
  (setF 10 (op2 addP (cc (.int 1)) (op2 modP (op2 mulP (op2 Xq.divP (vr 9) (cc (.int 4))) (cc (.int 7919))) (vr 10))))
def t__law_web_9 : Fs :=
  (iffF (tbF (op2 (eqP false) (op2 modP (vr 9) (cc (.int 4))) (cc (.int 1))))
  t__law_web_8
  nxF)
def t__law_web_10 : Fs :=
  (iffF (tbF (op2 (eqP false) (op2 modP (vr 9) (cc (.int 4))) (cc (.int 0))))
  t__law_web_7
  t__law_web_9)
def t__law_web_11 : Fs :=
  (setF 10 (cc (.int 0)))
def t__law_web_12 : Fs :=
  (iffF (tbF (op2 (eqP false) (op2 modP (vr 9) (cc (.int 40))) (cc (.int 3))))
  t__law_web_11
  nxF)
def t__law_web_13 : Fs :=
  (appF 7 (vr 10))
def b__law_web_1 : Fs :=
  (seqF t__law_web_5
  (seqF t__law_web_6
  (seqF t__law_web_10
  (seqF t__law_web_12
  t__law_web_13))))
def l__law_web_1 : Fs :=
  (forF (rg1 (vr 5)) (nmG 8)
  b__law_web_1)
def c__law_web_1 : Fx :=
  (lcF [8] (rg1 (cc (.int 24))) (nmG 8) yesT (op2 catSP (cc (.str "x")) (bn strIP (aC (vr 8) aN))))
def c__law_web_2 : Fx :=
  (lcF [11] (rdF c__law_web_1) (nmG 11) (tbF (op2 (inP true) (vr 11) (vr 4))) (vr 11))
def t__law_web_14 : Fs :=
  (setF 4 (op2f [] catG (vr 4) c__law_web_2))
def t__law_web_15 : Fs :=
  (retF (tupF (aC (bn tupP (aC (slLF [] (vr 4) oN (oS (vr 5))) aN)) (aC (vr 6) (aC (callM g__law_gaps [some 0, none, none] (aM 0 (aC (vr 5) (aC (vr 3) aN)))) (aC (bn tupP (aC (vr 7) aN)) aN))))))
def f__law_web : Fs :=
  (seqF t__law_web_1
  (seqF t__law_web_2
  (seqF t__law_web_3
  (seqF t__law_web_4
  (seqF l__law_web_1
  (seqF t__law_web_14
  t__law_web_15))))))
def g__law_web : List PyData → Option (PyData × List PyData) := gDef [0] none n__law_web 4 f__law_web
theorem ok__law_web (T : Txt K mg) : Gd.FnG P w K mg base CX0 4 T.f__law_web T.fd__law_web ["_law_draw", "_law_stations", "_law_tunes", "_law_most"] (SpX K (gof []) [0] none g__law_web) :=
  Gd.fx_okG (k := 3) T.F__law_web sc__law_web (fun cdv A outer s0 H E gd hr => ⟨_, (pss_cons (ps_set (i := 4) sc__law_web.nd rfl (.inr rfl) (Gd.pe_callG (ok__law_names T) gd (hr.mono (by decide)) (by rfl) T.G__law_names T.F__law_names.kp T.B__law_names .nil pass0 (pa_cons (Gd.pe_callG (ok__law_next T) gd (hr.mono (by decide)) (by rfl) T.G__law_next T.F__law_next.kp T.B__law_next .nil pass0 (pa_cons (pv 0) pa_nil)) pa_nil)))
      (pss_cons (ps_set (i := 5) sc__law_web.nd rfl (.inl rfl) (pe_op op_add pe_int (pe_op op_mod (Gd.pe_callG (ok__law_next T) gd (hr.mono (by decide)) (by rfl) T.G__law_next T.F__law_next.kp T.B__law_next .nil pass0 (pa_cons (pv 0) pa_nil)) (pv 1))))
      (pss_cons (ps_set (i := 6) sc__law_web.nd rfl (.inl rfl) (pe_op op_add pe_int (pe_op op_mod (Gd.pe_callG (ok__law_next T) gd (hr.mono (by decide)) (by rfl) T.G__law_next T.F__law_next.kp T.B__law_next .nil pass0 (pa_cons (pv 0) pa_nil)) (pv 2))))
      (pss_cons (ps_set (i := 7) sc__law_web.nd rfl (.inl rfl) (pe_lst pa_nil))
      (pss_cons (ps_for PassesOwn.never rfl (pi_range1 (by rfl) T.b_range (pa_cons (pv 5) pa_nil)) (pg_name (i := 8) sc__law_web.nd rfl (Or.inl rfl))
        (pss_cons (ps_set (i := 9) sc__law_web.nd rfl (.inl rfl) (Gd.pe_callG (ok__law_next T) gd (hr.mono (by decide)) (by rfl) T.G__law_next T.F__law_next.kp T.B__law_next .nil pass0 (pa_cons (pv 0) pa_nil)))
        (pss_cons (ps_set (i := 10) sc__law_web.nd rfl (.inl rfl) (pe_op op_sub (pe_op op_shl pe_int (pv 6)) pe_int))
        (pss_cons (ps_if (pt_cmpR op_eq (pe_op op_mod (pv 9) pe_int) pe_int (nomark _))
          (pss_one (ps_set (i := 10) sc__law_web.nd rfl (.inl rfl) (pe_op op_shl pe_int (pe_op op_mod (pe_op op_fdivW (pv 9) pe_int) (pv 6)))))
          (pss_one (ps_if (pt_cmpR op_eq (pe_op op_mod (pv 9) pe_int) pe_int (nomark _))
            (pss_one (ps_set (i := 10) sc__law_web.nd rfl (.inl rfl) (pe_op op_add pe_int (pe_op op_mod (pe_op op_mul (pe_op op_fdivW (pv 9) pe_int) pe_int) (pv 10)))))
            pss_nil)))
        (pss_cons (ps_if (pt_cmpR op_eq (pe_op op_mod (pv 9) pe_int) pe_int (nomark _))
          (pss_one (ps_set (i := 10) sc__law_web.nd rfl (.inl rfl) pe_int))
          pss_nil)
        (pss_one (ps_expr (pe_bm PySem.F.plainAttrs_list PySem.F.slot_list_append PySem.F.type_list_append mt_append (pv 7) (pa_cons (pv 10) pa_nil)))))))))
      (pss_cons (ps_set (i := 4) sc__law_web.nd rfl (.inr rfl) (pe_op op_cat (pv 4) (pe_lc (own := [("_law_one", 11)]) (g := gName 11) rfl sc__law_web.nd (pi_list (pe_lc (own := [("_law_k", 8)]) (g := gName 8) (tt := tYes) rfl sc__law_web.nd (pi_range1 (by rfl) T.b_range (pa_cons pe_int pa_nil)) (blkOk_by (N := n__law_web) (sc := defScope s__law_web) (by decide +kernel)) (fun _ _ _ _ _ => pg_name (i := 8) sc__law_web.nd rfl (Or.inl rfl)) (fun _ _ _ _ _ => pts_nil) (fun _ _ _ _ _ => (pe_op op_add_str pe_str (pe_callTy call_str_int (by rfl) T.b_str (by decide +kernel) (pa_cons (pv 8) pa_nil)))))) (blkOk_by (N := n__law_web) (sc := defScope s__law_web) (by decide +kernel)) (fun _ _ _ _ _ => pg_name (i := 11) sc__law_web.nd rfl (Or.inl rfl)) (fun _ _ _ _ _ => pts_one (pt_cmpR op_notIn_seq (pv 11) (pv 4) (by with_unfolding_all rfl))) (fun _ _ _ _ _ => (pv 11)))))
      (pss_one (ps_ret (pe_tup (pa_cons (pe_callTy call_tuple_of (by rfl) T.b_tuple (by decide +kernel) (pa_cons (pe_slice sl_list (pv 4) po_none (po_some (pv 5))) pa_nil)) (pa_cons (pv 6) (pa_cons (Gd.pe_callG (ok__law_gaps T) gd hr (by rfl) T.G__law_gaps T.F__law_gaps.kp T.B__law_gaps .nil pass0 (pa_cons (pv 0) (pa_cons (pv 5) (pa_cons (pv 3) pa_nil)))) (pa_cons (pe_callTy call_tuple_of (by rfl) T.b_tuple (by decide +kernel) (pa_cons (pv 7) pa_nil)) pa_nil))))))))))))),
  (fs_seq (fs_set (fv_call (fa_cons (fv_callM (ks := [some 0]) ksOk (fc_own (i := 0) fc_nil)) fa_nil)))
  (fs_seq (fs_set (fv_op ok_add fv_int (fv_op ok_mod (fv_callM (ks := [some 0]) ksOk (fc_own (i := 0) fc_nil)) fv_var)))
  (fs_seq (fs_set (fv_op ok_add fv_int (fv_op ok_mod (fv_callM (ks := [some 0]) ksOk (fc_own (i := 0) fc_nil)) fv_var)))
  (fs_seq (fs_own (ef_lst (S := []) fa_nil))
  (fs_seq (fs_for (it_rg1 fv_var) tg_name
  (fs_seq (fs_set (fv_callM (ks := [some 0]) ksOk (fc_own (i := 0) fc_nil)))
  (fs_seq (fs_set (fv_op ok_sub (fv_op ok_shl fv_int fv_var) fv_int))
  (fs_seq (fs_if (ft_test (S := []) (fv_op ok_eq (fv_op ok_mod fv_var fv_int) fv_int))
  (fs_set (fv_op ok_shl fv_int (fv_op ok_mod (fv_op Xq.ok_divW fv_var fv_int) fv_var)))
  (fs_if (ft_test (S := []) (fv_op ok_eq (fv_op ok_mod fv_var fv_int) fv_int))
  (fs_set (fv_op ok_add fv_int (fv_op ok_mod (fv_op ok_mul (fv_op Xq.ok_divW fv_var fv_int) fv_int) fv_var)))
  fs_next))
  (fs_seq (fs_if (ft_test (S := []) (fv_op ok_eq (fv_op ok_mod fv_var fv_int) fv_int))
  (fs_set fv_int)
  fs_next)
  (fs_app fv_var))))))
  (fs_seq (fs_set (fEF.ev (ef_op (S := []) of_cat fv_var (fEF.ev (ef_lc (n := 0) (it_list (fEF.ev (ef_lc (n := 0) (it_rg1 fv_int) tg_name ft_yes (ef_zero (fv_op ok_cat fv_str (fv_bn ok_strI (fa_cons fv_var fa_nil))))))) tg_name (ft_test (S := []) (fv_op ok_in fv_var fv_var)) (ef_zero fv_var))))))
  (fs_in [0] (fs_ret (fv_tup (fa_cons (fv_bn ok_tup (fa_cons (fEF.ev (ef_sl (S := []) fv_var fo_none (fo_some (S := []) fv_var))) fa_nil)) (fa_cons fv_var (fa_cons (fv_callM (ks := [some 0, none, none]) ksOk (fc_own (i := 0) (fc_val fv_var (fc_val fv_var fc_nil)))) (fa_cons (fv_bn ok_tup (fa_cons fv_var fa_nil)) fa_nil)))))))))))))⟩)
def t__law_refused_1 : Fs :=
  (setF 3 (cc .none))
def t__law_refused_2 : Fs :=
  (Xq.orX (callF g_need_plan (aC (vr 0) (aC (vr 1) aN))) (callF x_need_plan (aC (vr 0) (aC (vr 1) aN))) fun x => .nx x.2)
def t__law_refused_3 : Fs :=
  (Xq.orX (callF g_fault_of (aC (vr 0) (aC (vr 1) aN))) (callF x_fault_of (aC (vr 0) (aC (vr 1) aN))) fun x => .nx x.2)
def t__law_refused_4 : Fs :=
  (iffF (tbF (op2 (eqP false) (vr 2) (cc (.int 0))))
  t__law_refused_2
  t__law_refused_3)
def t__law_refused_5 : Fs :=
  (setF 3 (vr 4))
def t__law_refused_6 : Fs :=
  (Xq.tryF ["BadPlan"] 4
  t__law_refused_4
  t__law_refused_5)
def t__law_refused_7 : Fs :=
  (setF 5 (lsF [] (aC (Xq.isXF [("BadPlan", false)] (vr 3)) (aC (Xq.isXF [("BadPlan", false)] (vr 3)) (aC (Xq.isXF [("BadPlan", false)] (vr 3)) aN)))))
def t__law_refused_8 : Fs :=
  (setF 5 (op2f [] catG (vr 5) (lsF [] (aC (Xq.isXF [("BadPlan", false)] (vr 3)) (aC (Xq.isXF [("BadPlan", false)] (vr 3)) (aC (Xq.isXF [("BadPlan", false)] (vr 3)) aN))))))
def t__law_refused_9 : Fs :=
  (setF 5 (op2f [] catG (vr 5) (lsF [] (aC (Xq.isXF [("BadPlan", false)] (vr 3)) (aC (Xq.isXF [("BadPlan", false)] (vr 3)) (aC (Xq.isXF [("BadPlan", false)] (vr 3)) aN))))))
def t__law_refused_10 : Fs :=
  (retF (andV (Xq.isXF [("BadPlan", true)] (vr 3)) (andV (Xq.isXF [("BadPlan", true)] (vr 3)) (op2 (inP true) (cc (.bool true)) (vr 5)))))
def f__law_refused : Fs :=
  (seqF t__law_refused_1
  (seqF t__law_refused_6
  (seqF t__law_refused_7
  (seqF t__law_refused_8
  (seqF t__law_refused_9
  t__law_refused_10)))))
def g__law_refused : List PyData → Option (PyData × List PyData) := gDef [] none n__law_refused 3 f__law_refused
theorem ok__law_refused (T : Txt K mg) : Gd.FnG P w K mg base CX0 5 T.f__law_refused T.fd__law_refused ["_law_web_here", "_law_thing", "_law_which"] (SpX K (gof []) [] none g__law_refused) :=
  Gd.fx_okG (k := 4) T.F__law_refused sc__law_refused (fun cdv A outer s0 H E gd hr => ⟨_, (pss_cons (ps_set (i := 3) sc__law_refused.nd rfl (.inl rfl) pe_non)
      (pss_cons (Xq.ps_tryK (i := 4) rfl rfl rfl sc__law_refused.nd rfl rfl ⟨rfl, by decide, .inl T.gc_TuneError⟩ takes0 (fun W pn xe tk po =>
        (pss_one (ps_if (pt_cmpR op_eq (pv 2) pe_int (nomark _))
          (pss_one (ps_expr (Xq.pe_callSG (ok_need_plan T) gd (hr.mono (by decide)) (by rfl) T.G_need_plan T.F_need_plan.kp T.B_need_plan (fun σ => passAt tk σ) (pa_cons (pv 0) (pa_cons (pv 1) pa_nil)))))
          (pss_one (ps_expr (Xq.pe_callSG (ok_fault_of T) gd hr (by rfl) T.G_fault_of T.F_fault_of.kp T.B_fault_of (fun σ => passAt tk σ) (pa_cons (pv 0) (pa_cons (pv 1) pa_nil)))))))) (fun a pn =>
        (pss_one (ps_set (i := 3) sc__law_refused.nd rfl (.inl rfl) (pv 4)))))
      (pss_cons (ps_set (i := 5) sc__law_refused.nd rfl (.inl rfl) (pe_lst (pa_cons (pe_callB Xq.call_isX (by rfl) T.b_isinstance (by decide +kernel) (pa_cons (pv 3) (pa_cons (pe_glob (v := .ref T.c_BadLine) (by rfl) T.gc_BadLine rfl) pa_nil))) (pa_cons (pe_callB Xq.call_isX (by rfl) T.b_isinstance (by decide +kernel) (pa_cons (pv 3) (pa_cons (pe_glob (v := .ref T.c_BadNumber) (by rfl) T.gc_BadNumber rfl) pa_nil))) (pa_cons (pe_callB Xq.call_isX (by rfl) T.b_isinstance (by decide +kernel) (pa_cons (pv 3) (pa_cons (pe_glob (v := .ref T.c_BadShown) (by rfl) T.gc_BadShown rfl) pa_nil))) pa_nil)))))
      (pss_cons (ps_set (i := 5) sc__law_refused.nd rfl (.inl rfl) (pe_op op_cat (pv 5) (pe_lst (pa_cons (pe_callB Xq.call_isX (by rfl) T.b_isinstance (by decide +kernel) (pa_cons (pv 3) (pa_cons (pe_glob (v := .ref T.c_BadText) (by rfl) T.gc_BadText rfl) pa_nil))) (pa_cons (pe_callB Xq.call_isX (by rfl) T.b_isinstance (by decide +kernel) (pa_cons (pv 3) (pa_cons (pe_glob (v := .ref T.c_BadWeb) (by rfl) T.gc_BadWeb rfl) pa_nil))) (pa_cons (pe_callB Xq.call_isX (by rfl) T.b_isinstance (by decide +kernel) (pa_cons (pv 3) (pa_cons (pe_glob (v := .ref T.c_Lacking) (by rfl) T.gc_Lacking rfl) pa_nil))) pa_nil))))))
      (pss_cons (ps_set (i := 5) sc__law_refused.nd rfl (.inl rfl) (pe_op op_cat (pv 5) (pe_lst (pa_cons (pe_callB Xq.call_isX (by rfl) T.b_isinstance (by decide +kernel) (pa_cons (pv 3) (pa_cons (pe_glob (v := .ref T.c_NoPlan) (by rfl) T.gc_NoPlan rfl) pa_nil))) (pa_cons (pe_callB Xq.call_isX (by rfl) T.b_isinstance (by decide +kernel) (pa_cons (pv 3) (pa_cons (pe_glob (v := .ref T.c_TooMany) (by rfl) T.gc_TooMany rfl) pa_nil))) (pa_cons (pe_callB Xq.call_isX (by rfl) T.b_isinstance (by decide +kernel) (pa_cons (pv 3) (pa_cons (pe_glob (v := .ref T.c_Twice) (by rfl) T.gc_Twice rfl) pa_nil))) pa_nil))))))
      (pss_one (ps_ret (pe_and (pe_callB Xq.call_isX (by rfl) T.b_isinstance (by decide +kernel) (pa_cons (pv 3) (pa_cons (pe_glob (v := .ref T.c_BadPlan) (by rfl) T.gc_BadPlan rfl) pa_nil))) (pe_and (pe_callB Xq.call_isX (by rfl) T.b_isinstance (by decide +kernel) (pa_cons (pv 3) (pa_cons (pe_bltn (v := .ty "ValueError") (by rfl) T.b_ValueError (by decide +kernel) rfl) pa_nil))) (pe_one (pe_cmpR op_notIn_seq pe_bl (pv 5) (by with_unfolding_all rfl)))))))))))),
  (fs_seq (fs_set fv_non)
  (fs_seq (Xq.fs_try (c0 := .ref T.c_TuneError) (L := ["BadPlan"]) (Xq.em1 T.nc_BadPlan T.em_BadPlan_TuneError) (fun W2 => (fs_if (ft_test (S := []) (fv_op ok_eq fv_var fv_int))
  (Xq.fs_dropX (Xq.fx_call (fa_cons fv_var (fa_cons fv_var fa_nil))))
  (Xq.fs_dropX (Xq.fx_call (fa_cons fv_var (fa_cons fv_var fa_nil)))))) (fun a => (fs_set fv_var)))
  (fs_seq (fs_set (fEF.ev (ef_lst (S := []) (fa_cons (Xq.fv_isX (tab := [("BadPlan", false)]) (.own T.c_BadLine) (Xq.ix1 T.nc_BadPlan T.ec_BadPlan T.kt_BadPlan_BadLine) fv_var) (fa_cons (Xq.fv_isX (tab := [("BadPlan", false)]) (.own T.c_BadNumber) (Xq.ix1 T.nc_BadPlan T.ec_BadPlan T.kt_BadPlan_BadNumber) fv_var) (fa_cons (Xq.fv_isX (tab := [("BadPlan", false)]) (.own T.c_BadShown) (Xq.ix1 T.nc_BadPlan T.ec_BadPlan T.kt_BadPlan_BadShown) fv_var) fa_nil))))))
  (fs_seq (fs_set (fEF.ev (ef_op (S := []) of_cat fv_var (fEF.ev (ef_lst (S := []) (fa_cons (Xq.fv_isX (tab := [("BadPlan", false)]) (.own T.c_BadText) (Xq.ix1 T.nc_BadPlan T.ec_BadPlan T.kt_BadPlan_BadText) fv_var) (fa_cons (Xq.fv_isX (tab := [("BadPlan", false)]) (.own T.c_BadWeb) (Xq.ix1 T.nc_BadPlan T.ec_BadPlan T.kt_BadPlan_BadWeb) fv_var) (fa_cons (Xq.fv_isX (tab := [("BadPlan", false)]) (.own T.c_Lacking) (Xq.ix1 T.nc_BadPlan T.ec_BadPlan T.kt_BadPlan_Lacking) fv_var) fa_nil))))))))
  (fs_seq (fs_set (fEF.ev (ef_op (S := []) of_cat fv_var (fEF.ev (ef_lst (S := []) (fa_cons (Xq.fv_isX (tab := [("BadPlan", false)]) (.own T.c_NoPlan) (Xq.ix1 T.nc_BadPlan T.ec_BadPlan T.kt_BadPlan_NoPlan) fv_var) (fa_cons (Xq.fv_isX (tab := [("BadPlan", false)]) (.own T.c_TooMany) (Xq.ix1 T.nc_BadPlan T.ec_BadPlan T.kt_BadPlan_TooMany) fv_var) (fa_cons (Xq.fv_isX (tab := [("BadPlan", false)]) (.own T.c_Twice) (Xq.ix1 T.nc_BadPlan T.ec_BadPlan T.kt_BadPlan_Twice) fv_var) fa_nil))))))))
  (fs_ret (fv_and (Xq.fv_isX (tab := [("BadPlan", true)]) (.own T.c_BadPlan) (Xq.ix1 T.nc_BadPlan T.ec_BadPlan T.kt_BadPlan_BadPlan) fv_var) (fv_and (Xq.fv_isX (tab := [("BadPlan", true)]) (.ty "ValueError") (Xq.ix1 T.nc_BadPlan T.ec_BadPlan T.kt_BadPlan_ValueError) fv_var) (fv_op ok_in fv_bl fv_var)))))))))⟩)
def t_law_1 : Fs :=
  (ownF 1 (lsF [] (aC (vr 0) (aC (cc (.int 0)) aN))))
def t_law_2 : Fs :=
  (setF 2 (callM g__law_web [some 1, none, none, none] (aM 1 (aC (op2 ixLP (lsF [] (aC (cc (.int 14)) (aC (cc (.int 14)) (aC (cc (.int 14)) (aC (cc (.int 24)) aN))))) (op2 modP (callF g__law_cell (aC (vr 0) (aC (cc (.int 60)) aN))) (cc (.int 4)))) (aC (cc (.int 60)) (aC (cc (.int 5)) aN))))))
def t_law_3 : Fs :=
  (setF 3 (bn Gd.showP (aC (vr 2) aN)))
def t_law_4 : Fs :=
  (setF 5 (callM g__law_plan [some 1, none] (aM 1 (aC (vr 2) aN))))
def t_law_5 : Fs :=
  (setF 6 (callF g__law_mixed (aC (op2 modP (vr 4) (cc (.int 2147483647))) (aC (cc (.int 3)) aN))))
def t_law_6 : Fs :=
  (setF 7 (op2 catTP (op2 catTP (slTF (vr 5) oN (oS (op2 modP (vr 6) (bn lenP (aC (vr 5) aN))))) (tupF (aC (op2 modP (op2 Xq.divP (vr 6) (cc (.int 16))) (op2 ixTP (vr 2) (cc (.int 1)))) aN))) (slTF (vr 5) (oS (op2 addP (op2 modP (vr 6) (bn lenP (aC (vr 5) aN))) (cc (.int 1)))) oN)))
def t_law_7 : Fs :=
  (retF (cc (.bool false)))
def t_law_8 : Fs :=
  (iffF (orF (tbF (op2 (eqP true) (bn Xq.showAP (aC (callF g_fault_of (aC (vr 2) (aC (vr 8) aN))) aN)) (bn Xq.showAP (aC (callF g__law_fault (aC (vr 2) (aC (vr 8) aN))) aN)))) (tbF (op2 (isP true) (callF g_need_plan (aC (vr 2) (aC (vr 8) aN))) (cc .none))))
  t_law_7
  nxF)
def b_law_1 : Fs :=
  t_law_8
def l_law_1 : Fs :=
  (forF (tuF (tupF (aC (vr 5) (aC (vr 7) aN)))) (nmG 8)
  b_law_1)
def t_law_9 : Fs :=
  (setF 9 (callF g__law_no_plan (aC (vr 2) (aC (vr 5) (aC (op2 Xq.divP (vr 6) (cc (.int 16))) aN)))))
def t_law_10 : Fs :=
  (retF (cc (.bool false)))
def t_law_11 : Fs :=
  (iffF (orF (notF (tbF (callF g__law_refused (aC (vr 2) (aC (vr 9) (aC (cc (.int 0)) aN)))))) (notF (tbF (callF g__law_refused (aC (vr 2) (aC (vr 9) (aC (cc (.int 1)) aN)))))))
  t_law_10
  nxF)
def t_law_12 : Fs :=
  (retF (cc (.bool false)))
def t_law_13 : Fs :=
  (iffF (notF (tbF (callF g__law_all_left (aC (vr 2) (aC (vr 5) (aC (vr 6) aN))))))
  t_law_12
  nxF)
def b_law_2 : Fs :=
  (seqF t_law_4
  (seqF t_law_5
  (seqF t_law_6
  (seqF l_law_1
  (seqF t_law_9
  (seqF t_law_11
  t_law_13))))))
def l_law_2 : Fs :=
  (forF (rdF (op2f [] catG (slLF [] (vr 0) oN (oS (cc (.int 12)))) (lsF [] (aC (cc (.int 8)) aN)))) (nmG 4)
  b_law_2)
def t_law_14 : Fs :=
  (retF (op2 (eqP false) (bn Gd.showP (aC (vr 2) aN)) (vr 3)))
def f_law : Fs :=
  (seqF t_law_1
  (seqF t_law_2
  (seqF t_law_3
  (seqF l_law_2
  t_law_14))))
def g_law : List PyData → Option (PyData × List PyData) := gDef [] none n_law 1 f_law
theorem ok_law (T : Txt K mg) : Gd.FnG P w K mg base CX0 6 T.f_law T.fd_law ["_law_script"] (SpX K (gof []) [] none g_law) :=
  Gd.fx_okG (k := 5) T.F_law sc_law (fun cdv A outer s0 H E gd hr => ⟨_, (pss_cons (ps_set (i := 1) sc_law.nd rfl (.inl rfl) (pe_lst (pa_cons (pv 0) (pa_cons pe_int pa_nil))))
      (pss_cons (ps_set (i := 2) sc_law.nd rfl (.inl rfl) (Gd.pe_callG (ok__law_web T) gd (hr.mono (by decide)) (by rfl) T.G__law_web T.F__law_web.kp T.B__law_web .nil pass0 (pa_cons (pv 1) (pa_cons (pe_ix ix_list (pe_lst (pa_cons pe_int (pa_cons pe_int (pa_cons pe_int (pa_cons pe_int pa_nil))))) (pe_op op_mod (Gd.pe_callG (ok__law_cell T) gd (hr.mono (by decide)) (by rfl) T.G__law_cell T.F__law_cell.kp T.B__law_cell .nil pass0 (pa_cons (pv 0) (pa_cons pe_int pa_nil))) pe_int) (fun _ _ => rfl)) (pa_cons pe_int (pa_cons pe_int pa_nil))))))
      (pss_cons (ps_set (i := 3) sc_law.nd rfl (.inl rfl) (pe_callB (Gd.call_show gd hr.units) (by rfl) T.b_repr (by decide +kernel) (pa_cons (pv 2) pa_nil)))
      (pss_cons (ps_for PassesOwn.never rfl (pi_list (pe_op op_cat (pe_slice sl_list (pv 0) po_none (po_some pe_int)) (pe_lst (pa_cons pe_int pa_nil)))) (pg_name (i := 4) sc_law.nd rfl (Or.inl rfl))
        (pss_cons (ps_set (i := 5) sc_law.nd rfl (.inl rfl) (Gd.pe_callG (ok__law_plan T) gd (hr.mono (by decide)) (by rfl) T.G__law_plan T.F__law_plan.kp T.B__law_plan .nil pass0 (pa_cons (pv 1) (pa_cons (pv 2) pa_nil))))
        (pss_cons (ps_set (i := 6) sc_law.nd rfl (.inl rfl) (Gd.pe_callG (ok__law_mixed T) gd (hr.mono (by decide)) (by rfl) T.G__law_mixed T.F__law_mixed.kp T.B__law_mixed .nil pass0 (pa_cons (pe_op op_mod (pv 4) pe_int) (pa_cons pe_int pa_nil))))
        (pss_cons (ps_set (i := 7) sc_law.nd rfl (.inl rfl) (pe_op op_catA (pe_op op_catA (pe_slice sl_tupA (pv 5) po_none (po_some (pe_op op_mod (pv 6) (pe_callB call_len_seq (by rfl) T.b_len PySem.boot_len (pa_cons (pv 5) pa_nil))))) (pe_tup (pa_cons (pe_op op_mod (pe_op op_fdivW (pv 6) pe_int) (pe_ix ix_tup (pv 2) pe_int (fun _ _ => rfl))) pa_nil))) (pe_slice sl_tupA (pv 5) (po_some (pe_op op_add (pe_op op_mod (pv 6) (pe_callB call_len_seq (by rfl) T.b_len PySem.boot_len (pa_cons (pv 5) pa_nil))) pe_int)) po_none)))
        (pss_cons (ps_for PassesOwn.never rfl (pi_tup (pe_tup (pa_cons (pv 5) (pa_cons (pv 7) pa_nil)))) (pg_name (i := 8) sc_law.nd rfl (Or.inl rfl))
          (pss_one (ps_if (PW.pt (pw_or (pt_cmpR op_ne (pe_callB (Xq.call_showA gd hr.units) (by rfl) T.b_repr (by decide +kernel) (pa_cons (Gd.pe_callG (ok_fault_of T) gd (hr.mono (by decide)) (by rfl) T.G_fault_of T.F_fault_of.kp T.B_fault_of .nil passL (pa_cons (pv 2) (pa_cons (pv 8) pa_nil))) pa_nil)) (pe_callB (Xq.call_showA gd hr.units) (by rfl) T.b_repr (by decide +kernel) (pa_cons (Gd.pe_callG (ok__law_fault T) gd (hr.mono (by decide)) (by rfl) T.G__law_fault T.F__law_fault.kp T.B__law_fault .nil pass0 (pa_cons (pv 2) (pa_cons (pv 8) pa_nil))) pa_nil)) (nomark _)) (pw_or1 (pt_cmpR op_notN (Gd.pe_callG (ok_need_plan T) gd (hr.mono (by decide)) (by rfl) T.G_need_plan T.F_need_plan.kp T.B_need_plan .nil passL (pa_cons (pv 2) (pa_cons (pv 8) pa_nil))) pe_non (nomark _)))))
            (pss_one (ps_ret pe_bl))
            pss_nil)))
        (pss_cons (ps_set (i := 9) sc_law.nd rfl (.inl rfl) (Gd.pe_callG (ok__law_no_plan T) gd (hr.mono (by decide)) (by rfl) T.G__law_no_plan T.F__law_no_plan.kp T.B__law_no_plan .nil pass0 (pa_cons (pv 2) (pa_cons (pv 5) (pa_cons (pe_op op_fdivW (pv 6) pe_int) pa_nil)))))
        (pss_cons (ps_if (PW.pt (pw_or (pt_not (pt_val (Gd.pe_callG (ok__law_refused T) gd hr (by rfl) T.G__law_refused T.F__law_refused.kp T.B__law_refused .nil pass0 (pa_cons (pv 2) (pa_cons (pv 9) (pa_cons pe_int pa_nil)))))) (pw_or1 (pt_not (pt_val (Gd.pe_callG (ok__law_refused T) gd hr (by rfl) T.G__law_refused T.F__law_refused.kp T.B__law_refused .nil pass0 (pa_cons (pv 2) (pa_cons (pv 9) (pa_cons pe_int pa_nil)))))))))
          (pss_one (ps_ret pe_bl))
          pss_nil)
        (pss_one (ps_if (pt_not (pt_val (Gd.pe_callG (ok__law_all_left T) gd (hr.mono (by decide)) (by rfl) T.G__law_all_left T.F__law_all_left.kp T.B__law_all_left .nil pass0 (pa_cons (pv 2) (pa_cons (pv 5) (pa_cons (pv 6) pa_nil))))))
          (pss_one (ps_ret pe_bl))
          pss_nil)))))))))
      (pss_one (ps_ret (pe_cmpR op_eq (pe_callB (Gd.call_show gd hr.units) (by rfl) T.b_repr (by decide +kernel) (pa_cons (pv 2) pa_nil)) (pv 3) (nomark _)))))))),
  (fs_seq (fs_own (ef_lst (S := []) (fa_cons fv_var (fa_cons fv_int fa_nil))))
  (fs_seq (fs_set (fv_callM (ks := [some 1, none, none, none]) ksOk (fc_own (i := 1) (fc_val (fv_op ok_ixL (fEF.ev (ef_lst (S := []) (fa_cons fv_int (fa_cons fv_int (fa_cons fv_int (fa_cons fv_int fa_nil)))))) (fv_op ok_mod (fv_call (fa_cons fv_var (fa_cons fv_int fa_nil))) fv_int)) (fc_val fv_int (fc_val fv_int fc_nil))))))
  (fs_seq (fs_set (fv_bn Gd.ok_show (fa_cons fv_var fa_nil)))
  (fs_seq (fs_for (it_list (fEF.ev (ef_op (S := []) of_cat (fEF.ev (ef_sl (S := []) fv_var fo_none (fo_some (S := []) fv_int))) (fEF.ev (ef_lst (S := []) (fa_cons fv_int fa_nil)))))) tg_name
  (fs_seq (fs_set (fv_callM (ks := [some 1, none]) ksOk (fc_own (i := 1) (fc_val fv_var fc_nil))))
  (fs_seq (fs_set (fv_call (fa_cons (fv_op ok_mod fv_var fv_int) (fa_cons fv_int fa_nil))))
  (fs_seq (fs_set (fv_op ok_catT (fv_op ok_catT (fv_slT fv_var fo_none (fo_some (S := []) (fv_op ok_mod fv_var (fv_bn ok_len (fa_cons fv_var fa_nil))))) (fv_tup (fa_cons (fv_op ok_mod (fv_op Xq.ok_divW fv_var fv_int) (fv_op ok_ixT fv_var fv_int)) fa_nil))) (fv_slT fv_var (fo_some (S := []) (fv_op ok_add (fv_op ok_mod fv_var (fv_bn ok_len (fa_cons fv_var fa_nil))) fv_int)) fo_none)))
  (fs_seq (fs_for (it_tup (fv_tup (fa_cons fv_var (fa_cons fv_var fa_nil)))) tg_name
  (fs_if (ft_or (ft_test (S := []) (fv_op ok_ne (fv_bn Xq.ok_showA (fa_cons (Xq.fv_callE (fa_cons fv_var (fa_cons fv_var fa_nil))) fa_nil)) (fv_bn Xq.ok_showA (fa_cons (fv_call (fa_cons fv_var (fa_cons fv_var fa_nil))) fa_nil)))) (ft_test (S := []) (fv_op ok_notN (Xq.fv_callE (fa_cons fv_var (fa_cons fv_var fa_nil))) fv_non)))
  (fs_in [] (fs_ret fv_bl))
  fs_next))
  (fs_seq (fs_set (fv_call (fa_cons fv_var (fa_cons fv_var (fa_cons (fv_op Xq.ok_divW fv_var fv_int) fa_nil)))))
  (fs_seq (fs_if (ft_or (ft_not (ft_test (S := []) (fv_call (fa_cons fv_var (fa_cons fv_var (fa_cons fv_int fa_nil)))))) (ft_not (ft_test (S := []) (fv_call (fa_cons fv_var (fa_cons fv_var (fa_cons fv_int fa_nil)))))))
  (fs_in [] (fs_ret fv_bl))
  fs_next)
  (fs_if (ft_not (ft_test (S := []) (fv_call (fa_cons fv_var (fa_cons fv_var (fa_cons fv_var fa_nil))))))
  (fs_in [] (fs_ret fv_bl))
  fs_next))))))))
  (fs_in [] (fs_ret (fv_op ok_eq (fv_bn Gd.ok_show (fa_cons fv_var fa_nil)) fv_var)))))))⟩)
end K11

namespace Sv
open PySem PySem.Spec PyProof.Rows L2 Pre Dv
/-- a comprehension whose items keep Q, around which nothing changes -/
theorem lcL_ex {vs : List Nat} {Gg : Fg} {F : Fx} {env : Env} (Q : PyData → Prop) : ∀ ds : List PyData, (∀ d ∈ ds, ∃ e1 x e3, Gg d env = some e1 ∧ F e1 = some (x, e3) ∧ Q x ∧ wipeE e3 vs = env) →
    ∃ es, lcL vs Gg yesT F ds env = some (es, env) ∧ es.length = ds.length ∧ ∀ x ∈ es, Q x
  | [], _ => ⟨[], rfl, rfl, fun _ z => nomatch z⟩
  | d :: ds, h => by
    obtain ⟨e1, x, e3, h1, h2, h3, h4⟩ := h d List.mem_cons_self
    obtain ⟨es, h5, h6, h7⟩ := lcL_ex Q ds fun x hx => h x (List.mem_cons_of_mem _ hx)
    refine ⟨x :: es, ?_, by simp [h6], fun y hy => ?_⟩
    · unfold lcL
      rw [h1, Option.bind_some]
      show (some (true, e1)).bind _ = _
      rw [Option.bind_some, if_pos rfl, h2, Option.bind_some, h4, h5]
      rfl
    · rcases List.mem_cons.mp hy with e | hy
      · rw [e]; exact h3
      · exact h7 y hy
/-- .. exactly, by a function of the item -/
theorem lcL_fn {vs : List Nat} {Gg : Fg} {F : Fx} {env : Env} (g : PyData → PyData) (ds : List PyData) (h : ∀ d ∈ ds, ∃ e1 e3, Gg d env = some e1 ∧ F e1 = some (g d, e3) ∧ wipeE e3 vs = env) : lcL vs Gg yesT F ds env = some (ds.map g, env) := by
  have := lcL_map (vs := vs) (Gg := Gg) (T := yesT) (F := F) (env := env) (fun _ => true) g ds fun d hd => by
    obtain ⟨e1, e3, h1, h2, h3⟩ := h d hd
    exact ⟨e1, e1, h1, rfl, fun z => by simp at z, fun _ => ⟨e3, h2, h3⟩⟩
  rw [this, List.filter_eq_self.mpr (fun _ _ => rfl)]
theorem rngD_mem {n : Nat} {d : PyData} (h : d ∈ rngD 0 n) : ∃ k : Nat, k < n ∧ d = .int (k : Int) := by
  unfold rngD at h
  obtain ⟨k, hk, rfl⟩ := List.mem_map.mp h
  exact ⟨k, List.mem_range.mp hk, by simp⟩
theorem rngD_length {lo : Int} {n : Nat} : (rngD lo n).length = n := by simp [rngD]
section
variable {α : Type} {a b c d e f g h : α} {r : List α}
theorem atI_of {xs : List α} {i : Nat} {x : α} (h : xs[i]? = some x) : atI xs (i : Int) = some x := by
  have h1 := (List.getElem?_eq_some_iff.mp h).1
  unfold atI ixN
  rw [if_pos (by omega), if_pos (by omega)]
  simpa using h
theorem atI_0 : atI (a :: r) 0 = some a := atI_of (i := 0) rfl
theorem atI_1 : atI (a :: b :: r) 1 = some b := atI_of (i := 1) rfl
theorem atI_2 : atI (a :: b :: c :: r) 2 = some c := atI_of (i := 2) rfl
theorem atI_3 : atI (a :: b :: c :: d :: r) 3 = some d := atI_of (i := 3) rfl
end
theorem gJ_list (ds : List PyData) : Xq.gJ (.list ds) = some (true, ds) := rfl
theorem gJ_tuple (ds : List PyData) : Xq.gJ (.tuple ds) = some (false, ds) := rfl
theorem isN_none : Dv.isNone .none = true := rfl
theorem isN_int (i : Int) : Dv.isNone (.int i) = false := rfl
theorem isN_str (i : Str) : Dv.isNone (.str i) = false := rfl
theorem isN_bool (i : Bool) : Dv.isNone (.bool i) = false := rfl
theorem isN_list (i : List PyData) : Dv.isNone (.list i) = false := rfl
theorem isN_tuple (i : List PyData) : Dv.isNone (.tuple i) = false := rfl
end Sv
namespace K11
open PySem PySem.Spec PyProof.Rows L2 Pre Dv Sv
theorem k_ii : kitB "int" "int" = some true := by decide +kernel
theorem k_ib : kitB "int" "bool" = some false := by decide +kernel
theorem k_bi : kitB "bool" "int" = some true := by decide +kernel
theorem k_bb : kitB "bool" "bool" = some true := by decide +kernel
theorem k_ni : kitB "NoneType" "int" = some false := by decide +kernel
theorem k_si : kitB "str" "int" = some false := by decide +kernel
theorem k_li : kitB "list" "int" = some false := by decide +kernel
theorem k_ti : kitB "tuple" "int" = some false := by decide +kernel
theorem k_di : kitB "dict" "int" = some false := by decide +kernel
theorem k_nt : kitB "NoneType" "tuple" = some false := by decide +kernel
theorem k_bt : kitB "bool" "tuple" = some false := by decide +kernel
theorem k_it : kitB "int" "tuple" = some false := by decide +kernel
theorem k_st : kitB "str" "tuple" = some false := by decide +kernel
theorem k_lt : kitB "list" "tuple" = some false := by decide +kernel
theorem k_tt : kitB "tuple" "tuple" = some true := by decide +kernel
theorem k_dt : kitB "dict" "tuple" = some false := by decide +kernel
local macro_rules | `(tactic| walk_at "sv") => `(tactic| simp [*, gDef, Sv.envOf, seqF, setF, iffF, retF, nxF, Sv.vr, cc, op2, eqDP, eqP, ipi, ipc, ipb, bn, aC, aN, o1, o2, ixLP, ixTP, tbF, notF, truF, truD, andF, orF, andV, orV, notV, ifV, lsF, lenP, negF, callF, callM, aM, upE, posOf, flF, noL, asgF, tpG, coG, nmG, niG, slTF, slLF, oS, oN, tupF, itmF, ixN, atI_0, atI_1, atI_2, atI_3, mixP, appF, outF, ownF, augF, Dv.isNone, mixP, gI_int, gS_str, gB_bool, gL_list, gT_tuple, gR_list, gQ_list, gQ_tuple, gQ_scr, asL_scr, asL_list, asL_tuple, gR_scr, ck, shaped_ints, shaped_nil, eqv_nil, isF, isiP, tyN, chnF, -List.all_eq_true, -List.map_cons, -List.map_nil])
def cell0 (ns : List Int) (k : Int) : Int := if ns = [] then 17 else ns.getD (k % (ns.length : Int)).toNat 0 % 2147483647
def cellN (ns : List Int) (k : Int) : Int := (cell0 ns k + 7919 * k * k + 31 * k) * 48271 % 2147483647 * 69621 % 2147483629 / 64
def mixN (n k : Int) : Int := (n + 7919 * k * k + 31 * k + 1) * 48271 % 2147483647 * 69621 % 2147483629 / 64
theorem cellN_b (ns : List Int) (k : Int) : 0 ≤ cellN ns k ∧ cellN ns k < 33554432 := by unfold cellN; omega
theorem mixN_b (n k : Int) : 0 ≤ mixN n k ∧ mixN n k < 33554432 := by unfold mixN; omega
theorem ev_cell (ns : List Int) (k : Int) (hk : 0 ≤ k ∧ k ≤ 100000) : g__law_cell [Sv.scr ns, .int k] = some (.int (cellN ns k), [Sv.scr ns, .int k]) := by
  have k1 : -18446744073709551616 < k ∧ k < 18446744073709551616 := by omega
  clear hk
  unfold g__law_cell f__law_cell cellN cell0
  by_cases h : ns = []
  · walk_at "sv"
  · have hl : 0 < ns.length := List.length_pos_iff.mpr h
    have e : atI (ns.map PyData.int) (k % (ns.length : Int)) = some (.int (ns.getD (k % (ns.length : Int)).toNat 0)) := atI_map (atI_getD 0 (Int.emod_nonneg _ (by omega)) (Int.emod_lt_of_pos _ (by omega)))
    walk_at "sv"
theorem ev_mixed (n k : Int) (hk : 0 ≤ k ∧ k ≤ 100000) : g__law_mixed [.int n, .int k] = some (.int (mixN n k), [.int n, .int k]) := by
  have k1 : -18446744073709551616 < k ∧ k < 18446744073709551616 := by omega
  clear hk
  unfold g__law_mixed f__law_mixed mixN
  walk_at "sv"
/-- the draw: the script, and how often it was asked -/
abbrev dr (ns : List Int) (c : Nat) : PyData := .list [Sv.scr ns, .int (c : Int)]
theorem ev_next (ns : List Int) (c : Nat) (hc : c < 100000) : g__law_next [dr ns c] = some (.int (cellN ns (c + 1)), [dr ns (c + 1)]) := by
  have e := ev_cell ns ((c : Int) + 1) (by omega)
  unfold g__law_next f__law_next
  walk_at "sv"
end K11

namespace Sv
open PySem PySem.Spec PyProof.Rows L2 Pre Dv
/-- a loop that ends at the first item that p tells -/
theorem loopF_find {S : Type} {Gg : Fg} {s : Fs} (mk : S → Env) (p : PyData → Bool) (res : PyData → PyData) : ∀ (ds : List PyData), (∀ d ∈ ds, ∀ x, ∃ e1 y, Gg d (mk x) = some e1 ∧ s e1 = if p d = true then some (.rt (res d) (mk y)) else some (.nx (mk y))) →
    ∀ x, (∃ d y, ds.find? p = some d ∧ loopF Gg s ds (mk x) = some (.rt (res d) (mk y))) ∨ (ds.find? p = none ∧ ∃ y, loopF Gg s ds (mk x) = some (.nx (mk y)))
  | [], _, x => .inr ⟨rfl, x, rfl⟩
  | d :: ds, h, x => by
    obtain ⟨e1, y, h1, h2⟩ := h d List.mem_cons_self x
    cases hp : p d with
    | true =>
      refine .inl ⟨d, y, by simp [hp], ?_⟩
      rw [loopF, h1, Option.bind_some, h2, if_pos hp]
      rfl
    | false =>
      have e : loopF Gg s (d :: ds) (mk x) = loopF Gg s ds (mk y) := by
        rw [loopF, h1, Option.bind_some, h2, if_neg (by simp [hp])]
        rfl
      rw [e, List.find?_cons_of_neg (by simp [hp])]
      exact loopF_find mk p res ds (fun x hx => h x (List.mem_cons_of_mem _ hx)) y
theorem find_rng {n : Nat} (p : PyData → Bool) : (rngD 0 n).find? p = ((List.range n).find? fun (k : Nat) => p (.int (k : Int))).map fun (k : Nat) => .int (k : Int) := by
  unfold rngD
  rw [List.find?_map]
  simp [Function.comp_def]
theorem enD_mem {ds : List PyData} {d : PyData} (h : d ∈ enD ds) : ∃ (k : Nat) (x : PyData), k < ds.length ∧ ds[k]? = some x ∧ d = .tuple [.int (k : Int), x] := by
  obtain ⟨k, hk, rfl⟩ := List.mem_iff_getElem.mp h
  have hk2 : k < ds.length := by simpa [enD] using hk
  exact ⟨k, ds[k], hk2, List.getElem?_eq_getElem hk2, by simp [enD]⟩
end Sv
namespace K11
open PySem PySem.Spec PyProof.Rows L2 Pre Dv Sv
/-! ## webs, plans as data -/
structure Web where
  names : List Str
  m : Nat
  gaps : List (List Nat)
  lists : List Nat
abbrev natD (k : Nat) : PyData := .int (k : Int)
def rowD (r : List Nat) : PyData := .tuple (r.map natD)
def webD (w : Web) : PyData := .tuple [.tuple (w.names.map .str), .int (w.m : Int), .tuple (w.gaps.map rowD), .tuple (w.lists.map natD)]
def tn (p : List Nat) (i : Nat) : Nat := p.getD i 0
def Web.row (w : Web) (i : Nat) : List Nat := w.gaps.getD i []
def Web.gap (w : Web) (i j : Nat) : Nat := (w.row i).getD j 0
def Web.lst (w : Web) (i : Nat) : Nat := w.lists.getD i 0
abbrev webL (w : Web) : List PyData := [.tuple (w.names.map .str), .int (w.m : Int), .tuple (w.gaps.map rowD), .tuple (w.lists.map natD)]
theorem gT_web (w : Web) : Sv.gT (webD w) = some (webL w) := rfl
theorem gT_row (r : List Nat) : Sv.gT (rowD r) = some (r.map natD) := rfl
theorem cut_web (w : Web) : cutD (webL w) (some 2) none = [.tuple (w.gaps.map rowD), .tuple (w.lists.map natD)] := rfl
theorem gJ_row (r : List Nat) : Xq.gJ (rowD r) = some (false, r.map natD) := rfl
theorem shaped_nats (js : List Nat) : SeqAt.shaped (.list (js.map natD)) = true := by
  have := shaped_ints (js.map fun (j : Nat) => (j : Int))
  rw [List.map_map] at this
  exact this
theorem eqv_nats (js : List Nat) : PyData.eqv (.list (js.map natD)) (.list []) = js.isEmpty := by
  have := eqv_nil (js.map fun (j : Nat) => (j : Int))
  rw [List.map_map] at this
  have e : PyData.eqv (.list (js.map natD)) (.list []) = decide ((js.map fun (j : Nat) => (j : Int)) = []) := this
  rw [e]
  cases js <;> simp
theorem head_nats (j : Nat) (r : List Nat) : atI ((j :: r).map natD) 0 = some (natD j) := atI_of (i := 0) rfl
theorem pow_int (k : Nat) : ((2 ^ k : Nat) : Int) = (2 : Int) ^ k := by
  rw [Int.natCast_pow]
  rfl
theorem gQ_row (r : List Nat) : Sv.gQ (rowD r) = some (r.map natD) := rfl
theorem gR_row0 (r : List Nat) : Sv.gR (rowD r) = none := rfl
local macro_rules | `(tactic| walk_at "sv") => `(tactic| simp (maxSteps := 4000000) [*, gDef, forF, seqF, setF, iffF, retF, nxF, Sv.vr, cc, op2, eqDP, eqP, fl, scal, ipi, ipc, ipb, bn, aC, aN, o1, o2, ixLP, ixTP, Xq.divP, tbF, notF, truF, truD, andF, orF, andV, orV, notV, ifV, lsF, lenP, absP, negF, Xq.invF, callF, Xq.callFS, callM, aM, upE, posOf, flF, noL, noL.noLs, asgF, tpG, coG, nmG, niG, slTF, slLF, oS, oN, tupF, itmF, ixN, atI_0, atI_1, atI_2, atI_3, appF, outF, ownF, augF, isP, isN_none, isN_int, isN_str, isN_bool, isN_list, isN_tuple, rg1, Xq.enQF, Xq.zpAF, gJ_row, gJ_list, f1, bnf, gJ_tuple, lcF, shaped_nats, eqv_nats, gQ_row, gR_row0, mixP, gI_int, gS_str, gB_bool, gL_list, gT_tuple, gT_web, gT_row, Xq.orX, Xq.raiF, Xq.xDef, Xq.tryF, Xq.unsO, Xq.exN_D, Xq.isXF, tuF, rdF, qB, qI, k_ii, k_ib, k_bi, k_bb, k_ni, k_si, k_li, k_ti, k_di, k_nt, k_bt, k_it, k_st, k_lt, k_tt, k_dt, gR_list, gQ_list, gQ_tuple, gQ_scr, asL_scr, asL_list, asL_tuple, gR_scr, ck, shaped_ints, shaped_nil, eqv_nil, isF, isiP, tyN, chnF, wipeE, restE, -List.all_eq_true, -List.map_cons, -List.map_nil])
structure Web.Ok (w : Web) : Prop where
  n1 : 1 ≤ w.names.length
  n2 : w.names.length ≤ 24
  m1 : 1 ≤ w.m
  m2 : w.m ≤ 60
  g1 : w.gaps.length = w.names.length
  g2 : ∀ r ∈ w.gaps, r.length = w.names.length
  g3 : ∀ r ∈ w.gaps, ∀ g ∈ r, g ≤ 5
  l1 : w.lists.length = w.names.length
  l2 : ∀ l ∈ w.lists, l < 2 ^ w.m
  s1 : ∀ s ∈ w.names, s.length ≤ 100 ∧ ∀ c ∈ s.cps.toList, c < 1114112
section
variable {w : Web}
theorem Web.Ok.row (h : w.Ok) {i : Nat} (hi : i < w.names.length) : w.gaps[i]? = some (w.row i) := by
  have : i < w.gaps.length := by rw [h.g1]; exact hi
  simp [Web.row, this]
theorem Web.Ok.at_row (h : w.Ok) {i : Nat} (hi : i < w.names.length) : atI (w.gaps.map rowD) (i : Int) = some (rowD (w.row i)) := atI_of (by rw [List.getElem?_map, h.row hi]; rfl)
theorem Web.Ok.row_len (h : w.Ok) {i : Nat} (hi : i < w.names.length) : (w.row i).length = w.names.length := h.g2 _ (List.mem_of_getElem? (h.row hi))
theorem Web.Ok.at_gap (h : w.Ok) {i j : Nat} (hi : i < w.names.length) (hj : j < w.names.length) : atI ((w.row i).map natD) (j : Int) = some (natD (w.gap i j)) := by
  have : j < (w.row i).length := by rw [h.row_len hi]; exact hj
  refine atI_of ?_
  unfold Web.gap
  rw [List.getElem?_map, List.getElem?_eq_getElem this, List.getD_eq_getElem?_getD, List.getElem?_eq_getElem this]
  rfl
theorem Web.Ok.gap_le (h : w.Ok) {i j : Nat} (hi : i < w.names.length) (hj : j < w.names.length) : w.gap i j ≤ 5 := by
  have h1 : j < (w.row i).length := by rw [h.row_len hi]; exact hj
  have h2 : w.gap i j = (w.row i)[j] := by unfold Web.gap; rw [List.getD_eq_getElem?_getD, List.getElem?_eq_getElem h1]; rfl
  rw [h2]
  exact h.g3 _ (List.mem_of_getElem? (h.row hi)) _ (List.getElem_mem h1)
theorem Web.Ok.at_lst (h : w.Ok) {i : Nat} (hi : i < w.names.length) : atI (w.lists.map natD) (i : Int) = some (natD (w.lst i)) := by
  have : i < w.lists.length := by rw [h.l1]; exact hi
  refine atI_of ?_
  rw [List.getElem?_map, List.getElem?_eq_getElem this]
  simp [Web.lst, this]
theorem Web.Ok.lst_lt (h : w.Ok) {i : Nat} (hi : i < w.names.length) : w.lst i < 2 ^ w.m := by
  have h1 : i < w.lists.length := by rw [h.l1]; exact hi
  have h2 : w.lst i = w.lists[i] := by simp [Web.lst, h1]
  rw [h2]
  exact h.l2 _ (List.getElem_mem h1)
end
/-- a plan: so many tunes below m -/
structure POk (w : Web) (p : List Nat) : Prop where
  len : p.length = w.names.length
  lt : ∀ t ∈ p, t < w.m
theorem POk.at_ {w : Web} {p : List Nat} (h : POk w p) {i : Nat} (hi : i < w.names.length) : atI (p.map natD) (i : Int) = some (natD (tn p i)) := by
  have : i < p.length := by rw [h.len]; exact hi
  refine atI_of ?_
  unfold tn
  rw [List.getElem?_map, List.getElem?_eq_getElem this]
  simp [this]
theorem POk.lt_ {w : Web} {p : List Nat} (h : POk w p) {i : Nat} (hi : i < w.names.length) : tn p i < w.m := by
  have : i < p.length := by rw [h.len]; exact hi
  have e : tn p i = p[i] := by unfold tn; simp [this]
  rw [e]
  exact h.lt _ (List.getElem_mem this)
def dist (x y : Nat) : Int := if (x : Int) - y < 0 then -((x : Int) - y) else (x : Int) - y
def near (w : Web) (p : List Nat) (i j : Nat) : Bool := decide (dist (tn p i) (tn p j) < (w.gap i j : Int))
def nearP (w : Web) (p : List Nat) (i : Nat) : PyData → Bool
  | .int k => near w p i k.toNat
  | _ => false
def faultAt (w : Web) (p : List Nat) (i : Nat) : PyData := if w.lst i / 2 ^ (tn p i) % 2 = 0 then .tuple [.str "list", natD i] else match (List.range i).find? (near w p i) with
  | some j => .tuple [.str "near", natD j, natD i]
  | none => .none
theorem ev_fault_at {w : Web} {p : List Nat} (h : w.Ok) (hp : POk w p) {i : Nat} (hi : i < w.names.length) : g_fault_at [webD w, rowD p, natD i] = some (faultAt w p i, [webD w, rowD p, natD i]) := by
  have e0 : Sv.envOf n_fault_at [webD w, rowD p, natD i] = [some (webD w), some (rowD p), some (natD i), none, none, none] := rfl
  have e1 := cut_web w
  have e2 := h.at_lst hi
  have e3 := hp.at_ hi
  have e4 := h.at_row hi
  have n2 := h.n2
  have loop := loopF_find (Gg := nmG 5) (s := b_fault_at_1) (fun x : Option PyData => [some (webD w), some (rowD p), some (natD i), some (.tuple (w.gaps.map rowD)), some (.tuple (w.lists.map natD)), x]) (nearP w p i) (fun d => .tuple [.str "near", d, natD i]) (rngD 0 i) (fun d hd x => by
    obtain ⟨j, hj, rfl⟩ := rngD_mem hd
    have f1 := hp.at_ (i := j) (by omega)
    have f2 := h.at_gap hi (j := j) (by omega)
    refine ⟨_, some (natD j), rfl, ?_⟩
    unfold b_fault_at_1
    have f3 : nearP w p i (PyData.int (j : Int)) = near w p i j := rfl
    rw [f3]
    unfold near dist
    walk_at "sv") none
  rw [find_rng] at loop
  have f4 : (fun k : Nat => nearP w p i (PyData.int (k : Int))) = near w p i := rfl
  rw [f4] at loop
  have hi2 : -1000000 ≤ (i : Int) ∧ (i : Int) ≤ 1000000 := by omega
  unfold g_fault_at f_fault_at l_fault_at_1 faultAt
  have e7 : rg1 (vr 2) [some (webD w), some (rowD p), some (natD i), some (.tuple (w.gaps.map rowD)), some (.tuple (w.lists.map natD)), none] = some (rngD 0 i, [some (webD w), some (rowD p), some (natD i), some (.tuple (w.gaps.map rowD)), some (.tuple (w.lists.map natD)), none]) := by simp [rg1, vr, gI_int, hi2]
  by_cases hb : w.lst i / 2 ^ (tn p i) % 2 = 0
  · have e5 : Builtin.bitAnd (((w.lst i : Nat) : Int) / 2 ^ (tn p i)) 1 = 0 := by
      rw [PyProof.Rows.bitAnd_m1]
      exact_mod_cast hb
    walk_at "sv"
  · have hb2 : w.lst i / 2 ^ (tn p i) % 2 = 1 := by omega
    have e5 : Builtin.bitAnd (((w.lst i : Nat) : Int) / 2 ^ (tn p i)) 1 = 1 := by
      rw [PyProof.Rows.bitAnd_m1]
      exact_mod_cast hb2
    rcases loop with ⟨d, y, g1, g2⟩ | ⟨g1, y, g2⟩
    · obtain ⟨j, g3, rfl⟩ := Option.map_eq_some_iff.mp g1
      walk_at "sv"
    · have g3 := Option.map_eq_none_iff.mp g1
      walk_at "sv"
end K11

namespace K11
open PySem PySem.Spec PyProof.Rows L2 Pre Dv Sv
local macro_rules | `(tactic| walk_at "sv") => `(tactic| simp (maxSteps := 4000000) [*, gDef, forF, seqF, setF, iffF, retF, nxF, Sv.vr, cc, op2, eqDP, eqP, fl, scal, ipi, ipc, ipb, bn, aC, aN, o1, o2, ixLP, ixTP, Xq.divP, tbF, notF, truF, truD, andF, orF, andV, orV, notV, ifV, lsF, lenP, absP, negF, Xq.invF, callF, Xq.callFS, callM, aM, upE, posOf, flF, noL, noL.noLs, asgF, tpG, coG, nmG, niG, slTF, slLF, oS, oN, tupF, itmF, ixN, atI_0, atI_1, atI_2, atI_3, appF, outF, ownF, augF, isP, isN_none, isN_int, isN_str, isN_bool, isN_list, isN_tuple, rg1, Xq.enQF, Xq.zpAF, gJ_row, gJ_list, f1, bnf, gJ_tuple, lcF, shaped_nats, eqv_nats, gQ_row, gR_row0, mixP, gI_int, gS_str, gB_bool, gL_list, gT_tuple, gT_web, gT_row, Xq.orX, Xq.raiF, Xq.xDef, Xq.tryF, Xq.unsO, Xq.exN_D, Xq.isXF, tuF, rdF, qB, qI, k_ii, k_ib, k_bi, k_bb, k_ni, k_si, k_li, k_ti, k_di, k_nt, k_bt, k_it, k_st, k_lt, k_tt, k_dt, gR_list, gQ_list, gQ_tuple, gQ_scr, asL_scr, asL_list, asL_tuple, gR_scr, ck, shaped_ints, shaped_nil, eqv_nil, isF, isiP, tyN, chnF, wipeE, restE, -List.all_eq_true, -List.map_cons, -List.map_nil])
/-- what has a type that isinstance knows -/
def plain (d : PyData) : Bool := (tyN d).isSome
def wholeB (lo hi : Int) : PyData → Bool
  | .int i => decide (lo ≤ i) && decide (i ≤ hi)
  | _ => false
theorem ev_is_whole (d : PyData) (lo hi : Int) (h : plain d = true) : g_is_whole [d, .int lo, .int hi] = some (.bool (wholeB lo hi d), [d, .int lo, .int hi]) := by
  have e0 : Sv.envOf n_is_whole [d, .int lo, .int hi] = [some d, some (.int lo), some (.int hi)] := rfl
  unfold g_is_whole f_is_whole wholeB
  cases d with
  | int i =>
    by_cases h1 : lo ≤ i
    · walk_at "sv"
    · walk_at "sv"
  | dict kvs =>
    unfold plain tyN at h
    split at h <;> first | contradiction | skip
    all_goals simp at *
    all_goals subst_vars
    all_goals walk_at "sv"
  | _ => walk_at "sv"
def areB (n : Nat) (lo hi : Int) : PyData → Bool
  | .tuple ds => decide (ds.length = n) && ds.all (wholeB lo hi)
  | _ => false
def plains : PyData → Bool
  | .tuple ds => ds.all plain
  | d => plain d
theorem ev_are_whole (d : PyData) (n : Nat) (lo hi : Int) (h : plains d = true) (hl : ∀ ds, d = .tuple ds → ds.length ≤ 50000) : g_are_whole [d, natD n, .int lo, .int hi] = some (.bool (areB n lo hi d), [d, natD n, .int lo, .int hi]) := by
  have e0 : Sv.envOf n_are_whole [d, natD n, .int lo, .int hi] = [some d, some (natD n), some (.int lo), some (.int hi), none] := rfl
  unfold g_are_whole f_are_whole areB
  cases d with
  | tuple ds =>
    have h2 := hl ds rfl
    by_cases hn : ds.length = n
    · have e1 : c_are_whole_1 [some (.tuple ds), some (natD n), some (.int lo), some (.int hi), none] = some (.list (ds.map fun x => .bool (wholeB lo hi x)), [some (.tuple ds), some (natD n), some (.int lo), some (.int hi), none]) := by
        have e2 := lcL_fn (vs := [4]) (Gg := nmG 4) (F := callF g_is_whole (aC (vr 4) (aC (vr 2) (aC (vr 3) aN)))) (env := [some (.tuple ds), some (natD n), some (.int lo), some (.int hi), none]) (fun x => .bool (wholeB lo hi x)) ds (fun x hx => by
          have hp : plain x = true := by
            have h3 : ds.all plain = true := h
            exact List.all_eq_true.mp h3 x hx
          have e3 := ev_is_whole x lo hi hp
          refine ⟨_, [some (.tuple ds), some (natD n), some (.int lo), some (.int hi), some x], rfl, ?_, rfl⟩
          walk_at "sv")
        unfold c_are_whole_1 lcF
        have h3 : n ≤ 50000 := hn ▸ h2
        walk_at "sv"
      have e4 := gBs_map (ds.map fun x => wholeB lo hi x)
      rw [List.map_map] at e4
      have e5 : (PyData.bool ∘ fun x => wholeB lo hi x) = fun x => .bool (wholeB lo hi x) := rfl
      rw [e5] at e4
      walk_at "sv"
    · have hn2 : ¬ ((ds.length : Int) = n) := by omega
      walk_at "sv"
  | dict kvs =>
    have h : plain (.dict kvs) = true := h
    unfold plain tyN at h
    split at h <;> first | contradiction | skip
    all_goals simp at *
    all_goals subst_vars
    all_goals walk_at "sv"
  | _ => walk_at "sv"
end K11

namespace K11
open PySem PySem.Spec PyProof.Rows L2 Pre Dv Sv
local macro_rules | `(tactic| walk_at "sv") => `(tactic| simp (maxSteps := 4000000) [*, gDef, forF, seqF, setF, iffF, retF, nxF, Sv.vr, cc, op2, eqDP, eqP, fl, scal, ipi, ipc, ipb, bn, aC, aN, o1, o2, ixLP, ixTP, Xq.divP, tbF, notF, truF, truD, andF, orF, andV, orV, notV, ifV, lsF, lenP, absP, negF, Xq.invF, callF, Xq.callFS, callM, aM, upE, posOf, flF, noL, noL.noLs, asgF, tpG, coG, nmG, niG, slTF, slLF, oS, oN, tupF, itmF, ixN, atI_0, atI_1, atI_2, atI_3, appF, outF, ownF, augF, isP, isN_none, isN_int, isN_str, isN_bool, isN_list, isN_tuple, rg1, Xq.enQF, Xq.zpAF, gJ_row, gJ_list, f1, bnf, gJ_tuple, lcF, shaped_nats, eqv_nats, gQ_row, gR_row0, mixP, gI_int, gS_str, gB_bool, gL_list, gT_tuple, gT_web, gT_row, Xq.orX, Xq.raiF, Xq.xDef, Xq.tryF, Xq.unsO, Xq.exN_D, Xq.isXF, tuF, rdF, qB, qI, k_ii, k_ib, k_bi, k_bb, k_ni, k_si, k_li, k_ti, k_di, k_nt, k_bt, k_it, k_st, k_lt, k_tt, k_dt, gR_list, gQ_list, gQ_tuple, gQ_scr, asL_scr, asL_list, asL_tuple, gR_scr, ck, shaped_ints, shaped_nil, eqv_nil, isF, isiP, tyN, chnF, wipeE, restE, -List.all_eq_true, -List.map_cons, -List.map_nil])
theorem wholeB_nat (lo hi : Int) (t : Nat) : wholeB lo hi (natD t) = (decide (lo ≤ (t : Int)) && decide ((t : Int) ≤ hi)) := rfl
section
variable {w : Web} {p : List Nat}
theorem len_names (w : Web) : (w.names.map PyData.str).length = w.names.length := by simp
theorem are_plan (h : w.Ok) (hp : POk w p) : areB w.names.length 0 ((w.m : Int) - 1) (rowD p) = true := by
  unfold areB rowD
  simp only [List.length_map, hp.len, decide_true, Bool.true_and]
  refine List.all_eq_true.mpr fun d hd => ?_
  obtain ⟨t, ht, rfl⟩ := List.mem_map.mp hd
  have := hp.lt t ht
  rw [wholeB_nat]
  simp
  omega
theorem ev_need_plan (h : w.Ok) (d : PyData) (hd : plains d = true) (hl : ∀ ds, d = .tuple ds → ds.length ≤ 50000) : (areB w.names.length 0 ((w.m : Int) - 1) d = true → g_need_plan [webD w, d] = some (.none, [webD w, d]) ∧ x_need_plan [webD w, d] = none) ∧
    (areB w.names.length 0 ((w.m : Int) - 1) d = false → g_need_plan [webD w, d] = none ∧ x_need_plan [webD w, d] = some (exD "BadPlan", [webD w, d])) := by
  have e0 : Sv.envOf n_need_plan [webD w, d] = [some (webD w), some d] := rfl
  have e1 := ev_are_whole d w.names.length 0 ((w.m : Int) - 1) hd hl
  have e2 := len_names w
  unfold g_need_plan x_need_plan f_need_plan
  refine ⟨fun hb => ?_, fun hb => ?_⟩
  · rw [hb] at e1
    constructor <;> walk_at "sv"
  · rw [hb] at e1
    constructor <;> walk_at "sv"
theorem plains_plan (p : List Nat) : plains (rowD p) = true := by
  unfold plains rowD
  refine List.all_eq_true.mpr fun d hd => ?_
  obtain ⟨t, ht, rfl⟩ := List.mem_map.mp hd
  rfl
theorem POk.short (h : w.Ok) (hp : POk w p) : ∀ ds, rowD p = .tuple ds → ds.length ≤ 50000 := fun ds e => by
  have : ds = p.map natD := (PyData.tuple.inj e).symm
  rw [this, List.length_map, hp.len]
  have := h.n2
  omega
/-- what fails first -/
def faultD (w : Web) (p : List Nat) : PyData := match (List.range w.names.length).find? (fun i => !isNone (faultAt w p i)) with
  | some i => faultAt w p i
  | none => .none
def failP (w : Web) (p : List Nat) : PyData → Bool
  | .int k => !isNone (faultAt w p k.toNat)
  | .tuple (.int k :: _) => !isNone (faultAt w p k.toNat)
  | _ => false
def failD (w : Web) (p : List Nat) : PyData → PyData
  | .int k => faultAt w p k.toNat
  | .tuple (.int k :: _) => faultAt w p k.toNat
  | _ => .none
theorem ev_fault_of (h : w.Ok) (hp : POk w p) : g_fault_of [webD w, rowD p] = some (faultD w p, [webD w, rowD p]) := by
  have e0 : Sv.envOf n_fault_of [webD w, rowD p] = [some (webD w), some (rowD p), none, none] := rfl
  obtain ⟨e1, e1x⟩ := (ev_need_plan h (rowD p) (plains_plan p) (hp.short h)).1 (are_plan h hp)
  have n2 := h.n2
  have loop := loopF_find (Gg := nmG 2) (s := b_fault_of_1) (fun x : Option PyData × Option PyData => [some (webD w), some (rowD p), x.1, x.2]) (failP w p) (failD w p) (rngD 0 w.names.length) (fun d hd x => by
    obtain ⟨i, hi, rfl⟩ := rngD_mem hd
    have f1 := ev_fault_at h hp hi
    refine ⟨_, (some (natD i), some (faultAt w p i)), rfl, ?_⟩
    unfold b_fault_of_1
    have f2 : failP w p (PyData.int (i : Int)) = !isNone (faultAt w p i) := rfl
    have f3 : failD w p (PyData.int (i : Int)) = faultAt w p i := rfl
    rw [f2, f3]
    cases hb : isNone (faultAt w p i) <;> walk_at "sv") (none, none)
  rw [find_rng] at loop
  have f4 : (fun k : Nat => failP w p (PyData.int (k : Int))) = fun i => !isNone (faultAt w p i) := rfl
  rw [f4] at loop
  have hn2 : -1000000 ≤ (w.names.length : Int) ∧ (w.names.length : Int) ≤ 1000000 := by omega
  have hp2 := hp.len
  unfold g_fault_of f_fault_of l_fault_of_1 faultD
  rcases loop with ⟨d, y, g1, g2⟩ | ⟨g1, y, g2⟩
  · obtain ⟨j, g3, rfl⟩ := Option.map_eq_some_iff.mp g1
    have f5 : failD w p (PyData.int (j : Int)) = faultAt w p j := rfl
    walk_at "sv"
  · have g3 := Option.map_eq_none_iff.mp g1
    walk_at "sv"
end
end K11

namespace K11
open PySem PySem.Spec PyProof.Rows L2 Pre Dv Sv
local macro_rules | `(tactic| walk_at "sv") => `(tactic| simp (maxSteps := 4000000) [*, gDef, forF, seqF, setF, iffF, retF, nxF, Sv.vr, cc, op2, eqDP, eqP, fl, scal, ipi, ipc, ipb, bn, aC, aN, o1, o2, ixLP, ixTP, Xq.divP, tbF, notF, truF, truD, andF, orF, andV, orV, notV, ifV, lsF, lenP, absP, negF, Xq.invF, callF, Xq.callFS, callM, aM, upE, posOf, flF, noL, noL.noLs, asgF, tpG, coG, nmG, niG, slTF, slLF, oS, oN, tupF, itmF, ixN, atI_0, atI_1, atI_2, atI_3, appF, outF, ownF, augF, isP, isN_none, isN_int, isN_str, isN_bool, isN_list, isN_tuple, rg1, Xq.enQF, Xq.zpAF, gJ_row, gJ_list, f1, bnf, gJ_tuple, lcF, shaped_nats, eqv_nats, gQ_row, gR_row0, mixP, gI_int, gS_str, gB_bool, gL_list, gT_tuple, gT_web, gT_row, Xq.orX, Xq.raiF, Xq.xDef, Xq.tryF, Xq.unsO, Xq.exN_D, Xq.isXF, tuF, rdF, qB, qI, k_ii, k_ib, k_bi, k_bb, k_ni, k_si, k_li, k_ti, k_di, k_nt, k_bt, k_it, k_st, k_lt, k_tt, k_dt, gR_list, gQ_list, gQ_tuple, gQ_scr, asL_scr, asL_list, asL_tuple, gR_scr, ck, shaped_ints, shaped_nil, eqv_nil, isF, isiP, tyN, chnF, wipeE, restE, -List.all_eq_true, -List.map_cons, -List.map_nil])
theorem dist_comm (x y : Nat) : dist x y = dist y x := by unfold dist; split <;> split <;> omega
section
variable {w : Web} {p : List Nat}
def nearL (w : Web) (p : List Nat) (i : Nat) : List Nat := (List.range i).filter (near w p i)
theorem ev_near (h : w.Ok) (hp : POk w p) {i : Nat} (hi : i < w.names.length) (x4 : Option PyData) :
    c__law_fault_1 [some (webD w), some (rowD p), some (natD i), some (natD (tn p i)), x4, none] = some (.list ((nearL w p i).map natD), [some (webD w), some (rowD p), some (natD i), some (natD (tn p i)), x4, none]) := by
  have n2 := h.n2
  have e4 := h.at_row hi
  have body := lcL_map (vs := [5]) (Gg := nmG 5) (T := tbF (op2 ltP (bn absP (aC (op2 subP (op2 ixTP (vr 1) (vr 5)) (vr 3)) aN)) (op2 ixTP (op2 ixTP (op2 ixTP (vr 0) (cc (.int 2))) (vr 2)) (vr 5)))) (F := vr 5)
    (env := [some (webD w), some (rowD p), some (natD i), some (natD (tn p i)), x4, none]) (nearP w p i) id (rngD 0 i) (fun d hd => by
    obtain ⟨j, hj, rfl⟩ := rngD_mem hd
    have f1 := hp.at_ (i := j) (by omega)
    have f2 := h.at_gap hi (j := j) (by omega)
    have f3 : nearP w p i (PyData.int (j : Int)) = near w p i j := rfl
    refine ⟨_, [some (webD w), some (rowD p), some (natD i), some (natD (tn p i)), x4, some (natD j)], rfl, ?_, fun _ => rfl, fun _ => ⟨_, rfl, rfl⟩⟩
    rw [f3]
    unfold near
    rw [dist_comm]
    unfold dist
    walk_at "sv")
  have e5 : ((rngD 0 i).filter (nearP w p i)).map id = (nearL w p i).map natD := by
    unfold rngD nearL
    rw [List.filter_map, List.map_id]
    have e6 : (nearP w p i ∘ fun k : Nat => PyData.int (0 + (k : Int))) = near w p i := by
      funext k
      simp [nearP]
    rw [e6]
    refine List.map_congr_left fun k _ => ?_
    simp
  rw [e5] at body
  have h1 : (rngD 0 i).length ≤ 50000 := by rw [rngD_length]; omega
  have h2 : -1000000 ≤ (i : Int) ∧ (i : Int) ≤ 1000000 := by omega
  unfold c__law_fault_1
  walk_at "sv"
theorem faultAt_isNone (w : Web) (p : List Nat) (i : Nat) : isNone (faultAt w p i) = (decide (¬ w.lst i / 2 ^ (tn p i) % 2 = 0) && (nearL w p i).isEmpty) := by
  unfold faultAt nearL
  by_cases hb : w.lst i / 2 ^ (tn p i) % 2 = 0
  · simp [hb, isN_tuple]
  · rw [if_neg hb]
    cases hf : (List.range i).find? (near w p i) with
    | none =>
      have := List.find?_eq_none.mp hf
      have e : (List.range i).filter (near w p i) = [] := List.filter_eq_nil_iff.mpr this
      simp [e, hb, isN_none]
    | some j =>
      have e : (List.range i).filter (near w p i) ≠ [] := fun z => by
        have := List.filter_eq_nil_iff.mp z j (List.mem_of_find?_eq_some hf)
        exact this (List.find?_some hf)
      simp [e, isN_tuple]
theorem ev_law_fault (h : w.Ok) (hp : POk w p) : g__law_fault [webD w, rowD p] = some (faultD w p, [webD w, rowD p]) := by
  have e0 : Sv.envOf n__law_fault [webD w, rowD p] = [some (webD w), some (rowD p), none, none, none, none] := rfl
  have n2 := h.n2
  have m2 := h.m2
  have hl : (enD (p.map natD)).find? (failP w p) = ((List.range w.names.length).find? fun i => !isNone (faultAt w p i)).map fun i => .tuple [natD i, natD (tn p i)] := by
    have e : enD (p.map natD) = (List.range w.names.length).map fun i => PyData.tuple [natD i, natD (tn p i)] := by
      refine List.ext_getElem ?_ fun k h1 h2 => ?_
      · simp [enD, hp.len]
      · have hk : k < w.names.length := by simpa using h2
        have hk2 : k < p.length := by rw [hp.len]; exact hk
        simp [enD, tn, hk2]
    rw [e, List.find?_map]
    rfl
  have loop := loopF_find (Gg := tpG (coG (nmG 2) (coG (nmG 3) niG))) (s := b__law_fault_1) (fun x : Option PyData × Option PyData × Option PyData => [some (webD w), some (rowD p), x.1, x.2.1, x.2.2, none]) (failP w p) (failD w p) (enD (p.map natD)) (fun d hd x => by
    obtain ⟨i, y, hi, hy, rfl⟩ := enD_mem hd
    have hi2 : i < w.names.length := by rw [← hp.len]; simpa using hi
    have ey : y = natD (tn p i) := by
      have := hp.at_ hi2
      rw [List.getElem?_map] at hy
      have hk2 : i < p.length := by rw [hp.len]; exact hi2
      simp [hk2] at hy
      rw [← hy]
      simp [tn, hk2]
    subst ey
    have f1 := ev_near h hp hi2
    have f2 : failP w p (PyData.tuple [.int (i : Int), natD (tn p i)]) = !isNone (faultAt w p i) := rfl
    have f3 : failD w p (PyData.tuple [.int (i : Int), natD (tn p i)]) = faultAt w p i := rfl
    have f4 := h.at_lst hi2
    have f5 : (0 : Int) < 2 ^ (tn p i) := Int.pow_pos (by omega)
    have f6 : (2 : Int) ^ (tn p i) < 1267650600228229401496703205376 := by
      have h1 := hp.lt_ hi2
      have h2 : 2 ^ (tn p i) ≤ 2 ^ 60 := Nat.pow_le_pow_right (by omega) (by omega)
      have h3 : ((2 ^ (tn p i) : Nat) : Int) ≤ ((2 ^ 60 : Nat) : Int) := by exact_mod_cast h2
      rw [pow_int] at h3
      exact Int.lt_of_le_of_lt h3 (by decide)
    have f7 : ((tn p i : Nat) : Int) ≤ 1000000 := by have := hp.lt_ hi2; omega
    have f8 : (((w.lst i : Nat) : Int) / 2 ^ (tn p i) % 2 = 0) = (w.lst i / 2 ^ (tn p i) % 2 = 0) := by
      have : (((w.lst i : Nat) : Int) / 2 ^ (tn p i) % 2) = ((w.lst i / 2 ^ (tn p i) % 2 : Nat) : Int) := by rw [← pow_int]; rfl
      rw [this]
      simp only [eq_iff_iff]
      omega
    rw [f2, f3, faultAt_isNone]
    by_cases hb : w.lst i / 2 ^ (tn p i) % 2 = 0
    · refine ⟨_, (some (natD i), some (natD (tn p i)), x.2.2), rfl, ?_⟩
      have f9 : faultAt w p i = .tuple [.str "list", natD i] := if_pos hb
      unfold b__law_fault_1
      walk_at "sv"
    · refine ⟨_, (some (natD i), some (natD (tn p i)), some (.list ((nearL w p i).map natD))), rfl, ?_⟩
      unfold b__law_fault_1
      cases hn : nearL w p i with
      | nil => walk_at "sv"
      | cons j r =>
        have f9 : faultAt w p i = .tuple [.str "near", natD j, natD i] := by
          unfold faultAt
          rw [if_neg hb]
          have : (List.range i).find? (near w p i) = some j := by
            rw [← List.head?_filter]
            show (nearL w p i).head? = _
            rw [hn]
            rfl
          rw [this]
        rw [hn] at f1
        have f10 := head_nats j r
        walk_at "sv") (none, none, none)
  rw [hl] at loop
  unfold g__law_fault f__law_fault l__law_fault_1 faultD
  rcases loop with ⟨d, y, g1, g2⟩ | ⟨g1, y, g2⟩
  · obtain ⟨j, g3, rfl⟩ := Option.map_eq_some_iff.mp g1
    have f5 : failD w p (PyData.tuple [natD j, natD (tn p j)]) = faultAt w p j := rfl
    walk_at "sv"
  · have g3 := Option.map_eq_none_iff.mp g1
    walk_at "sv"
end
end K11

namespace K11
open PySem PySem.Spec PyProof.Rows L2 Pre Dv Sv
/-! ## bits -/
theorem sub_land_testBit : ∀ (x L n : Nat), (L - (L &&& n)).testBit x = (L.testBit x && !n.testBit x) := by
  have par : ∀ a b : Nat, (a &&& b) % 2 = (a % 2) * (b % 2) := fun a b => by
    have h := Nat.testBit_and a b 0
    simp only [Nat.testBit_zero] at h
    rcases Nat.mod_two_eq_zero_or_one a with ha | ha <;> rcases Nat.mod_two_eq_zero_or_one b with hb | hb <;> rcases Nat.mod_two_eq_zero_or_one (a &&& b) with hc | hc <;> simp_all
  have half : ∀ a b : Nat, (a &&& b) / 2 = a / 2 &&& b / 2 := fun a b => by
    refine Nat.eq_of_testBit_eq fun i => ?_
    rw [← Nat.testBit_succ, Nat.testBit_and, Nat.testBit_and, Nat.testBit_succ, Nat.testBit_succ]
  intro x
  induction x with
  | zero =>
    intro L n
    have h := par L n
    have hle : (L &&& n) ≤ L := Nat.and_le_left
    simp only [Nat.testBit_zero]
    rcases Nat.mod_two_eq_zero_or_one L with ha | ha <;> rcases Nat.mod_two_eq_zero_or_one n with hb | hb <;> rw [ha, hb] at h <;> simp only [ha, hb]
    · have : (L - (L &&& n)) % 2 = 0 := by omega
      simp [this]
    · have : (L - (L &&& n)) % 2 = 0 := by omega
      simp [this]
    · have : (L - (L &&& n)) % 2 = 1 := by omega
      simp [this]
    · have : (L - (L &&& n)) % 2 = 0 := by omega
      simp [this]
  | succ x ih =>
    intro L n
    rw [Nat.testBit_succ, Nat.testBit_succ, Nat.testBit_succ, ← ih]
    congr 1
    have h := par L n
    have hh := half L n
    have hle : (L &&& n) ≤ L := Nat.and_le_left
    rcases Nat.mod_two_eq_zero_or_one L with ha | ha <;> rcases Nat.mod_two_eq_zero_or_one n with hb | hb <;> rw [ha, hb] at h <;> omega
def nearBits (t g : Nat) : Nat := if g = 0 then 0 else if g ≤ t + 1 then (2 ^ (2 * g - 1) - 1) * 2 ^ (t + 1 - g) else (2 ^ (2 * g - 1) - 1) / 2 ^ (g - 1 - t)
theorem nearBits_bit (t g x : Nat) : (nearBits t g).testBit x = decide (dist t x < (g : Int)) := by
  unfold nearBits dist
  by_cases h0 : g = 0
  · subst h0
    simp
    split <;> omega
  · rw [if_neg h0]
    by_cases h1 : g ≤ t + 1
    · rw [if_pos h1, ← Nat.shiftLeft_eq, Nat.testBit_shiftLeft, Nat.testBit_two_pow_sub_one]
      by_cases h2 : t + 1 - g ≤ x
      · simp only [ge_iff_le, h2, decide_true, Bool.true_and]
        congr 1
        simp only [eq_iff_iff]
        split <;> omega
      · simp only [ge_iff_le, h2, decide_false, Bool.false_and]
        symm
        simp only [decide_eq_false_iff_not]
        split <;> omega
    · rw [if_neg h1, ← Nat.shiftRight_eq_div_pow, Nat.testBit_shiftRight, Nat.testBit_two_pow_sub_one]
      congr 1
      simp only [eq_iff_iff]
      split <;> omega
/-- the bits of a set of numbers below n -/
def bitsOf (q : Nat → Bool) (n : Nat) : Nat := (((List.range n).filter q).map fun t => 2 ^ t).sum
theorem bitsOf_lt (q : Nat → Bool) : ∀ n, bitsOf q n < 2 ^ n
  | 0 => by simp [bitsOf]
  | n + 1 => by
    have ih := bitsOf_lt q n
    unfold bitsOf at *
    rw [List.range_succ, List.filter_append, List.map_append, List.sum_append, Nat.pow_succ]
    cases hq : q n <;> simp [hq] <;> omega
theorem bitsOf_bit (q : Nat → Bool) : ∀ n x, (bitsOf q n).testBit x = (decide (x < n) && q x)
  | 0, x => by simp [bitsOf]
  | n + 1, x => by
    have ih := bitsOf_bit q n
    have lt := bitsOf_lt q n
    have e : bitsOf q (n + 1) = if q n = true then 2 ^ n + bitsOf q n else bitsOf q n := by
      unfold bitsOf
      rw [List.range_succ, List.filter_append, List.map_append, List.sum_append]
      cases hq : q n <;> simp [hq] <;> omega
    rw [e]
    rcases Nat.lt_trichotomy x n with h | h | h
    · have h2 : x < n + 1 := by omega
      cases hq : q n
      · simp [ih, h, h2]
      · simp only [if_true]
        rw [Nat.testBit_two_pow_add_gt h, ih]
        simp [h, h2]
    · subst h
      cases hq : q x
      · simp [ih, hq]
      · simp only [if_true]
        rw [Nat.testBit_two_pow_add_eq, ih]
        simp
    · have h2 : ¬ x < n + 1 := by omega
      have big : (if q n = true then 2 ^ n + bitsOf q n else bitsOf q n) < 2 ^ x := by
        have : 2 ^ (n + 1) ≤ 2 ^ x := Nat.pow_le_pow_right (by omega) (by omega)
        rw [Nat.pow_succ] at this
        split <;> omega
      rw [Nat.testBit_lt_two_pow big]
      simp [h2]
end K11

namespace Sv
open PySem PySem.Spec PyProof.Rows L2 Pre Dv
/-- a loop that goes on to its end -/
theorem loopF_fold {S : Type} {Gg : Fg} {s : Fs} (mk : S → Env) (st : PyData → S → S) : ∀ (ds : List PyData), (∀ d ∈ ds, ∀ x, ∃ e1, Gg d (mk x) = some e1 ∧ s e1 = some (.nx (mk (st d x)))) → ∀ x, loopF Gg s ds (mk x) = some (.nx (mk (ds.foldl (fun x d => st d x) x)))
  | [], _, x => rfl
  | d :: ds, h, x => by
    obtain ⟨e1, h1, h2⟩ := h d List.mem_cons_self x
    rw [loopF, h1, Option.bind_some, h2]
    exact loopF_fold mk st ds (fun y hy => h y (List.mem_cons_of_mem _ hy)) (st d x)
end Sv
namespace K11
open PySem PySem.Spec PyProof.Rows L2 Pre Dv Sv
local macro_rules | `(tactic| walk_at "sv") => `(tactic| simp (maxSteps := 4000000) [*, gDef, forF, seqF, setF, iffF, retF, nxF, Sv.vr, cc, op2, eqDP, eqP, fl, scal, ipi, ipc, ipb, bn, aC, aN, o1, o2, ixLP, ixTP, Xq.divP, tbF, notF, truF, truD, andF, orF, andV, orV, notV, ifV, lsF, lenP, absP, negF, Xq.invF, callF, Xq.callFS, callM, aM, upE, posOf, flF, noL, noL.noLs, asgF, tpG, coG, nmG, niG, slTF, slLF, oS, oN, tupF, itmF, ixN, atI_0, atI_1, atI_2, atI_3, appF, outF, ownF, augF, isP, isN_none, isN_int, isN_str, isN_bool, isN_list, isN_tuple, rg1, Xq.enQF, Xq.zpAF, gJ_row, gJ_list, f1, bnf, gJ_tuple, lcF, shaped_nats, eqv_nats, gQ_row, gR_row0, mixP, gI_int, gS_str, gB_bool, gL_list, gT_tuple, gT_web, gT_row, Xq.orX, Xq.raiF, Xq.xDef, Xq.tryF, Xq.unsO, Xq.exN_D, Xq.isXF, tuF, rdF, qB, qI, k_ii, k_ib, k_bi, k_bb, k_ni, k_si, k_li, k_ti, k_di, k_nt, k_bt, k_it, k_st, k_lt, k_tt, k_dt, gR_list, gQ_list, gQ_tuple, gQ_scr, asL_scr, asL_list, asL_tuple, gR_scr, ck, shaped_ints, shaped_nil, eqv_nil, isF, isiP, tyN, chnF, wipeE, restE, -List.all_eq_true, -List.map_cons, -List.map_nil])
theorem op2_i {g : Int → Int → Int} {F G : Fx} {e e1 e2 : Sv.Env} {a b : Int} (h1 : F e = some (.int a, e1)) (h2 : G e1 = some (.int b, e2)) : op2 (ipi g) F G e = some (.int (g a b), e2) := by simp [op2, ipi, h1, h2, gI_int]
theorem op2_c {c : Int → Int → Bool} {g : Int → Int → Int} {F G : Fx} {e e1 e2 : Sv.Env} {a b : Int} (h1 : F e = some (.int a, e1)) (h2 : G e1 = some (.int b, e2)) (hc : c a b = true) : op2 (ipc c g) F G e = some (.int (g a b), e2) := by simp [op2, ipc, h1, h2, gI_int, hc]
theorem op2_b {g : Int → Int → Bool} {F G : Fx} {e e1 e2 : Sv.Env} {a b : Int} (h1 : F e = some (.int a, e1)) (h2 : G e1 = some (.int b, e2)) : op2 (ipb g) F G e = some (.bool (g a b), e2) := by simp [op2, ipb, h1, h2, gI_int]
theorem ev_tunes_near (t g : Nat) (hg : g ≤ 5) (ht : t < 100) : g_tunes_near [natD t, natD g] = some (natD (nearBits t g), [natD t, natD g]) := by
  have e0 : Sv.envOf n_tunes_near [natD t, natD g] = [some (natD t), some (natD g), none, none] := rfl
  have v0 : ∀ x y : Option PyData, vr 0 [some (natD t), some (natD g), x, y] = some (.int (t : Int), [some (natD t), some (natD g), x, y]) := fun _ _ => rfl
  have v1 : ∀ x y : Option PyData, vr 1 [some (natD t), some (natD g), x, y] = some (.int (g : Int), [some (natD t), some (natD g), x, y]) := fun _ _ => rfl
  by_cases h0 : g = 0
  · subst h0
    have e1 : nearBits t 0 = 0 := rfl
    unfold g_tunes_near f_tunes_near
    walk_at "sv"
  · have h6 : 2 ^ (2 * g - 1) - 1 < 18446744073709551616 := by
      have : 2 ^ (2 * g - 1) ≤ 2 ^ 9 := Nat.pow_le_pow_right (by omega) (by omega)
      omega
    have h4 : (2 * (g : Int) - 1).toNat = 2 * g - 1 := by omega
    have hA : op2 subP (op2 shlP (cc (.int 1)) (op2 subP (op2 mulP (cc (.int 2)) (vr 1)) (cc (.int 1)))) (cc (.int 1)) [some (natD t), some (natD g), none, none] = some (natD (2 ^ (2 * g - 1) - 1), [some (natD t), some (natD g), none, none]) := by
      have a1 := op2_c (c := fun i j => decide ((-(2 ^ 64) < i ∧ i < 2 ^ 64) ∨ (-(2 ^ 64) < j ∧ j < 2 ^ 64))) (g := fun i j => i * j) (F := cc (.int 2)) (G := vr 1) (e := [some (natD t), some (natD g), none, none]) rfl (v1 none none) (by simp)
      have a2 := op2_i (g := fun i j => i - j) (G := cc (.int 1)) a1 rfl
      have a3 := op2_c (c := fun i j => decide (0 ≤ j ∧ j ≤ 1000000 ∧ i.natAbs < 2 ^ 64)) (g := fun i j => i * 2 ^ j.toNat) (F := cc (.int 1)) (e := [some (natD t), some (natD g), none, none]) rfl a2 (by simp; omega)
      have a4 := op2_i (g := fun i j => i - j) (G := cc (.int 1)) a3 rfl
      refine a4.trans ?_
      have : 0 < 2 ^ (2 * g - 1) := Nat.pow_pos (by omega)
      rw [h4, ← pow_int]
      have e : (1 : Int) * ((2 ^ (2 * g - 1) : Nat) : Int) - 1 = ((2 ^ (2 * g - 1) - 1 : Nat) : Int) := by omega
      rw [e]
    have hB : op2 subP (vr 0) (op2 subP (vr 1) (cc (.int 1))) [some (natD t), some (natD g), some (natD (2 ^ (2 * g - 1) - 1)), none] = some (.int ((t : Int) - ((g : Int) - 1)), [some (natD t), some (natD g), some (natD (2 ^ (2 * g - 1) - 1)), none]) :=
      op2_i (g := fun i j => i - j) (v0 _ _) (op2_i (g := fun i j => i - j) (v1 _ _) rfl)
    have hC : ifV (tbF (op2 geP (vr 3) (cc (.int 0)))) (op2 shlP (vr 2) (vr 3)) (op2 shrP (vr 2) (negF (vr 3))) [some (natD t), some (natD g), some (natD (2 ^ (2 * g - 1) - 1)), some (.int ((t : Int) - ((g : Int) - 1)))] = some (natD (nearBits t g), [some (natD t), some (natD g), some (natD (2 ^ (2 * g - 1) - 1)), some (.int ((t : Int) - ((g : Int) - 1)))]) := by
      have b1 := op2_b (g := fun i j => decide (j ≤ i)) (F := vr 3) (G := cc (.int 0)) (e := [some (natD t), some (natD g), some (natD (2 ^ (2 * g - 1) - 1)), some (.int ((t : Int) - ((g : Int) - 1)))]) rfl rfl
      unfold nearBits ifV tbF
      rw [if_neg h0, b1]
      by_cases h7 : g ≤ t + 1
      · have h9 : ((t : Int) - ((g : Int) - 1)).toNat = t + 1 - g := by omega
        have b2 := op2_c (c := fun i j => decide (0 ≤ j ∧ j ≤ 1000000 ∧ i.natAbs < 2 ^ 64)) (g := fun i j => i * 2 ^ j.toNat) (F := vr 2) (G := vr 3) (e := [some (natD t), some (natD g), some (natD (2 ^ (2 * g - 1) - 1)), some (.int ((t : Int) - ((g : Int) - 1)))]) rfl rfl (by simp only [decide_eq_true_eq]; omega)
        rw [if_pos h7]
        have d : decide ((0 : Int) ≤ (t : Int) - ((g : Int) - 1)) = true := by simp only [decide_eq_true_eq]; omega
        rw [d]
        simp only [gB_bool, Option.map_some, Option.bind_some, if_true]
        refine b2.trans ?_
        rw [h9]
        have e : (((2 ^ (2 * g - 1) - 1 : Nat) : Int) * 2 ^ (t + 1 - g)) = (((2 ^ (2 * g - 1) - 1) * 2 ^ (t + 1 - g) : Nat) : Int) := by rw [Int.natCast_mul, pow_int]
        rw [e]
      · have h9 : (-((t : Int) - ((g : Int) - 1))).toNat = g - 1 - t := by omega
        have b2 := op2_c (c := fun _ j => decide (0 ≤ j)) (g := fun i j => i / 2 ^ j.toNat) (F := vr 2) (G := negF (vr 3)) (e := [some (natD t), some (natD g), some (natD (2 ^ (2 * g - 1) - 1)), some (.int ((t : Int) - ((g : Int) - 1)))]) rfl rfl (by simp only [decide_eq_true_eq]; omega)
        rw [if_neg h7]
        have d : decide ((0 : Int) ≤ (t : Int) - ((g : Int) - 1)) = false := by simp only [decide_eq_false_iff_not]; omega
        rw [d]
        simp only [gB_bool, Option.map_some, Option.bind_some, Bool.false_eq_true, if_false]
        refine b2.trans ?_
        rw [h9]
        have e : (((2 ^ (2 * g - 1) - 1 : Nat) : Int) / 2 ^ (g - 1 - t)) = (((2 ^ (2 * g - 1) - 1) / 2 ^ (g - 1 - t) : Nat) : Int) := by rw [Int.natCast_ediv, pow_int]
        rw [e]
    have h1 : ¬ (g : Int) < 1 := by omega
    have hT : tbF (op2 ltP (vr 1) (cc (.int 1))) [some (natD t), some (natD g), none, none] = some (false, [some (natD t), some (natD g), none, none]) := by
      unfold tbF
      rw [op2_b (g := fun i j => decide (i < j)) (v1 none none) rfl]
      simp [h1, gB_bool]
    unfold g_tunes_near f_tunes_near
    simp [gDef, e0, seqF, iffF, hT, nxF, setF, hA, hB, retF, hC, mixP]
/-! ## what is left beside given tunes -/
def optD : Option Nat → PyData
  | none => .none
  | some t => natD t
def nearG (w : Web) (gs : List (Option Nat)) (i t : Nat) (j : Nat) : Bool := match (gs[j]?).join with
  | some u => decide (dist u t < (w.gap i j : Int))
  | none => false
def leftQ (w : Web) (gs : List (Option Nat)) (i t : Nat) : Bool := (w.lst i).testBit t && ((List.range w.names.length).filter (nearG w gs i t)).isEmpty
structure GOk (w : Web) (gs : List (Option Nat)) : Prop where
  len : gs.length = w.names.length
  lt : ∀ t, some t ∈ gs → t < w.m
section
variable {w : Web} {gs : List (Option Nat)}
theorem GOk.at_ (h : GOk w gs) {j : Nat} (hj : j < w.names.length) : ∃ o, gs[j]? = some o ∧ (∀ u, o = some u → u < w.m) := by
  have hj2 : j < gs.length := by rw [h.len]; exact hj
  exact ⟨gs[j], List.getElem?_eq_getElem hj2, fun u e => h.lt u (e ▸ List.getElem_mem hj2)⟩
def nearGP (w : Web) (gs : List (Option Nat)) (i t : Nat) : PyData → Bool
  | .tuple (.int j :: _) => nearG w gs i t j.toNat
  | _ => false
def fstD : PyData → PyData
  | .tuple (d :: _) => d
  | d => d
theorem ev_near2 (h : w.Ok) (hg : GOk w gs) {i : Nat} (hi : i < w.names.length) {D : PyData} {k : Bool} (hD : Xq.gJ D = some (k, gs.map optD)) (t : Nat) (m : PyData) (l x6 : Option PyData) :
    c__law_left_1 [some (webD w), some D, some (natD i), some m, l, some (natD t), x6, none, none] = some (.list (((List.range w.names.length).filter (nearG w gs i t)).map natD), [some (webD w), some D, some (natD i), some m, l, some (natD t), x6, none, none]) := by
  have n2 := h.n2
  have e4 := h.at_row hi
  have body := lcL_map (vs := [7, 8]) (Gg := tpG (coG (nmG 7) (coG (nmG 8) niG))) (T := andF (tbF (op2 (isP true) (vr 8) (cc .none))) (tbF (op2 ltP (bn absP (aC (op2 subP (vr 8) (vr 5)) aN)) (op2 ixTP (op2 ixTP (op2 ixTP (vr 0) (cc (.int 2))) (vr 2)) (vr 7))))) (F := vr 7)
    (env := [some (webD w), some D, some (natD i), some m, l, some (natD t), x6, none, none]) (nearGP w gs i t) fstD (enD (gs.map optD)) (fun d hd => by
    obtain ⟨j, x, hj, hx, rfl⟩ := enD_mem hd
    have hj2 : j < w.names.length := by rw [← hg.len]; simpa using hj
    obtain ⟨o, ho, _⟩ := hg.at_ hj2
    have ex : x = optD o := by
      rw [List.getElem?_map, ho] at hx
      exact (Option.some.inj hx).symm
    subst ex
    have f2 := h.at_gap hi hj2
    have f3 : nearGP w gs i t (PyData.tuple [.int (j : Int), optD o]) = nearG w gs i t j := rfl
    refine ⟨_, [some (webD w), some D, some (natD i), some m, l, some (natD t), x6, some (natD j), some (optD o)], rfl, ?_, fun _ => rfl, fun _ => ⟨_, rfl, rfl⟩⟩
    rw [f3]
    unfold nearG
    rw [ho]
    cases o with
    | none =>
      have f4 : optD none = PyData.none := rfl
      rw [f4]
      walk_at "sv"
    | some u =>
      have f4 : optD (some u) = natD u := rfl
      rw [f4]
      show _ = some (decide (dist u t < (w.gap i j : Int)), _)
      unfold dist
      walk_at "sv")
  have e5 : ((enD (gs.map optD)).filter (nearGP w gs i t)).map fstD = ((List.range w.names.length).filter (nearG w gs i t)).map natD := by
    have e : enD (gs.map optD) = (List.range w.names.length).map fun j => PyData.tuple [natD j, ((gs.map optD)[j]?).getD .none] := by
      refine List.ext_getElem ?_ fun k h1 h2 => ?_
      · simp [enD, hg.len]
      · have hk : k < w.names.length := by simpa using h2
        have hk2 : k < gs.length := by rw [hg.len]; exact hk
        simp [enD, hk2]
    rw [e, List.filter_map, List.map_map]
    rfl
  rw [e5] at body
  have h1 : (enD (gs.map optD)).length ≤ 50000 := by simp [enD, hg.len]; omega
  unfold c__law_left_1
  walk_at "sv"
def addL (w : Web) (gs : List (Option Nat)) (i : Nat) : PyData → List Nat × Option PyData × Option PyData → List Nat × Option PyData × Option PyData
  | .int t, x => (if leftQ w gs i t.toNat = true then x.1 ++ [t.toNat] else x.1, some (.int t), some (.list (((List.range w.names.length).filter (nearG w gs i t.toNat)).map natD)))
  | _, x => x
def leftL (w : Web) (gs : List (Option Nat)) (i n : Nat) : List Nat := (List.range n).filter (leftQ w gs i)
theorem addL_fold (w : Web) (gs : List (Option Nat)) (i : Nat) : ∀ (n : Nat) (x : Option PyData × Option PyData), ((rngD 0 n).foldl (fun x d => addL w gs i d x) ([], x)).1 = leftL w gs i n
  | 0, x => rfl
  | n + 1, x => by
    have ih := addL_fold w gs i n x
    have e : rngD 0 (n + 1) = rngD 0 n ++ [.int (n : Int)] := by simp [rngD, List.range_succ]
    rw [e, List.foldl_append]
    show (addL w gs i (.int (n : Int)) _).1 = _
    unfold addL leftL at *
    rw [List.range_succ, List.filter_append]
    simp only [Int.toNat_natCast]
    rw [ih]
    cases hq : leftQ w gs i n <;> simp [hq]
theorem lst_bit (l t : Nat) : ((((l : Nat) : Int) / 2 ^ t % 2 = 1)) = (l.testBit t = true) := by
  have e : (((l : Nat) : Int) / 2 ^ t % 2) = ((l / 2 ^ t % 2 : Nat) : Int) := by rw [← pow_int]; rfl
  rw [e, Nat.testBit_eq_decide_div_mod_eq]
  simp only [decide_eq_true_eq, eq_iff_iff]
  omega
theorem len_left (w : Web) (gs : List (Option Nat)) (i n : Nat) : (leftL w gs i n).length ≤ n := by
  have := List.length_filter_le (leftQ w gs i) (List.range n)
  simpa [leftL] using this
end
end K11

namespace Sv
open PySem PySem.Spec PyProof.Rows L2 Pre Dv
/-- a loop that goes on to its end, its state told by how many turns were made -/
theorem loopF_idx {Gg : Fg} {s : Fs} : ∀ (ds : List PyData) (x : Nat → Env), (∀ k d, ds[k]? = some d → ∃ e1, Gg d (x k) = some e1 ∧ s e1 = some (.nx (x (k + 1)))) → loopF Gg s ds (x 0) = some (.nx (x ds.length))
  | [], x, _ => rfl
  | d :: ds, x, h => by
    obtain ⟨e1, h1, h2⟩ := h 0 d rfl
    rw [loopF, h1, Option.bind_some, h2]
    exact loopF_idx ds (fun k => x (k + 1)) fun k d hd => h (k + 1) d hd
theorem rngD_at {n k : Nat} {d : PyData} (h : (rngD 0 n)[k]? = some d) : k < n ∧ d = .int (k : Int) := by
  unfold rngD at h
  rw [List.getElem?_map] at h
  obtain ⟨j, h1, h2⟩ := Option.map_eq_some_iff.mp h
  obtain ⟨h3, h4⟩ := List.getElem?_eq_some_iff.mp h1
  have h5 : k < n := by simpa using h3
  have h6 : j = k := by rw [← h4]; simp
  exact ⟨h5, by rw [← h2, h6]; simp⟩
def lastD (f : Nat → PyData) : Nat → Option PyData
  | 0 => none
  | k + 1 => some (f k)
theorem lastD_succ {f : Nat → PyData} {k : Nat} : lastD f (k + 1) = some (f k) := rfl
theorem lastD_0 {f : Nat → PyData} : lastD f 0 = none := rfl
end Sv
namespace K11
open PySem PySem.Spec PyProof.Rows L2 Pre Dv Sv
local macro_rules | `(tactic| walk_at "sv") => `(tactic| simp (maxSteps := 4000000) [*, gDef, forF, seqF, setF, iffF, retF, nxF, Sv.vr, cc, op2, eqDP, eqP, fl, scal, ipi, ipc, ipb, bn, aC, aN, o1, o2, ixLP, ixTP, Xq.divP, tbF, notF, truF, truD, andF, orF, andV, orV, notV, ifV, lsF, lenP, absP, negF, Xq.invF, callF, Xq.callFS, callM, aM, upE, posOf, flF, noL, noL.noLs, asgF, tpG, coG, nmG, niG, slTF, slLF, oS, oN, tupF, itmF, ixN, atI_0, atI_1, atI_2, atI_3, appF, outF, ownF, augF, isP, isN_none, isN_int, isN_str, isN_bool, isN_list, isN_tuple, rg1, Xq.enQF, Xq.zpAF, gJ_row, gJ_list, f1, bnf, gJ_tuple, lcF, shaped_nats, eqv_nats, gQ_row, gR_row0, mixP, gI_int, gS_str, gB_bool, gL_list, gT_tuple, gT_web, gT_row, Xq.orX, Xq.raiF, Xq.xDef, Xq.tryF, Xq.unsO, Xq.exN_D, Xq.isXF, tuF, rdF, qB, qI, k_ii, k_ib, k_bi, k_bb, k_ni, k_si, k_li, k_ti, k_di, k_nt, k_bt, k_it, k_st, k_lt, k_tt, k_dt, gR_list, gQ_list, gQ_tuple, gQ_scr, asL_scr, asL_list, asL_tuple, gR_scr, ck, shaped_ints, shaped_nil, eqv_nil, isF, isiP, tyN, chnF, wipeE, restE, -List.all_eq_true, -List.map_cons, -List.map_nil])
section
variable {w : Web} {gs : List (Option Nat)}
theorem pow_lt60 {t m : Nat} (h : t < m) (hm : m ≤ 60) : (0 : Int) < 2 ^ t ∧ (2 : Int) ^ t < 1267650600228229401496703205376 := by
  have h2 : 2 ^ t ≤ 2 ^ 60 := Nat.pow_le_pow_right (by omega) (by omega)
  have h3 : ((2 ^ t : Nat) : Int) ≤ ((2 ^ 60 : Nat) : Int) := by exact_mod_cast h2
  rw [pow_int] at h3
  exact ⟨Int.pow_pos (by omega), Int.lt_of_le_of_lt h3 (by decide)⟩
def nearJ (w : Web) (gs : List (Option Nat)) (i t : Nat) : List Nat := (List.range w.names.length).filter (nearG w gs i t)
theorem leftL_succ (w : Web) (gs : List (Option Nat)) (i t : Nat) : leftL w gs i (t + 1) = if leftQ w gs i t = true then leftL w gs i t ++ [t] else leftL w gs i t := by
  unfold leftL
  rw [List.range_succ, List.filter_append]
  cases hq : leftQ w gs i t <;> simp [hq]
theorem ev_law_left (h : w.Ok) (hg : GOk w gs) {i : Nat} (hi : i < w.names.length) {D : PyData} {k : Bool} (hD : Xq.gJ D = some (k, gs.map optD)) (n : Nat) (hn : n ≤ w.m) :
    g__law_left [webD w, D, natD i, natD n] = some (.list ((leftL w gs i n).map natD), [webD w, D, natD i, natD n]) := by
  have e0 : Sv.envOf n__law_left [webD w, D, natD i, natD n] = [some (webD w), some D, some (natD i), some (natD n), none, none, none, none, none] := rfl
  have n2 := h.n2
  have m2 := h.m2
  have loop := loopF_idx (Gg := nmG 5) (s := b__law_left_1) (rngD 0 n) (fun t => [some (webD w), some D, some (natD i), some (natD n), some (.list ((leftL w gs i t).map natD)), lastD natD t, lastD (fun t => .list ((nearJ w gs i t).map natD)) t, none, none]) (fun t d hd => by
    obtain ⟨ht, rfl⟩ := rngD_at hd
    have f1 := ev_near2 h hg hi hD t (natD n) (some (.list ((leftL w gs i t).map natD))) (lastD (fun t => .list ((nearJ w gs i t).map natD)) t)
    have f2 := h.at_lst hi
    obtain ⟨f3, f4⟩ := pow_lt60 (t := t) (m := w.m) (by omega) m2
    have f5 : ((t : Nat) : Int) ≤ 1000000 := by omega
    have f6 := lst_bit (w.lst i) t
    have f7 := len_left w gs i t
    have f8 : (leftL w gs i t).length < 100000 := by omega
    have f9 : ((rngD 0 n).length) = n := rngD_length
    refine ⟨_, rfl, ?_⟩
    unfold b__law_left_1
    have f10 : (List.range w.names.length).filter (nearG w gs i t) = nearJ w gs i t := rfl
    rw [f10] at f1
    have f11 : leftQ w gs i t = ((w.lst i).testBit t && (nearJ w gs i t).isEmpty) := rfl
    have f12 := leftL_succ w gs i t
    have f13 : List.map natD [t] = [natD t] := rfl
    cases hb : (w.lst i).testBit t <;> cases hj : (nearJ w gs i t).isEmpty <;> rw [hb] at f6 f11 <;> rw [hj] at f11 <;> simp only [Bool.and_true, Bool.and_false, Bool.false_and] at f11 <;> rw [f11] at f12 <;> simp only [Bool.false_eq_true, if_false, if_true] at f12 f6 <;> rw [f12] <;> simp only [lastD_succ] <;> walk_at "sv")
  have hn2 : -1000000 ≤ (n : Int) ∧ (n : Int) ≤ 1000000 := by omega
  have f9 : ((rngD 0 n).length) = n := rngD_length
  rw [f9] at loop
  have z1 : leftL w gs i 0 = [] := rfl
  simp only [z1, lastD_0, List.map_nil] at loop
  unfold g__law_left f__law_left l__law_left_1
  walk_at "sv"
/-! left_for -/
def takeBits (w : Web) (gs : List (Option Nat)) (i : Nat) : Nat → Nat → Nat
  | 0, l => l
  | k + 1, l => match (gs[k]?).join with
    | some u => takeBits w gs i k l - (takeBits w gs i k l &&& nearBits u (w.gap i k))
    | none => takeBits w gs i k l
theorem takeBits_bit (w : Web) (gs : List (Option Nat)) (i l x : Nat) : ∀ k, (takeBits w gs i k l).testBit x = (l.testBit x && ((List.range k).filter (nearG w gs i x)).isEmpty)
  | 0 => by simp [takeBits]
  | k + 1 => by
    have ih := takeBits_bit w gs i l x k
    unfold takeBits
    rw [List.range_succ, List.filter_append]
    cases ho : (gs[k]?).join with
    | none =>
      have e : nearG w gs i x k = false := by unfold nearG; rw [ho]
      simp [e, ih]
    | some u =>
      have e : nearG w gs i x k = decide (dist u x < (w.gap i k : Int)) := by unfold nearG; rw [ho]
      show (takeBits w gs i k l - (takeBits w gs i k l &&& nearBits u (w.gap i k))).testBit x = _
      rw [sub_land_testBit, ih, nearBits_bit]
      cases hd : decide (dist u x < (w.gap i k : Int))
      · rw [hd] at e
        simp [e]
      · rw [hd] at e
        rw [List.filter_cons_of_pos e]
        simp
theorem zpD_at {ds es : List PyData} {k : Nat} {d : PyData} (h : (zpD ds es)[k]? = some d) : ∃ x y, ds[k]? = some x ∧ es[k]? = some y ∧ d = .tuple [x, y] := by
  unfold zpD at h
  rw [List.getElem?_zipWith] at h
  cases h1 : ds[k]? with
  | none => rw [h1] at h; simp at h
  | some x =>
    cases h2 : es[k]? with
    | none => rw [h1, h2] at h; simp at h
    | some y => rw [h1, h2] at h; simp at h; exact ⟨x, y, rfl, rfl, h.symm⟩
theorem ev_left_for (h : w.Ok) (hg : GOk w gs) {i : Nat} (hi : i < w.names.length) {D : PyData} {k : Bool} (hD : Xq.gJ D = some (k, gs.map optD)) (n : Nat) (hn : n ≤ w.m) :
    g_left_for [webD w, D, natD i, natD n] = some (natD (takeBits w gs i w.names.length (w.lst i % 2 ^ n)), [webD w, D, natD i, natD n]) := by
  have e0 : Sv.envOf n_left_for [webD w, D, natD i, natD n] = [some (webD w), some D, some (natD i), some (natD n), none, none, none, none, none] := rfl
  have n2 := h.n2
  have m2 := h.m2
  have e1 := cut_web w
  have e4 := h.at_row hi
  have e5 := h.at_lst hi
  have hz : (zpD (gs.map optD) ((w.row i).map natD)).length = w.names.length := by simp [zpD, hg.len, h.row_len hi]
  have loop := loopF_idx (Gg := tpG (coG (nmG 7) (coG (nmG 8) niG))) (s := b_left_for_1) (zpD (gs.map optD) ((w.row i).map natD)) (fun j => [some (webD w), some D, some (natD i), some (natD n), some (.tuple (w.gaps.map rowD)), some (.tuple (w.lists.map natD)), some (natD (takeBits w gs i j (w.lst i % 2 ^ n))), lastD (fun j => ((gs.map optD)[j]?).getD .none) j, lastD (fun j => natD (w.gap i j)) j]) (fun j d hd => by
    obtain ⟨x, y, h1, h2, rfl⟩ := zpD_at hd
    have hj : j < w.names.length := by
      have := (List.getElem?_eq_some_iff.mp h1).1
      rw [← hg.len]; simpa using this
    obtain ⟨o, ho, hu⟩ := hg.at_ hj
    have ex : x = optD o := by
      rw [List.getElem?_map, ho] at h1
      exact (Option.some.inj h1).symm
    have ey : y = natD (w.gap i j) := by
      have hr : j < (w.row i).length := by rw [h.row_len hi]; exact hj
      rw [List.getElem?_map, List.getElem?_eq_getElem hr] at h2
      have : w.gap i j = (w.row i)[j] := by unfold Web.gap; rw [List.getD_eq_getElem?_getD, List.getElem?_eq_getElem hr]; rfl
      rw [this]
      exact (Option.some.inj h2).symm
    subst ex ey
    have e6 : ((gs.map optD)[j]?).getD PyData.none = optD o := by rw [h1]; rfl
    refine ⟨_, rfl, ?_⟩
    simp only [lastD_succ]
    rw [e6]
    cases o with
    | none =>
      have e7 : takeBits w gs i (j + 1) (w.lst i % 2 ^ n) = takeBits w gs i j (w.lst i % 2 ^ n) := by
        show (match (gs[j]?).join with | some u => _ | none => _) = _
        rw [ho]
        rfl
      have e8 : optD none = PyData.none := rfl
      rw [e7, e8]
      unfold b_left_for_1
      walk_at "sv"
    | some u =>
      have e7 : takeBits w gs i (j + 1) (w.lst i % 2 ^ n) = takeBits w gs i j (w.lst i % 2 ^ n) - (takeBits w gs i j (w.lst i % 2 ^ n) &&& nearBits u (w.gap i j)) := by
        show (match (gs[j]?).join with | some u => _ | none => _) = _
        rw [ho]
        rfl
      have e8 : optD (some u) = natD u := rfl
      have e9 := ev_tunes_near u (w.gap i j) (h.gap_le hi hj) (by have := hu u rfl; omega)
      rw [e7, e8]
      generalize takeBits w gs i j (w.lst i % 2 ^ n) = l
      have e10 : Builtin.bitAnd (l : Int) (Builtin.bitNot (nearBits u (w.gap i j) : Int)) = ((l - (l &&& nearBits u (w.gap i j)) : Nat) : Int) := by
        have : (l &&& nearBits u (w.gap i j)) ≤ l := Nat.and_le_left
        rw [PyProof.Rows.bitAnd_not, PyProof.Rows.bitAnd_pp (by omega) (by omega)]
        simp only [Int.toNat_natCast]
        omega
      unfold b_left_for_1
      walk_at "sv")
  rw [hz] at loop
  have z1 : takeBits w gs i 0 (w.lst i % 2 ^ n) = w.lst i % 2 ^ n := rfl
  simp only [z1, lastD_0] at loop
  have m1 : (if 0 < n then (n : Int) else 0) = n := by split <;> omega
  have m3 : Builtin.bitAnd ((w.lst i : Nat) : Int) (2 ^ n - 1) = ((w.lst i % 2 ^ n : Nat) : Int) := by
    rw [Bits.bitAnd_mask n (by omega), ← pow_int]
    rfl
  have m4 : (n : Int) ≤ 1000000 := by omega
  generalize w.lst i % 2 ^ n = L at loop m3 ⊢
  unfold g_left_for f_left_for l_left_for_1
  walk_at "sv"
end
end K11

namespace Sv
open PySem PySem.Spec PyProof.Rows L2 Pre Dv
theorem loopF_keep {Gg : Fg} {s : Fs} (P : Env → Prop) : ∀ (ds : List PyData), (∀ d ∈ ds, ∀ e, P e → ∃ e1 e2, Gg d e = some e1 ∧ s e1 = some (.nx e2) ∧ P e2) → ∀ e, P e → ∃ e2, loopF Gg s ds e = some (.nx e2) ∧ P e2
  | [], _, e, h => ⟨e, rfl, h⟩
  | d :: ds, hs, e, h => by
    obtain ⟨e1, e2, h1, h2, h3⟩ := hs d List.mem_cons_self e h
    rw [loopF, h1, Option.bind_some, h2]
    exact loopF_keep P ds (fun y hy => hs y (List.mem_cons_of_mem _ hy)) e2 h3
end Sv
namespace K11
open PySem PySem.Spec PyProof.Rows L2 Pre Dv Sv
local macro_rules | `(tactic| walk_at "sv") => `(tactic| simp (maxSteps := 4000000) [*, gDef, forF, seqF, setF, iffF, retF, nxF, Sv.vr, cc, op2, eqDP, eqP, fl, scal, ipi, ipc, ipb, bn, aC, aN, o1, o2, ixLP, ixTP, Xq.divP, tbF, notF, truF, truD, andF, orF, andV, orV, notV, ifV, lsF, lenP, absP, negF, Xq.invF, callF, Xq.callFS, callM, aM, upE, posOf, flF, noL, noL.noLs, asgF, tpG, coG, nmG, niG, slTF, slLF, oS, oN, tupF, itmF, ixN, atI_0, atI_1, atI_2, atI_3, appF, outF, ownF, augF, isP, isN_none, isN_int, isN_str, isN_bool, isN_list, isN_tuple, rg1, Xq.enQF, Xq.zpAF, gJ_row, gJ_list, f1, bnf, gJ_tuple, lcF, shaped_nats, eqv_nats, gQ_row, gR_row0, mixP, gI_int, gS_str, gB_bool, gL_list, gT_tuple, gT_web, gT_row, Xq.orX, Xq.raiF, Xq.xDef, Xq.tryF, Xq.unsO, Xq.exN_D, Xq.isXF, tuF, rdF, qB, qI, k_ii, k_ib, k_bi, k_bb, k_ni, k_si, k_li, k_ti, k_di, k_nt, k_bt, k_it, k_st, k_lt, k_tt, k_dt, gR_list, gQ_list, gQ_tuple, gQ_scr, asL_scr, asL_list, asL_tuple, gR_scr, ck, shaped_ints, shaped_nil, eqv_nil, isF, isiP, tyN, chnF, wipeE, restE, -List.all_eq_true, -List.map_cons, -List.map_nil])
section
variable {w : Web} {p : List Nat}
/-- the tunes of some stations given -/
def givenL (p : List Nat) (num : Nat) : List (Option Nat) := (List.range p.length).map fun j => if num.testBit j = true then some (tn p j) else none
theorem given_ok (h : w.Ok) (hp : POk w p) (num : Nat) : GOk w (givenL p num) := by
  refine ⟨by simp [givenL, hp.len], fun t ht => ?_⟩
  obtain ⟨j, hj, e⟩ := List.mem_map.mp ht
  have hj2 : j < w.names.length := by rw [← hp.len]; exact List.mem_range.mp hj
  split at e
  · cases e; exact hp.lt_ hj2
  · cases e
theorem mod_bit (num i : Nat) : Builtin.bitAnd ((num : Int) / 2 ^ i) 1 = if num.testBit i = true then 1 else 0 := by
  rw [PyProof.Rows.bitAnd_m1]
  have e : ((num : Int) / 2 ^ i % 2) = ((num / 2 ^ i % 2 : Nat) : Int) := by rw [← pow_int]; rfl
  rw [e, Nat.testBit_eq_decide_div_mod_eq]
  simp only [decide_eq_true_eq]
  split <;> omega
theorem ev_given (h : w.Ok) (hp : POk w p) (num : Nat) (x3 x6 x7 x8 x9 : Option PyData) : c__law_all_left_1 [some (webD w), some (rowD p), some (natD num), x3, none, none, x6, x7, x8, x9] = some (.list ((givenL p num).map optD), [some (webD w), some (rowD p), some (natD num), x3, none, none, x6, x7, x8, x9]) := by
  have n2 := h.n2
  have body := lcL_fn (vs := [4, 5]) (Gg := tpG (coG (nmG 4) (coG (nmG 5) niG))) (F := ifV (tbF (op2 (eqP false) (op2 bandP (op2 shrP (vr 2) (vr 4)) (cc (.int 1))) (cc (.int 1)))) (vr 5) (cc .none))
    (env := [some (webD w), some (rowD p), some (natD num), x3, none, none, x6, x7, x8, x9]) (fun d => match d with | .tuple (.int j :: _) => optD (if num.testBit j.toNat = true then some (tn p j.toNat) else none) | _ => .none) (enD (p.map natD)) (fun d hd => by
    obtain ⟨i, y, hi, hy, rfl⟩ := enD_mem hd
    have hi2 : i < w.names.length := by rw [← hp.len]; simpa using hi
    have ey : y = natD (tn p i) := by
      rw [List.getElem?_map] at hy
      have hk2 : i < p.length := by rw [hp.len]; exact hi2
      simp [hk2] at hy
      rw [← hy]
      simp [tn, hk2]
    subst ey
    refine ⟨_, [some (webD w), some (rowD p), some (natD num), x3, some (natD i), some (natD (tn p i)), x6, x7, x8, x9], rfl, ?_, rfl⟩
    have f1 := mod_bit num i
    simp only [Int.toNat_natCast]
    cases hb : num.testBit i
    · rw [hb] at f1
      simp only [Bool.false_eq_true, if_false] at f1
      have f2 : optD (if false = true then some (tn p i) else none) = .none := rfl
      rw [f2]
      walk_at "sv"
    · rw [hb] at f1
      simp only [if_true] at f1
      have f2 : optD (if true = true then some (tn p i) else none) = natD (tn p i) := rfl
      rw [f2]
      walk_at "sv")
  have e5 : (enD (p.map natD)).map (fun d => match d with | .tuple (.int j :: _) => optD (if num.testBit j.toNat = true then some (tn p j.toNat) else none) | _ => .none) = (givenL p num).map optD := by
    have e : enD (p.map natD) = (List.range p.length).map fun i => PyData.tuple [natD i, ((p.map natD)[i]?).getD .none] := by
      refine List.ext_getElem ?_ fun k h1 h2 => ?_
      · simp [enD]
      · have hk2 : k < p.length := by simpa using h2
        simp [enD, hk2]
    rw [e, givenL, List.map_map, List.map_map]
    rfl
  rw [e5] at body
  have h1 : (enD (p.map natD)).length ≤ 50000 := by simp [enD, hp.len]; omega
  unfold c__law_all_left_1
  walk_at "sv"
theorem given_at (h : w.Ok) (hp : POk w p) (num : Nat) {i : Nat} (hi : i < w.names.length) : atI ((givenL p num).map optD) (i : Int) = some (optD (if num.testBit i = true then some (tn p i) else none)) := by
  have : i < p.length := by rw [hp.len]; exact hi
  refine atI_of ?_
  simp [givenL, this]
theorem optD_none : isNone (optD none) = true := rfl
theorem optD_some (t : Nat) : isNone (optD (some t)) = false := rfl
theorem optD_fine {w : Web} {gs : List (Option Nat)} (hg : GOk w gs) (hm : w.m ≤ 60) : fine.fines (gs.map optD) = true := fines_map fun o ho => by
  cases o with
  | none => rfl
  | some t =>
    have := hg.lt t ho
    show decide _ = true
    simp
    omega
theorem eqv_opts (gs : List (Option Nat)) : PyData.eqv (.list (gs.map optD)) (.list (gs.map optD)) = true := by
  have key : ∀ gs : List (Option Nat), PyData.eqvAll (gs.map optD) (gs.map optD) = true := fun gs => by
    induction gs with
    | nil => rfl
    | cons o r ih =>
      cases o with
      | none => simpa [PyData.eqvAll, optD, PyData.eqv] using ih
      | some t => simpa [PyData.eqvAll, optD, PyData.eqv] using ih
  simpa [PyData.eqv] using key gs
theorem left_eq (h : w.Ok) {gs : List (Option Nat)} (i n : Nat) : takeBits w gs i w.names.length (w.lst i % 2 ^ n) = bitsOf (leftQ w gs i) n := by
  refine Nat.eq_of_testBit_eq fun x => ?_
  rw [takeBits_bit, bitsOf_bit, Nat.testBit_mod_two_pow]
  unfold leftQ
  rw [Bool.and_assoc]
theorem sum_bits (w : Web) (gs : List (Option Nat)) (i n : Nat) : ((leftL w gs i n).map fun t => (2 : Int) ^ t).sum = ((bitsOf (leftQ w gs i) n : Nat) : Int) := by
  unfold bitsOf leftL
  induction (List.range n).filter (leftQ w gs i) with
  | nil => rfl
  | cons t r ih =>
    simp only [List.map_cons, List.sum_cons]
    rw [ih, Int.natCast_add, pow_int]
end
end K11

namespace K11
open PySem PySem.Spec PyProof.Rows L2 Pre Dv Sv
local macro_rules | `(tactic| walk_at "sv") => `(tactic| simp (maxSteps := 4000000) [*, gDef, forF, seqF, setF, iffF, retF, nxF, Sv.vr, cc, op2, eqDP, eqP, fl, scal, ipi, ipc, ipb, bn, aC, aN, o1, o2, ixLP, ixTP, Xq.divP, tbF, notF, truF, truD, andF, orF, andV, orV, notV, ifV, lsF, lenP, absP, negF, Xq.invF, callF, Xq.callFS, callM, aM, upE, posOf, flF, noL, noL.noLs, asgF, tpG, coG, nmG, niG, slTF, slLF, oS, oN, tupF, itmF, ixN, atI_0, atI_1, atI_2, atI_3, appF, outF, ownF, augF, isP, isN_none, isN_int, isN_str, isN_bool, isN_list, isN_tuple, rg1, Xq.enQF, Xq.zpAF, gJ_row, gJ_list, f1, bnf, gJ_tuple, lcF, shaped_nats, eqv_nats, gQ_row, gR_row0, mixP, gI_int, gS_str, gB_bool, gL_list, gT_tuple, gT_web, gT_row, Xq.orX, Xq.raiF, Xq.xDef, Xq.tryF, Xq.unsO, Xq.exN_D, Xq.isXF, tuF, rdF, qB, qI, k_ii, k_ib, k_bi, k_bb, k_ni, k_si, k_li, k_ti, k_di, k_nt, k_bt, k_it, k_st, k_lt, k_tt, k_dt, gR_list, gQ_list, gQ_tuple, gQ_scr, asL_scr, asL_list, asL_tuple, gR_scr, ck, shaped_ints, shaped_nil, eqv_nil, isF, isiP, tyN, chnF, wipeE, restE, -List.all_eq_true, -List.map_cons, -List.map_nil])
theorem i_all3 {a b c : Nat} {x : Int} (hx : x = 0 ∨ x = 1 ∨ x = 2) : ∃ n ∈ [a, b, c], atI [natD a, natD b, natD c] x = some (natD n) := by
  rcases hx with rfl | rfl | rfl
  · exact ⟨a, by simp, atI_0⟩
  · exact ⟨b, by simp, atI_1⟩
  · exact ⟨c, by simp, atI_2⟩
section
variable {w : Web} {p : List Nat}
theorem ev_due (h : w.Ok) {gs : List (Option Nat)} (hg : GOk w gs) {i : Nat} (hi : i < w.names.length) (n : Nat) (hn : n ≤ w.m) (x1 x2 x7 x8 x9 : Option PyData) :
    c__law_all_left_2 [some (webD w), x1, x2, some (.tuple (gs.map optD)), some (natD i), none, some (natD n), x7, x8, x9] = some (.list ((leftL w gs i n).map fun t => .int (2 ^ t)), [some (webD w), x1, x2, some (.tuple (gs.map optD)), some (natD i), none, some (natD n), x7, x8, x9]) := by
  have m2 := h.m2
  have f1 := ev_law_left h hg hi (D := .tuple (gs.map optD)) (k := false) rfl n hn
  have body := lcL_fn (vs := [5]) (Gg := nmG 5) (F := op2 shlP (cc (.int 1)) (vr 5)) (env := [some (webD w), x1, x2, some (.tuple (gs.map optD)), some (natD i), none, some (natD n), x7, x8, x9]) (fun d => match d with | .int t => .int (2 ^ t.toNat) | _ => .none) ((leftL w gs i n).map natD) (fun d hd => by
    obtain ⟨t, ht, rfl⟩ := List.mem_map.mp hd
    have ht2 : t < n := by
      have := (List.mem_filter.mp ht).1
      exact List.mem_range.mp this
    refine ⟨_, [some (webD w), x1, x2, some (.tuple (gs.map optD)), some (natD i), some (natD t), some (natD n), x7, x8, x9], rfl, ?_, rfl⟩
    have f2 : (t : Int) ≤ 1000000 := by omega
    simp only [Int.toNat_natCast]
    walk_at "sv")
  rw [List.map_map] at body
  have e5 : ((fun d => match d with | .int t => PyData.int (2 ^ t.toNat) | _ => .none) ∘ natD) = fun t : Nat => PyData.int (2 ^ t) := by
    funext t
    simp
  rw [e5] at body
  have h1 : (leftL w gs i n).length ≤ 50000 := by have := len_left w gs i n; omega
  unfold c__law_all_left_2
  walk_at "sv"
theorem gIs_bits (l : List Nat) : gIs (l.map fun t => PyData.int (2 ^ t)) = some (l.map fun t => (2 : Int) ^ t) := by
  have := gIs_map (l.map fun t => (2 : Int) ^ t)
  rw [List.map_map] at this
  exact this
theorem shaped_opts {gs : List (Option Nat)} (hg : GOk w gs) (hm : w.m ≤ 60) : SeqAt.shaped (.list (gs.map optD)) = true := by
  have f := optD_fine hg hm
  obtain ⟨_, _, f3, _⟩ := fines_all _ f
  have d : PyData.depthAll (gs.map optD) ≤ 0 := depths_map fun o _ => by cases o <;> exact Nat.le_refl _
  unfold SeqAt.shaped
  have c : (PyData.list (gs.map optD)).canLay0 = true := f3
  rw [c, Bool.true_and]
  show decide (PyData.depthAll (gs.map optD) + 1 ≤ 64) = true
  simp
  omega
theorem ev_all_left (h : w.Ok) (hp : POk w p) (num : Nat) : ∃ post, g__law_all_left [webD w, rowD p, natD num] = some (.bool true, post) := by
  have e0 : Sv.envOf n__law_all_left [webD w, rowD p, natD num] = [some (webD w), some (rowD p), some (natD num), none, none, none, none, none, none, none] := rfl
  have n2 := h.n2
  have m2 := h.m2
  have hg := given_ok h hp num
  have f0 := ev_given h hp num none none none none none
  have hpl := hp.len
  have hgl : (givenL p num).length = w.names.length := hg.len
  obtain ⟨e2, l1, y4, y6, y7, y8, y9, l2⟩ := loopF_keep (Gg := nmG 4) (s := b__law_all_left_1) (fun e => ∃ y4 y6 y7 y8 y9 : Option PyData, e = [some (webD w), some (rowD p), some (natD num), some (.tuple ((givenL p num).map optD)), y4, none, y6, y7, y8, y9]) (rngD 0 w.names.length) (fun d hd e he => by
    obtain ⟨i, hi, rfl⟩ := rngD_mem hd
    obtain ⟨y4, y6, y7, y8, y9, rfl⟩ := he
    have f1 := given_at h hp num hi
    unfold b__law_all_left_1
    cases hb : num.testBit i
    · rw [hb] at f1
      have f2 : optD (if false = true then some (tn p i) else none) = .none := rfl
      rw [f2] at f1
      have hm7 : (0 : Int) < (w.m : Int) + 1 := by omega
      have q3 : (((num : Int) + (i : Int)) % 3 = 0) ∨ (((num : Int) + (i : Int)) % 3 = 1) ∨ (((num : Int) + (i : Int)) % 3 = 2) := by omega
      have hq : ((num : Int) / 7 % ((w.m : Int) + 1)) = ((num / 7 % (w.m + 1) : Nat) : Int) := by
        rw [Int.natCast_emod, Int.natCast_ediv]
        rfl
      obtain ⟨n, hn, f3⟩ := i_all3 (a := w.m) (b := 0) (c := num / 7 % (w.m + 1)) q3
      have hn2 : n ≤ w.m := by
        have : num / 7 % (w.m + 1) < w.m + 1 := Nat.mod_lt _ (by omega)
        simp at hn
        omega
      have f3b : atI [PyData.int (w.m : Int), .int 0, .int ((num : Int) / 7 % ((w.m : Int) + 1))] (((num : Int) + (i : Int)) % 3) = some (natD n) := by
        rw [hq]
        exact f3
      clear hq f3 q3 hn
      have f4 := fun x7 x8 x9 => ev_due h hg hi n hn2 (some (rowD p)) (some (natD num)) x7 x8 x9
      have f5 := gIs_bits (leftL w (givenL p num) i n)
      have f6 := sum_bits w (givenL p num) i n
      have f7 := ev_left_for h hg hi (D := .tuple ((givenL p num).map optD)) (k := false) rfl n hn2
      have f8 := ev_left_for h hg hi (D := .list ((givenL p num).map optD)) (k := true) rfl n hn2
      rw [left_eq h] at f7 f8
      have hL : bitsOf (leftQ w (givenL p num) i) n < 18446744073709551616 := by
        have a1 := bitsOf_lt (leftQ w (givenL p num) i) n
        have a2 : 2 ^ n ≤ 2 ^ 60 := Nat.pow_le_pow_right (by omega) (by omega)
        omega
      generalize bitsOf (leftQ w (givenL p num) i) n = L at f6 f7 f8 hL
      have f9 := shaped_opts hg m2
      have f10 := eqv_opts (givenL p num)
      have f11 : Gd.showP [.list [natD L, natD L, natD L]] = some (.str (PyData.shown (.list [natD L, natD L, natD L]))) := showP_ok (by simp [fine, fine.fines]; omega) rfl (by simp [PyData.depth, PyData.depthAll]) (by simp [wid, wid.wids])
      refine ⟨_, [some (webD w), some (rowD p), some (natD num), some (.tuple ((givenL p num).map optD)), some (natD i), none, some (natD n), some (natD L), some (.list ((givenL p num).map optD)), some (.list [natD L, natD L, natD L])], rfl, ?_, ⟨_, _, _, _, _, rfl⟩⟩
      generalize (givenL p num).map optD = G at *
      have s2 : t__law_all_left_2 [some (webD w), some (rowD p), some (natD num), some (.tuple G), some (natD i), none, y6, y7, y8, y9] = some (.nx [some (webD w), some (rowD p), some (natD num), some (.tuple G), some (natD i), none, some (natD n), y7, y8, y9]) := by
        unfold t__law_all_left_2
        walk_at "sv"
      have s3 : t__law_all_left_3 [some (webD w), some (rowD p), some (natD num), some (.tuple G), some (natD i), none, some (natD n), y7, y8, y9] = some (.nx [some (webD w), some (rowD p), some (natD num), some (.tuple G), some (natD i), none, some (natD n), some (natD L), y8, y9]) := by
        unfold t__law_all_left_3
        walk_at "sv"
      have s4 : t__law_all_left_4 [some (webD w), some (rowD p), some (natD num), some (.tuple G), some (natD i), none, some (natD n), some (natD L), y8, y9] = some (.nx [some (webD w), some (rowD p), some (natD num), some (.tuple G), some (natD i), none, some (natD n), some (natD L), some (.list G), y9]) := by
        unfold t__law_all_left_4
        walk_at "sv"
      have s5 : t__law_all_left_5 [some (webD w), some (rowD p), some (natD num), some (.tuple G), some (natD i), none, some (natD n), some (natD L), some (.list G), y9] = some (.nx [some (webD w), some (rowD p), some (natD num), some (.tuple G), some (natD i), none, some (natD n), some (natD L), some (.list G), some (.list [natD L, natD L, natD L])]) := by
        unfold t__law_all_left_5
        walk_at "sv"
      have s7 : t__law_all_left_7 [some (webD w), some (rowD p), some (natD num), some (.tuple G), some (natD i), none, some (natD n), some (natD L), some (.list G), some (.list [natD L, natD L, natD L])] = some (.nx [some (webD w), some (rowD p), some (natD num), some (.tuple G), some (natD i), none, some (natD n), some (natD L), some (.list G), some (.list [natD L, natD L, natD L])]) := by
        unfold t__law_all_left_7
        walk_at "sv"
      clear f4 f7 f8
      unfold t__law_all_left_8
      walk_at "sv"
    · rw [hb] at f1
      have f2 : optD (if true = true then some (tn p i) else none) = natD (tn p i) := rfl
      rw [f2] at f1
      refine ⟨_, [some (webD w), some (rowD p), some (natD num), some (.tuple ((givenL p num).map optD)), some (natD i), none, y6, y7, y8, y9], rfl, ?_, ⟨_, _, _, _, _, rfl⟩⟩
      unfold t__law_all_left_8
      walk_at "sv") [some (webD w), some (rowD p), some (natD num), some (.tuple ((givenL p num).map optD)), none, none, none, none, none, none] ⟨none, none, none, none, none, rfl⟩
  subst l2
  have hn2 : -1000000 ≤ (w.names.length : Int) ∧ (w.names.length : Int) ≤ 1000000 := by omega
  refine ⟨[webD w, rowD p, natD num], ?_⟩
  unfold g__law_all_left f__law_all_left l__law_all_left_1 t__law_all_left_1 t__law_all_left_9
  walk_at "sv"
end
end K11

namespace Sv
open PySem PySem.Spec PyProof.Rows L2 Pre Dv
theorem sIx_nat {n k : Nat} {d : Nat} (h : k ≤ n) : HT.sIx n d (some (k : Int)) = k := by
  simp only [HT.sIx]
  rw [if_neg (by omega)]
  omega
theorem cut_to {ds : List PyData} {k : Nat} (h : k ≤ ds.length) : cutD ds none (some (k : Int)) = ds.take k := by
  unfold Dv.cutD
  rw [sIx_nat h]
  show (ds.drop 0).take (k - 0) = _
  simp
theorem cut_from {ds : List PyData} {k : Nat} (h : k ≤ ds.length) : cutD ds (some (k : Int)) none = ds.drop k := by
  unfold Dv.cutD
  rw [sIx_nat h]
  show (ds.drop k).take (ds.length - k) = _
  rw [List.take_of_length_le]
  simp
end Sv
namespace K11
open PySem PySem.Spec PyProof.Rows L2 Pre Dv Sv
local macro_rules | `(tactic| walk_at "sv") => `(tactic| simp (maxSteps := 4000000) [*, gDef, forF, seqF, setF, iffF, retF, nxF, Sv.vr, cc, op2, eqDP, eqP, fl, scal, ipi, ipc, ipb, bn, aC, aN, o1, o2, ixLP, ixTP, catTP, Xq.divP, tbF, notF, truF, truD, andF, orF, andV, orV, notV, ifV, lsF, lenP, absP, negF, Xq.invF, callF, Xq.callFS, callM, aM, upE, posOf, flF, noL, noL.noLs, asgF, tpG, coG, nmG, niG, slTF, slLF, oS, oN, tupF, itmF, ixN, atI_0, atI_1, atI_2, atI_3, appF, outF, ownF, augF, isP, isN_none, isN_int, isN_str, isN_bool, isN_list, isN_tuple, rg1, Xq.enQF, Xq.zpAF, gJ_row, gJ_list, f1, bnf, gJ_tuple, lcF, shaped_nats, eqv_nats, gQ_row, gR_row0, mixP, gI_int, gS_str, gB_bool, gL_list, gT_tuple, gT_web, gT_row, Xq.orX, Xq.raiF, Xq.xDef, Xq.tryF, Xq.unsO, Xq.exN_D, Xq.isXF, tuF, rdF, qB, qI, k_ii, k_ib, k_bi, k_bb, k_ni, k_si, k_li, k_ti, k_di, k_nt, k_bt, k_it, k_st, k_lt, k_tt, k_dt, gR_list, gQ_list, gQ_tuple, gQ_scr, asL_scr, asL_list, asL_tuple, gR_scr, ck, shaped_ints, shaped_nil, eqv_nil, isF, isiP, tyN, chnF, wipeE, restE, -List.all_eq_true, -List.map_cons, -List.map_nil])
section
variable {w : Web} {p : List Nat}
theorem bad_one (m num : Nat) : ∃ b, atI [.int (m : Int), .int (-1), .int ((m : Int) + (num : Int)), .bool true, .none, .str "0", .list [.int 0], .int (-1 - (num : Int))] ((num : Int) % 8) = some b ∧ plain b = true ∧ wholeB 0 ((m : Int) - 1) b = false := by
  have h : (num : Int) % 8 = 0 ∨ (num : Int) % 8 = 1 ∨ (num : Int) % 8 = 2 ∨ (num : Int) % 8 = 3 ∨ (num : Int) % 8 = 4 ∨ (num : Int) % 8 = 5 ∨ (num : Int) % 8 = 6 ∨ (num : Int) % 8 = 7 := by omega
  rcases h with h | h | h | h | h | h | h | h <;> rw [h]
  · exact ⟨_, atI_of (i := 0) rfl, rfl, by simp [wholeB]; omega⟩
  · exact ⟨_, atI_of (i := 1) rfl, rfl, by simp [wholeB]⟩
  · exact ⟨_, atI_of (i := 2) rfl, rfl, by simp [wholeB]; omega⟩
  · exact ⟨_, atI_of (i := 3) rfl, rfl, rfl⟩
  · exact ⟨_, atI_of (i := 4) rfl, rfl, rfl⟩
  · exact ⟨_, atI_of (i := 5) rfl, rfl, rfl⟩
  · exact ⟨_, atI_of (i := 6) rfl, rfl, rfl⟩
  · exact ⟨_, atI_of (i := 7) rfl, rfl, by simp [wholeB]; omega⟩
/-- what is no plan of w -/
structure NoPl (w : Web) (d : PyData) : Prop where
  pl : plains d = true
  len : ∀ ds, d = .tuple ds → ds.length ≤ 50000
  no : areB w.names.length 0 ((w.m : Int) - 1) d = false
theorem all_plain (p : List Nat) : (p.map natD).all plain = true := List.all_eq_true.mpr fun d hd => by
  obtain ⟨t, ht, rfl⟩ := List.mem_map.mp hd
  rfl
theorem tup_len {ds : List PyData} (h : ds.length ≤ 50000) : ∀ es, PyData.tuple ds = .tuple es → es.length ≤ 50000 := fun es e => by
  cases e
  exact h
theorem some_one (h : w.Ok) (hp : POk w p) (num : Nat) : ∃ b, atI [.list (p.map natD), .tuple (p.map natD ++ [.int 0]), .tuple ((p.map natD).drop 1), .none, .int 5, .str "plan", emD] ((num : Int) / 400 % 7) = some b ∧ NoPl w b := by
  have n1 := h.n1
  have n2 := h.n2
  have hl := hp.len
  have h : (num : Int) / 400 % 7 = 0 ∨ (num : Int) / 400 % 7 = 1 ∨ (num : Int) / 400 % 7 = 2 ∨ (num : Int) / 400 % 7 = 3 ∨ (num : Int) / 400 % 7 = 4 ∨ (num : Int) / 400 % 7 = 5 ∨ (num : Int) / 400 % 7 = 6 := by omega
  rcases h with h | h | h | h | h | h | h <;> rw [h]
  · exact ⟨_, atI_of (i := 0) rfl, rfl, (fun ds e => nomatch e), rfl⟩
  · refine ⟨_, atI_of (i := 1) rfl, ?_, tup_len (by simp; omega), ?_⟩
    · show (p.map natD ++ [PyData.int 0]).all plain = true
      rw [List.all_append, all_plain]
      rfl
    · unfold areB
      have : ¬ (p.map natD ++ [PyData.int 0]).length = w.names.length := by simp; omega
      simp [this]
      intro z
      omega
  · refine ⟨_, atI_of (i := 2) rfl, ?_, tup_len (by simp; omega), ?_⟩
    · show ((p.map natD).drop 1).all plain = true
      exact List.all_eq_true.mpr fun d hd => List.all_eq_true.mp (all_plain p) d (List.mem_of_mem_drop hd)
    · unfold areB
      have : ¬ ((p.map natD).drop 1).length = w.names.length := by simp; omega
      show (decide _ && _) = false
      rw [decide_eq_false this, Bool.false_and]
  · exact ⟨_, atI_of (i := 3) rfl, rfl, (fun ds e => nomatch e), rfl⟩
  · exact ⟨_, atI_of (i := 4) rfl, rfl, (fun ds e => nomatch e), rfl⟩
  · exact ⟨_, atI_of (i := 5) rfl, rfl, (fun ds e => nomatch e), rfl⟩
  · exact ⟨_, atI_of (i := 6) rfl, rfl, (fun ds e => nomatch e), rfl⟩
theorem put_no (h : w.Ok) (hp : POk w p) {at_ : Nat} (ha : at_ < w.names.length) {b : PyData} (h1 : plain b = true) (h2 : wholeB 0 ((w.m : Int) - 1) b = false) : NoPl w (.tuple ((p.map natD).take at_ ++ [b] ++ (p.map natD).drop (at_ + 1))) := by
  have n2 := h.n2
  have hl := hp.len
  refine ⟨?_, tup_len (by simp; omega), ?_⟩
  · refine List.all_eq_true.mpr fun d hd => ?_
    rcases List.mem_append.mp hd with hd | hd
    · rcases List.mem_append.mp hd with hd | hd
      · exact List.all_eq_true.mp (all_plain p) d (List.mem_of_mem_take hd)
      · rw [List.mem_singleton.mp hd]; exact h1
    · exact List.all_eq_true.mp (all_plain p) d (List.mem_of_mem_drop hd)
  · unfold areB
    rw [Bool.and_eq_false_iff]
    right
    rw [List.all_eq_false]
    exact ⟨b, by simp, by simp [h2]⟩
theorem ev_no_plan (h : w.Ok) (hp : POk w p) (num : Nat) : ∃ d post, g__law_no_plan [webD w, rowD p, natD num] = some (d, post) ∧ NoPl w d := by
  have e0 : Sv.envOf n__law_no_plan [webD w, rowD p, natD num] = [some (webD w), some (rowD p), some (natD num), none, none, none] := rfl
  have n1 := h.n1
  have n2 := h.n2
  have hl := hp.len
  obtain ⟨b, b1, b2, b3⟩ := bad_one w.m num
  obtain ⟨c, c1, c2⟩ := some_one h hp num
  have a0 : (0 : Int) < (w.names.length : Int) := by omega
  have a0n : 0 < w.names.length := by omega
  have a0m : w.names.length < 1267650600228229401496703205376 := by omega
  have a0k : (w.names.length : Int) < 1267650600228229401496703205376 := by omega
  have a1 : (num : Int) / 8 % (w.names.length : Int) = ((num / 8 % w.names.length : Nat) : Int) := by
    rw [Int.natCast_emod, Int.natCast_ediv]
    rfl
  have a2 : num / 8 % w.names.length < w.names.length := Nat.mod_lt _ (by omega)
  have e1 : Dv.cutD (p.map natD) (some 1) none = (p.map natD).drop 1 := cut_from (k := 1) (by simp; omega)
  have l4 : w.names.length ≤ 99999 := by omega
  generalize (p.map natD).drop 1 = T1 at e1 c1
  generalize num / 8 % w.names.length = at_ at a1 a2
  have e2 := cut_to (ds := p.map natD) (k := at_) (by simp; omega)
  have e3 := cut_from (ds := p.map natD) (k := at_ + 1) (by simp; omega)
  have e4 : (((at_ + 1 : Nat)) : Int) = (at_ : Int) + 1 := by omega
  rw [e4] at e3
  have l1 : p.length + 1 ≤ 100000 := by omega
  have l2 : w.names.length + 1 ≤ 100000 := by omega
  have l3 : at_ + 1 ≤ 100000 := by omega
  unfold g__law_no_plan f__law_no_plan
  by_cases hh : (num : Int) / 200 % 2 = 1
  · refine ⟨c, [webD w, rowD p, natD num], ?_, c2⟩
    clear e2 e3 e4
    walk_at "sv"
  · refine ⟨_, [webD w, rowD p, natD num], ?_, put_no h hp a2 b2 b3⟩
    clear c1 e4
    have k1 : min at_ w.names.length = at_ := Nat.min_eq_left (by omega)
    have k2 : at_ ≤ 99999 := by omega
    have k3 : at_ + 1 + (w.names.length - (at_ + 1)) ≤ 100000 := by omega
    have k4 : at_ + (1 + (w.names.length - (at_ + 1))) ≤ 100000 := by omega
    have k5 : at_ + (w.names.length - (at_ + 1) + 1) ≤ 100000 := by omega
    walk_at "sv"
end
end K11

namespace K11
open PySem PySem.Spec PyProof.Rows L2 Pre Dv Sv
local macro_rules | `(tactic| walk_at "sv") => `(tactic| simp (maxSteps := 4000000) [*, gDef, forF, seqF, setF, iffF, retF, nxF, Sv.vr, cc, op2, eqDP, eqP, fl, scal, ipi, ipc, ipb, bn, aC, aN, o1, o2, ixLP, ixTP, catTP, Xq.divP, tbF, notF, truF, truD, andF, orF, andV, orV, notV, ifV, lsF, lenP, absP, negF, Xq.invF, callF, Xq.callFS, callM, aM, upE, posOf, flF, noL, noL.noLs, asgF, tpG, coG, nmG, niG, slTF, slLF, oS, oN, tupF, itmF, ixN, atI_0, atI_1, atI_2, atI_3, appF, outF, ownF, augF, isP, isN_none, isN_int, isN_str, isN_bool, isN_list, isN_tuple, rg1, Xq.enQF, Xq.zpAF, gJ_row, gJ_list, f1, bnf, gJ_tuple, lcF, shaped_nats, eqv_nats, gQ_row, gR_row0, mixP, gI_int, gS_str, gB_bool, gL_list, gT_tuple, gT_web, gT_row, Xq.orX, Xq.raiF, Xq.xDef, Xq.tryF, Xq.unsO, Xq.exN_D, Xq.isXF, catG, op2f, tuF, rdF, qB, qI, k_ii, k_ib, k_bi, k_bb, k_ni, k_si, k_li, k_ti, k_di, k_nt, k_bt, k_it, k_st, k_lt, k_tt, k_dt, gR_list, gQ_list, gQ_tuple, gQ_scr, asL_scr, asL_list, asL_tuple, gR_scr, ck, shaped_ints, shaped_nil, eqv_nil, isF, isiP, tyN, chnF, wipeE, restE, -List.all_eq_true, -List.map_cons, -List.map_nil])
section
variable {w : Web} {d : PyData}
theorem bad_need (h : w.Ok) (hd : NoPl w d) : g_need_plan [webD w, d] = none ∧ x_need_plan [webD w, d] = some (exD "BadPlan", [webD w, d]) := (ev_need_plan h d hd.pl hd.len).2 hd.no
theorem bad_fault (h : w.Ok) (hd : NoPl w d) : g_fault_of [webD w, d] = none ∧ x_fault_of [webD w, d] = some (exD "BadPlan", [webD w, d]) := by
  have e0 : Sv.envOf n_fault_of [webD w, d] = [some (webD w), some d, none, none] := rfl
  obtain ⟨e1, e2⟩ := bad_need h hd
  unfold g_fault_of x_fault_of f_fault_of
  constructor <;> walk_at "sv"
theorem look_bad (b : Bool) : List.lookup ("BadPlan" : Str) [("BadPlan", b)] = some b := by simp [List.lookup]
theorem ev_refused (h : w.Ok) (hd : NoPl w d) (k : Int) (hk : k = 0 ∨ k = 1) : ∃ post, g__law_refused [webD w, d, .int k] = some (.bool true, post) := by
  have e0 : Sv.envOf n__law_refused [webD w, d, .int k] = [some (webD w), some d, some (.int k), none, none, none] := rfl
  obtain ⟨e1, e2⟩ := bad_need h hd
  obtain ⟨e3, e4⟩ := bad_fault h hd
  have l1 := look_bad true
  have l2 := look_bad false
  have i1 : inP true (.bool true) (.list [.bool false, .bool false, .bool false, .bool false, .bool false, .bool false, .bool false, .bool false, .bool false]) = some (.bool true) := rfl
  refine ⟨[webD w, d, .int k], ?_⟩
  have s6 : t__law_refused_6 [some (webD w), some d, some (.int k), some .none, none, none] = some (.nx [some (webD w), some d, some (.int k), some (exD "BadPlan"), none, none]) := by
    unfold t__law_refused_6 t__law_refused_4 t__law_refused_5 t__law_refused_2 t__law_refused_3
    rcases hk with rfl | rfl <;> walk_at "sv"
  have s7 : t__law_refused_7 [some (webD w), some d, some (.int k), some (exD "BadPlan"), none, none] = some (.nx [some (webD w), some d, some (.int k), some (exD "BadPlan"), none, some (.list [.bool false, .bool false, .bool false])]) := by
    unfold t__law_refused_7
    walk_at "sv"
  have s8 : t__law_refused_8 [some (webD w), some d, some (.int k), some (exD "BadPlan"), none, some (.list [.bool false, .bool false, .bool false])] = some (.nx [some (webD w), some d, some (.int k), some (exD "BadPlan"), none, some (.list [.bool false, .bool false, .bool false, .bool false, .bool false, .bool false])]) := by
    unfold t__law_refused_8
    walk_at "sv"
  have s9 : t__law_refused_9 [some (webD w), some d, some (.int k), some (exD "BadPlan"), none, some (.list [.bool false, .bool false, .bool false, .bool false, .bool false, .bool false])] = some (.nx [some (webD w), some d, some (.int k), some (exD "BadPlan"), none, some (.list [.bool false, .bool false, .bool false, .bool false, .bool false, .bool false, .bool false, .bool false, .bool false])]) := by
    unfold t__law_refused_9
    walk_at "sv"
  have s10 : t__law_refused_10 [some (webD w), some d, some (.int k), some (exD "BadPlan"), none, some (.list [.bool false, .bool false, .bool false, .bool false, .bool false, .bool false, .bool false, .bool false, .bool false])] = some (.rt (.bool true) [some (webD w), some d, some (.int k), some (exD "BadPlan"), none, some (.list [.bool false, .bool false, .bool false, .bool false, .bool false, .bool false, .bool false, .bool false, .bool false])]) := by
    unfold t__law_refused_10
    walk_at "sv"
  unfold g__law_refused f__law_refused t__law_refused_1
  walk_at "sv"
end
end K11

namespace Sv
open PySem PySem.Spec PyProof.Rows L2 Pre Dv
/-! ## texts that are short and of plain signs -/
def SOk (n : Nat) (s : Str) : Prop := s.length ≤ n ∧ ∀ c ∈ s.cps.toList, c < 1114112
theorem SOk.mono {n m : Nat} {s : Str} (h : SOk n s) (k : n ≤ m) : SOk m s := ⟨Nat.le_trans h.1 k, h.2⟩
theorem SOk.cat {n m : Nat} {s t : Str} (h : SOk n s) (k : SOk m t) : SOk (n + m) (s ++ t) := by
  refine ⟨by rw [Str.length_append]; have := h.1; have := k.1; omega, fun c hc => ?_⟩
  rw [Str.cps_append, Array.toList_append] at hc
  rcases List.mem_append.mp hc with z | z
  · exact h.2 c z
  · exact k.2 c z
theorem SOk.cut {n : Nat} {s : Str} (h : SOk n s) (lo hi : Option Int) : SOk n (cutS s lo hi) := by
  have hl : (cutS s lo hi).cps.toList = (s.cps.toList.drop (HT.sIx s.length 0 lo)).take (HT.sIx s.length s.length hi - HT.sIx s.length 0 lo) := by simp [cutS]
  refine ⟨?_, fun c hc => h.2 c ?_⟩
  · have e : (cutS s lo hi).length = (cutS s lo hi).cps.toList.length := by simp [Str.length]
    have e2 : s.length = s.cps.toList.length := by simp [Str.length]
    have := h.1
    rw [e, hl]
    simp only [List.length_take, List.length_drop]
    omega
  · rw [hl] at hc
    exact List.mem_of_mem_drop (List.mem_of_mem_take hc)
theorem SOk.one {c : Nat} (h : c < 1114112) : SOk 1 (tx [c]) := ⟨by simp [tx, Str.length], fun d hd => by
  have : d = c := by simpa [tx] using hd
  rw [this]; exact h⟩
theorem ixS_ok {s : Str} {n : Nat} (h : SOk n s) (hn : n ≤ 100000) {i : Int} (h0 : 0 ≤ i) (h1 : i < s.length) : ∃ c ∈ s.cps.toList, ixSP (.str s) (.int i) = some (.str (tx [c])) ∧ c < 1114112 := by
  obtain ⟨k, rfl⟩ : ∃ k : Nat, i = k := ⟨i.toNat, by omega⟩
  have hk : k < s.cps.toList.length := by
    have : s.length = s.cps.toList.length := by simp [Str.length]
    omega
  refine ⟨s.cps.toList[k], List.getElem_mem hk, ?_, h.2 _ (List.getElem_mem hk)⟩
  have : s.length ≤ 100000 := Nat.le_trans h.1 hn
  have e : atI s.cps.toList (k : Int) = some s.cps.toList[k] := atI_of (List.getElem?_eq_getElem hk)
  show (if s.length ≤ 100000 then (atI s.cps.toList (k : Int)).map fun c => PyData.str (tx [c]) else none) = _
  rw [if_pos this, e]
  rfl
theorem cat_ok {n m : Nat} {s t : Str} (h : SOk n s) (k : SOk m t) (hn : n + m ≤ 100000) : catSP (.str s) (.str t) = some (.str (s ++ t)) := by
  have := h.1
  have := k.1
  show (if s.length + t.length ≤ 100000 then some (PyData.str (s ++ t)) else none) = _
  rw [if_pos (by omega)]
/-- a list of such texts -/
def StrL (n : Nat) (es : List PyData) : Prop := ∃ ss : List Str, es = ss.map .str ∧ ∀ s ∈ ss, SOk n s
theorem StrL.of {n : Nat} {es : List PyData} (h : ∀ x ∈ es, ∃ s, x = .str s ∧ SOk n s) : StrL n es := by
  induction es with
  | nil => exact ⟨[], rfl, fun _ z => nomatch z⟩
  | cons x r ih =>
    obtain ⟨s, rfl, hs⟩ := h x List.mem_cons_self
    obtain ⟨ss, rfl, hr⟩ := ih fun y hy => h y (List.mem_cons_of_mem _ hy)
    refine ⟨s :: ss, rfl, fun t ht => ?_⟩
    rcases List.mem_cons.mp ht with z | z
    · rw [z]; exact hs
    · exact hr t z
theorem join_empty : ∀ ss : List Str, (Str.join "" ss).cps.toList = (ss.map fun s => s.cps.toList).flatten
  | [] => rfl
  | [x] => by simp [Str.join]
  | x :: y :: r => by
    show (x ++ "" ++ Str.join "" (y :: r)).cps.toList = _
    rw [Str.cps_append, Str.cps_append, Array.toList_append, Array.toList_append, join_empty (y :: r)]
    have : (Str.ofString "").cps.toList = [] := by decide
    rw [this]
    simp
theorem gSs_strs (ss : List Str) : gSs (ss.map .str) = some ss := gSs_map ss
theorem shaped_strs {n : Nat} {ss : List Str} (h : ∀ s ∈ ss, SOk n s) : SeqAt.shaped (.list (ss.map .str)) = true := by
  have c : PyData.canLayAll0 (ss.map .str) = true := by
    induction ss with
    | nil => rfl
    | cons s r ih =>
      have h1 := (h s List.mem_cons_self).2
      have h2 : PyData.strOk s = true := by
        unfold PyData.strOk
        rw [← Array.all_toList]
        exact List.all_eq_true.mpr fun c hc => decide_eq_true (h1 c hc)
      simp only [List.map_cons, PyData.canLayAll0, Bool.and_eq_true]
      exact ⟨h2, ih fun t ht => h t (List.mem_cons_of_mem _ ht)⟩
  have d : PyData.depthAll (ss.map .str) ≤ 0 := depths_map fun o _ => Nat.le_refl _
  unfold SeqAt.shaped
  have c2 : (PyData.list (ss.map .str)).canLay0 = true := c
  rw [c2, Bool.true_and]
  show decide (PyData.depthAll (ss.map .str) + 1 ≤ 64) = true
  simp
  omega
theorem eqv_nilL (es : List PyData) : PyData.eqv (.list es) (.list []) = es.isEmpty := by
  cases es <;> simp [PyData.eqv, PyData.eqvAll]
/-- a comprehension with a test, of which the items are kept as they are -/
theorem lcL_some {vs : List Nat} {Gg : Fg} {T : Ft} {F : Fx} {env : Env} (Q : PyData → Prop) : ∀ ds : List PyData, (∀ d ∈ ds, ∃ e1 b e2, Gg d env = some e1 ∧ T e1 = some (b, e2) ∧ (b = false → wipeE e2 vs = env) ∧ (b = true → ∃ x e3, F e2 = some (x, e3) ∧ Q x ∧ wipeE e3 vs = env)) →
    ∃ es, lcL vs Gg T F ds env = some (es, env) ∧ es.length ≤ ds.length ∧ ∀ x ∈ es, Q x
  | [], _ => ⟨[], rfl, Nat.le_refl _, fun _ z => nomatch z⟩
  | d :: ds, h => by
    obtain ⟨e1, b, e2, h1, h2, h3, h4⟩ := h d List.mem_cons_self
    obtain ⟨es, h5, h6, h7⟩ := lcL_some Q ds fun x hx => h x (List.mem_cons_of_mem _ hx)
    cases b with
    | false =>
      refine ⟨es, ?_, by simp; omega, h7⟩
      unfold lcL
      rw [h1, Option.bind_some, h2, Option.bind_some, if_neg (show ¬ (false = true) by decide), h3 rfl, h5]
    | true =>
      obtain ⟨x, e3, g1, g2, g3⟩ := h4 rfl
      refine ⟨x :: es, ?_, by simp; omega, fun y hy => ?_⟩
      · unfold lcL
        rw [h1, Option.bind_some, h2, Option.bind_some, if_pos rfl, g1, Option.bind_some, g3, h5]
        rfl
      · rcases List.mem_cons.mp hy with e | hy
        · rw [e]; exact g2
        · exact h7 y hy
theorem op2_any {pp : PyData → PyData → Option PyData} {F G : Fx} {e e1 e2 : Env} {a b d : PyData} (h1 : F e = some (a, e1)) (h2 : G e1 = some (b, e2)) (h3 : pp a b = some d) : op2 pp F G e = some (d, e2) := by simp [op2, h1, h2, h3]
theorem lcF_of {vs : List Nat} {L : Fa} {Gg : Fg} {T : Ft} {F : Fx} {env env1 e2 : Env} {ds es : List PyData} (hL : L env = some (ds, env1)) (hl : ds.length ≤ 50000) (h : lcL vs Gg T F ds (wipeE env1 vs) = some (es, e2)) : lcF vs L Gg T F env = some (.list es, restE env1 e2 vs) := by
  unfold lcF
  rw [hL, Option.bind_some, if_pos hl, h]
  rfl
end Sv
namespace K11
open PySem PySem.Spec PyProof.Rows L2 Pre Dv Sv
local macro_rules | `(tactic| walk_at "sv") => `(tactic| simp (maxSteps := 4000000) [*, gDef, forF, seqF, setF, iffF, retF, nxF, Sv.vr, cc, op2, eqDP, eqP, fl, scal, ipi, ipc, ipb, bn, aC, aN, o1, o2, ixLP, ixTP, catTP, Xq.divP, tbF, notF, truF, truD, andF, orF, andV, orV, notV, ifV, lsF, lenP, absP, negF, Xq.invF, callF, Xq.callFS, callM, aM, upE, posOf, flF, noL, noL.noLs, asgF, tpG, coG, nmG, niG, slTF, slLF, oS, oN, tupF, itmF, ixN, atI_0, atI_1, atI_2, atI_3, appF, outF, ownF, augF, isP, isN_none, isN_int, isN_str, isN_bool, isN_list, isN_tuple, rg1, Xq.enQF, Xq.zpAF, gJ_row, gJ_list, f1, bnf, gJ_tuple, lcF, shaped_nats, eqv_nats, gQ_row, gR_row0, mixP, gI_int, gS_str, gB_bool, gL_list, gT_tuple, gT_web, gT_row, Xq.orX, Xq.raiF, Xq.xDef, Xq.tryF, Xq.unsO, Xq.exN_D, Xq.isXF, catG, op2f, tuF, rdF, qB, qI, k_ii, k_ib, k_bi, k_bb, k_ni, k_si, k_li, k_ti, k_di, k_nt, k_bt, k_it, k_st, k_lt, k_tt, k_dt, gR_list, gQ_list, gQ_tuple, gQ_scr, asL_scr, asL_list, asL_tuple, gR_scr, ck, shaped_ints, shaped_nil, eqv_nil, isF, isiP, tyN, chnF, wipeE, restE, -List.all_eq_true, -List.map_cons, -List.map_nil])
def abc : Str := "abcdefghijklmnopqrstuvwxyz"
theorem abc_ok : SOk 26 abc := ⟨by decide +kernel, by decide +kernel⟩
theorem abc_len : abc.length = 26 := by decide +kernel
theorem abc_ix (c : Nat) (h : c ∈ abc.cps.toList) : ∃ k, Txt.index0 abc (tx [c]) = some k := by
  have : abc.cps.toList.all (fun c => (Txt.index0 abc (tx [c])).isSome) = true := by decide +kernel
  exact Option.isSome_iff_exists.mp (List.all_eq_true.mp this c h)
/-- the letters, as any text of which this is known -/
structure Abc (ab : Str) : Prop where
  ok : SOk 26 ab
  len : ab.length = 26
  ix : ∀ c ∈ ab.cps.toList, ∃ k, Txt.index0 ab (tx [c]) = some k
theorem abc_is : Abc abc := ⟨abc_ok, abc_len, abc_ix⟩
section
variable {ab : Str}
theorem Abc.at_ (A : Abc ab) {i : Int} (h0 : 0 ≤ i) (h1 : i < 26) : ∃ c ∈ ab.cps.toList, ixSP (.str ab) (.int i) = some (.str (tx [c])) ∧ c < 1114112 := ixS_ok A.ok (by omega) h0 (by rw [A.len]; exact h1)
theorem mixed_some (n : Int) (k : Nat) (hk : k < 100) : ∃ m : Int, g__law_mixed [.int n, natD k] = some (.int m, [.int n, natD k]) := ⟨_, ev_mixed n (k : Int) ⟨by omega, by omega⟩⟩
theorem ev_word0 (A : Abc ab) (g : List PyData → Option (PyData × List PyData)) (n : Int) (hg : ∀ k : Nat, k < 100 → ∃ m : Int, g [.int n, natD k] = some (.int m, [.int n, natD k])) (x2 x4 x5 x6 x7 x8 x9 x10 x11 x12 x13 : Option PyData) : ∃ es, lcF [3] (rg1 (cc (.int 8))) (nmG 3) yesT (op2 ixSP (vr 1) (op2 modP (callF g (aC (vr 0) (aC (vr 3) aN))) (cc (.int 26)))) [some (.int n), some (.str ab), x2, none, x4, x5, x6, x7, x8, x9, x10, x11, x12, x13] = some (.list es, [some (.int n), some (.str ab), x2, none, x4, x5, x6, x7, x8, x9, x10, x11, x12, x13]) ∧ es.length = 8 ∧
    ∀ x ∈ es, ∃ c ∈ ab.cps.toList, x = .str (tx [c]) := by
  obtain ⟨es, h1, h2, h3⟩ := lcL_ex (vs := [3]) (Gg := nmG 3) (F := op2 ixSP (vr 1) (op2 modP (callF g (aC (vr 0) (aC (vr 3) aN))) (cc (.int 26)))) (env := [some (.int n), some (.str ab), x2, none, x4, x5, x6, x7, x8, x9, x10, x11, x12, x13]) (fun x => ∃ c ∈ ab.cps.toList, x = .str (tx [c])) (rngD 0 8) (fun d hd => by
    obtain ⟨k, hk, rfl⟩ := rngD_mem hd
    obtain ⟨m, f1⟩ := hg k (by omega)
    have m0 : 0 ≤ m % 26 := by omega
    have m1 : m % 26 < 26 := by omega
    obtain ⟨c, hc, f2, _⟩ := A.at_ m0 m1
    clear m0 m1 hg
    refine ⟨_, .str (tx [c]), [some (.int n), some (.str ab), x2, some (natD k), x4, x5, x6, x7, x8, x9, x10, x11, x12, x13], rfl, ?_, ⟨c, hc, rfl⟩, rfl⟩
    clear hd hc hk
    walk_at "sv")
  refine ⟨es, ?_, by rw [h2, rngD_length], h3⟩
  have l1 : (rngD 0 8).length ≤ 50000 := by rw [rngD_length]; omega
  clear hg
  walk_at "sv"
theorem ev_word (A : Abc ab) (n : Int) (x2 x4 x5 x6 x7 x8 x9 x10 x11 x12 x13 : Option PyData) : ∃ es, c__law_names_1 [some (.int n), some (.str ab), x2, none, x4, x5, x6, x7, x8, x9, x10, x11, x12, x13] = some (.list es, [some (.int n), some (.str ab), x2, none, x4, x5, x6, x7, x8, x9, x10, x11, x12, x13]) ∧ es.length = 8 ∧
    ∀ x ∈ es, ∃ c ∈ ab.cps.toList, x = .str (tx [c]) := ev_word0 A g__law_mixed n (mixed_some n) x2 x4 x5 x6 x7 x8 x9 x10 x11 x12 x13
/-- the other comprehensions -/
abbrev D14 (n : Int) (ab : Str) (x2 x3 x4 x5 x6 x7 x8 x9 x10 x11 x12 x13 : Option PyData) : Sv.Env := [some (.int n), some (.str ab), x2, x3, x4, x5, x6, x7, x8, x9, x10, x11, x12, x13]
theorem ev_some (n : Nat) {sg : Str} {b : Nat} (hs : SOk b sg) (hb : b ≤ 100) (h1 : 0 < sg.length) (x2 x3 x4 x5 x7 x9 x10 x11 x12 x13 : Option PyData) : ∃ ss : List Str, c__law_names_2 (D14 n ab x2 x3 x4 x5 (some (.str sg)) x7 none x9 x10 x11 x12 x13) = some (.list (ss.map .str), D14 n ab x2 x3 x4 x5 (some (.str sg)) x7 none x9 x10 x11 x12 x13) ∧ ss.length = 16 ∧ ∀ s ∈ ss, SOk 1 s := by
  have hl : sg.length ≤ 100000 := by have := hs.1; omega
  obtain ⟨es, h2, h3, h4⟩ := lcL_ex (vs := [8]) (Gg := nmG 8) (F := op2 ixSP (vr 6) (op2 modP (op2 addP (op2 Xq.divP (vr 0) (cc (.int 256))) (op2 mulP (cc (.int 5)) (vr 8))) (bn lenSP (aC (vr 6) aN)))) (env := D14 n ab x2 x3 x4 x5 (some (.str sg)) x7 none x9 x10 x11 x12 x13) (fun x => ∃ s, x = .str s ∧ SOk 1 s) (rngD 0 16) (fun d hd => by
    obtain ⟨k, hk, rfl⟩ := rngD_mem hd
    have hpos : (0 : Int) < (sg.length : Int) := by omega
    obtain ⟨c, hc, f2, f3⟩ := ixS_ok hs (by omega) (i := ((n : Int) / 256 + 5 * (k : Int)) % (sg.length : Int)) (Int.emod_nonneg _ (by omega)) (Int.emod_lt_of_pos _ hpos)
    refine ⟨_, .str (tx [c]), D14 n ab x2 x3 x4 x5 (some (.str sg)) x7 (some (natD k)) x9 x10 x11 x12 x13, rfl, ?_, ⟨_, rfl, SOk.one f3⟩, rfl⟩
    clear hd hc hk
    walk_at "sv")
  obtain ⟨ss, rfl, h5⟩ := StrL.of h4
  refine ⟨ss, ?_, by simpa [rngD_length] using h3, h5⟩
  exact lcF_of (env1 := D14 n ab x2 x3 x4 x5 (some (.str sg)) x7 none x9 x10 x11 x12 x13) rfl (by rw [rngD_length]; omega) h2
theorem slS_at {F : Fx} {A B : Fo} {e e1 e2 e3 : Sv.Env} {s : Str} {lo hi : Option Int} (h1 : F e = some (.str s, e1)) (h2 : A e1 = some (lo, e2)) (h3 : B e2 = some (hi, e3)) (hs : s.length ≤ 100000) : slSF F A B e = some (.str (cutS s lo hi), e3) := by
  simp [slSF, h1, h2, h3, gS_str, hs]
theorem ev_found1 (n : Nat) {wd : Str} (hw : SOk 8 wd) {ss : List Str} (hss : ∀ s ∈ ss, SOk 1 s) (hl : ss.length ≤ 100) (at_ size : Int) (x3 x6 x8 x9 x11 x12 x13 : Option PyData) : ∃ rs : List Str, c__law_names_3 (D14 n ab (some (.str wd)) x3 (some (.int size)) (some (.int at_)) x6 (some (.list (ss.map .str))) x8 x9 none x11 x12 x13) =
    some (.list (rs.map .str), D14 n ab (some (.str wd)) x3 (some (.int size)) (some (.int at_)) x6 (some (.list (ss.map .str))) x8 x9 none x11 x12 x13) ∧ rs.length = ss.length ∧ ∀ s ∈ rs, SOk 100 s := by
  have hwl : wd.length ≤ 100000 := by have := hw.1; omega
  obtain ⟨es, h2, h3, h4⟩ := lcL_ex (vs := [10]) (Gg := nmG 10) (F := op2 catSP (op2 catSP (slSF (vr 2) oN (oS (vr 5))) (vr 10)) (slSF (vr 2) (oS (op2 addP (vr 5) (cc (.int 1)))) (oS (vr 4)))) (env := D14 n ab (some (.str wd)) x3 (some (.int size)) (some (.int at_)) x6 (some (.list (ss.map .str))) x8 x9 none x11 x12 x13) (fun x => ∃ s, x = .str s ∧ SOk 100 s) (ss.map .str) (fun d hd => by
    obtain ⟨s, hs, rfl⟩ := List.mem_map.mp hd
    have o1 := hw.cut none (some at_)
    have o2 := hss s hs
    have o3 := hw.cut (some (at_ + 1)) (some size)
    have c1 := cat_ok o1 o2 (by omega)
    have c2 := cat_ok (o1.cat o2) o3 (by omega)
    have a1 : slSF (vr 2) oN (oS (vr 5)) (D14 n ab (some (.str wd)) x3 (some (.int size)) (some (.int at_)) x6 (some (.list (ss.map .str))) x8 x9 (some (.str s)) x11 x12 x13) = some (.str (cutS wd none (some at_)), D14 n ab (some (.str wd)) x3 (some (.int size)) (some (.int at_)) x6 (some (.list (ss.map .str))) x8 x9 (some (.str s)) x11 x12 x13) := slS_at rfl rfl rfl hwl
    have a2 : slSF (vr 2) (oS (op2 addP (vr 5) (cc (.int 1)))) (oS (vr 4)) (D14 n ab (some (.str wd)) x3 (some (.int size)) (some (.int at_)) x6 (some (.list (ss.map .str))) x8 x9 (some (.str s)) x11 x12 x13) = some (.str (cutS wd (some (at_ + 1)) (some size)), D14 n ab (some (.str wd)) x3 (some (.int size)) (some (.int at_)) x6 (some (.list (ss.map .str))) x8 x9 (some (.str s)) x11 x12 x13) := slS_at rfl rfl rfl hwl
    refine ⟨_, .str (cutS wd none (some at_) ++ s ++ cutS wd (some (at_ + 1)) (some size)), D14 n ab (some (.str wd)) x3 (some (.int size)) (some (.int at_)) x6 (some (.list (ss.map .str))) x8 x9 (some (.str s)) x11 x12 x13, rfl, ?_, ⟨_, rfl, (((o1.cat o2).cat o3).mono (by omega))⟩, rfl⟩
    show op2 catSP (op2 catSP (slSF (vr 2) oN (oS (vr 5))) (vr 10)) (slSF (vr 2) (oS (op2 addP (vr 5) (cc (.int 1)))) (oS (vr 4))) (D14 n ab (some (.str wd)) x3 (some (.int size)) (some (.int at_)) x6 (some (.list (ss.map .str))) x8 x9 (some (.str s)) x11 x12 x13) = _
    have v10 : vr 10 (D14 n ab (some (.str wd)) x3 (some (.int size)) (some (.int at_)) x6 (some (.list (ss.map .str))) x8 x9 (some (.str s)) x11 x12 x13) = some (.str s, D14 n ab (some (.str wd)) x3 (some (.int size)) (some (.int at_)) x6 (some (.list (ss.map .str))) x8 x9 (some (.str s)) x11 x12 x13) := rfl
    generalize D14 n ab (some (.str wd)) x3 (some (.int size)) (some (.int at_)) x6 (some (.list (ss.map .str))) x8 x9 (some (.str s)) x11 x12 x13 = EE at a1 a2 v10 ⊢
    exact op2_any (op2_any a1 v10 c1) a2 c2)
  obtain ⟨rs, rfl, h5⟩ := StrL.of h4
  exact ⟨rs, lcF_of (env1 := D14 n ab (some (.str wd)) x3 (some (.int size)) (some (.int at_)) x6 (some (.list (ss.map .str))) x8 x9 none x11 x12 x13) rfl (by simp; omega) h2, by simpa using h3, h5⟩
theorem ev_pre (n : Nat) {F : Fx} {wd : Str} (hw : SOk 100 wd) (e : Sv.Env) (cut : ∀ k : Nat, k < 8 → F (e.set 8 (some (natD k))) = some (.str (cutS wd none (some ((k : Int) + 1))), e.set 8 (some (natD k)))) (he : ∀ x, (e.set 8 x).set 8 none = e) : ∃ rs : List Str, lcL [8] (nmG 8) yesT F (rngD 0 8) e = some (rs.map .str, e) ∧ rs.length = 8 ∧ ∀ s ∈ rs, SOk 100 s := by
  obtain ⟨es, h2, h3, h4⟩ := lcL_ex (vs := [8]) (Gg := nmG 8) (F := F) (env := e) (fun x => ∃ s, x = .str s ∧ SOk 100 s) (rngD 0 8) (fun d hd => by
    obtain ⟨k, hk, rfl⟩ := rngD_mem hd
    exact ⟨_, _, _, rfl, cut k hk, ⟨_, rfl, hw.cut _ _⟩, he _⟩)
  obtain ⟨rs, rfl, h5⟩ := StrL.of h4
  exact ⟨rs, h2, by simpa [rngD_length] using h3, h5⟩
theorem ev_sings (A : Abc ab) (n : Nat) (x2 x3 x4 x5 x6 x7 x9 x10 x11 x12 x13 : Option PyData) : ∃ ss : List Str, c__law_names_6 (D14 n ab x2 x3 x4 x5 x6 x7 none x9 x10 x11 x12 x13) = some (.list (ss.map .str), D14 n ab x2 x3 x4 x5 x6 x7 none x9 x10 x11 x12 x13) ∧ ss.length = 16 ∧ ∀ s ∈ ss, SOk 100 s := by
  obtain ⟨es, h2, h3, h4⟩ := lcL_ex (vs := [8]) (Gg := nmG 8) (F := op2 ixSP (vr 1) (op2 modP (op2 addP (op2 Xq.divP (vr 0) (cc (.int 4))) (op2 mulP (cc (.int 7)) (vr 8))) (cc (.int 26)))) (env := D14 n ab x2 x3 x4 x5 x6 x7 none x9 x10 x11 x12 x13) (fun x => ∃ s, x = .str s ∧ SOk 100 s) (rngD 0 16) (fun d hd => by
    obtain ⟨k, hk, rfl⟩ := rngD_mem hd
    have m0 : 0 ≤ ((n : Int) / 4 + 7 * (k : Int)) % 26 := by omega
    have m1 : ((n : Int) / 4 + 7 * (k : Int)) % 26 < 26 := by omega
    obtain ⟨c, hc, f2, f3⟩ := A.at_ m0 m1
    clear m0 m1
    refine ⟨_, .str (tx [c]), D14 n ab x2 x3 x4 x5 x6 x7 (some (natD k)) x9 x10 x11 x12 x13, rfl, ?_, ⟨_, rfl, (SOk.one f3).mono (by omega)⟩, rfl⟩
    clear hd hc hk A
    walk_at "sv")
  obtain ⟨ss, rfl, h5⟩ := StrL.of h4
  exact ⟨ss, lcF_of (env1 := D14 n ab x2 x3 x4 x5 x6 x7 none x9 x10 x11 x12 x13) rfl (by rw [rngD_length]; omega) h2, by simpa [rngD_length] using h3, h5⟩
theorem ev_hit (n : Nat) {ss : List Str} (hss : ∀ s ∈ ss, SOk 100 s) (hl : ss.length ≤ 100) (wds : List Str) (wd12 : Str) (hw : op2f [] splP (cc (.str wd12)) (cc (.str " ")) = fun e => some (.list (wds.map .str), e)) (x2 x3 x4 x5 x6 x7 x8 x10 x11 : Option PyData) :
    ∃ rs : List Str, c__law_names_7 (D14 n ab x2 x3 x4 x5 x6 x7 x8 (some (.list (ss.map .str))) x10 x11 (some (.str wd12)) none) = some (.list (rs.map .str), D14 n ab x2 x3 x4 x5 x6 x7 x8 (some (.list (ss.map .str))) x10 x11 (some (.str wd12)) none) ∧ ∀ s ∈ rs, SOk 100 s := by
  have flat : (wds.map PyData.str).all (fun d => (fl d).isSome) = true := List.all_eq_true.mpr fun d hd => by
    obtain ⟨s, _, rfl⟩ := List.mem_map.mp hd
    rfl
  obtain ⟨es, h2, h3, h4⟩ := lcL_some (vs := [13]) (Gg := nmG 13) (T := tbF (op2 (inP false) (vr 13) (op2f [] splP (vr 12) (cc (.str " "))))) (F := vr 13) (env := D14 n ab x2 x3 x4 x5 x6 x7 x8 (some (.list (ss.map .str))) x10 x11 (some (.str wd12)) none) (fun x => ∃ s, x = .str s ∧ SOk 100 s) (ss.map .str) (fun d hd => by
    obtain ⟨s, hs, rfl⟩ := List.mem_map.mp hd
    have a1 : op2f [] splP (vr 12) (cc (.str " ")) (D14 n ab x2 x3 x4 x5 x6 x7 x8 (some (.list (ss.map .str))) x10 x11 (some (.str wd12)) (some (.str s))) = some (.list (wds.map .str), D14 n ab x2 x3 x4 x5 x6 x7 x8 (some (.list (ss.map .str))) x10 x11 (some (.str wd12)) (some (.str s))) := congrFun hw _
    have a2 : inP false (.str s) (.list (wds.map .str)) = some (.bool (inV (flV (.str s)) ((wds.map PyData.str).map flV))) := by
      show (if (fl (.str s)).isSome = true ∧ (wds.map PyData.str).all (fun d => (fl d).isSome) = true then _ else none) = _
      rw [if_pos ⟨rfl, flat⟩]
      rfl
    have a3 := op2_any (F := vr 13) (e := D14 n ab x2 x3 x4 x5 x6 x7 x8 (some (.list (ss.map .str))) x10 x11 (some (.str wd12)) (some (.str s))) rfl a1 a2
    refine ⟨_, inV (flV (.str s)) ((wds.map PyData.str).map flV), D14 n ab x2 x3 x4 x5 x6 x7 x8 (some (.list (ss.map .str))) x10 x11 (some (.str wd12)) (some (.str s)), rfl, ?_, fun _ => rfl, fun _ => ⟨.str s, D14 n ab x2 x3 x4 x5 x6 x7 x8 (some (.list (ss.map .str))) x10 x11 (some (.str wd12)) (some (.str s)), rfl, ⟨s, rfl, hss s hs⟩, rfl⟩⟩
    · show tbF _ (D14 n ab x2 x3 x4 x5 x6 x7 x8 (some (.list (ss.map .str))) x10 x11 (some (.str wd12)) (some (.str s))) = _
      unfold tbF
      rw [a3]
      rfl)
  obtain ⟨rs, rfl, h5⟩ := StrL.of h4
  exact ⟨rs, lcF_of (env1 := D14 n ab x2 x3 x4 x5 x6 x7 x8 (some (.list (ss.map .str))) x10 x11 (some (.str wd12)) none) rfl (by simp; omega) h2, h5⟩
theorem ev_qs (A : Abc ab) (n : Nat) {q : Str} (hq : SOk 1 q) (x2 x3 x4 x5 x6 x7 x9 x10 x11 x12 x13 : Option PyData) : ∃ ss : List Str, lcF [8] (rg1 (cc (.int 16))) (nmG 8) yesT (op2 catSP (cc (.str q)) (op2 ixSP (vr 1) (vr 8))) (D14 n ab x2 x3 x4 x5 x6 x7 none x9 x10 x11 x12 x13) = some (.list (ss.map .str), D14 n ab x2 x3 x4 x5 x6 x7 none x9 x10 x11 x12 x13) ∧ ss.length = 16 ∧ ∀ s ∈ ss, SOk 100 s := by
  obtain ⟨es, h2, h3, h4⟩ := lcL_ex (vs := [8]) (Gg := nmG 8) (F := op2 catSP (cc (.str q)) (op2 ixSP (vr 1) (vr 8))) (env := D14 n ab x2 x3 x4 x5 x6 x7 none x9 x10 x11 x12 x13) (fun x => ∃ s, x = .str s ∧ SOk 100 s) (rngD 0 16) (fun d hd => by
    obtain ⟨k, hk, rfl⟩ := rngD_mem hd
    obtain ⟨c, hc, f2, f3⟩ := A.at_ (i := (k : Int)) (by omega) (by omega)
    have c1 := cat_ok hq (SOk.one f3) (by omega)
    have a1 := op2_any (F := vr 1) (G := vr 8) (e := D14 n ab x2 x3 x4 x5 x6 x7 (some (natD k)) x9 x10 x11 x12 x13) rfl rfl f2
    exact ⟨_, _, _, rfl, op2_any (F := cc (.str q)) rfl a1 c1, ⟨_, rfl, (hq.cat (SOk.one f3)).mono (by omega)⟩, rfl⟩)
  obtain ⟨ss, rfl, h5⟩ := StrL.of h4
  exact ⟨ss, lcF_of (env1 := D14 n ab x2 x3 x4 x5 x6 x7 none x9 x10 x11 x12 x13) rfl (by rw [rngD_length]; omega) h2, by simpa [rngD_length] using h3, h5⟩
end
end K11

namespace Sv
open PySem PySem.Spec PyProof.Rows L2 Pre Dv
section
variable {s t : Fs} {F : Fx} {T : Ft} {e e1 : Env} {d : PyData} {i : Nat} {b : Bool} {o : Option Out}
theorem seq_nx (h : s e = some (.nx e1)) (k : t e1 = o) : seqF s t e = o := by rw [← k]; unfold seqF; rw [h]; rfl
theorem seq_rt (h : s e = some (.rt d e1)) : seqF s t e = some (.rt d e1) := by unfold seqF; rw [h]; rfl
theorem set_at (h : F e = some (d, e1)) : setF i F e = some (.nx (e1.set i (some d))) := by unfold setF; rw [h]; rfl
theorem iff_t (h : T e = some (true, e1)) (k : s e1 = o) : iffF T s t e = o := by rw [← k]; unfold iffF; rw [h]; rfl
theorem iff_f (h : T e = some (false, e1)) (k : t e1 = o) : iffF T s t e = o := by rw [← k]; unfold iffF; rw [h]; rfl
theorem ret_at (h : F e = some (d, e1)) : retF F e = some (.rt d e1) := by unfold retF; rw [h]; rfl
theorem tb_at (h : F e = some (.bool b, e1)) : tbF F e = some (b, e1) := by unfold tbF; rw [h]; rfl
theorem eqI_at {F G : Fx} {e e1 e2 : Env} {x y : Int} {neg : Bool} (h1 : F e = some (.int x, e1)) (h2 : G e1 = some (.int y, e2)) : op2 (eqP neg) F G e = some (.bool (if neg then !decide (x = y) else decide (x = y)), e2) := by
  simp [op2, eqP, h1, h2, fl, scal]
end
end Sv
namespace K11
open PySem PySem.Spec PyProof.Rows L2 Pre Dv Sv
theorem empty_len : (Str.ofString "").length = 0 := by decide
theorem join_at {ss : List Str} (h : ∀ s ∈ ss, SOk 1 s) (hl : ss.length ≤ 100) : joinP (.str "") (.list (ss.map .str)) = some (.str (Str.join "" ss)) := by
  have sum : (ss.map (·.length)).sum ≤ ss.length := by
    clear hl
    induction ss with
    | nil => exact Nat.le_refl _
    | cons s r ih =>
      have h1 := (h s List.mem_cons_self).1
      have h2 := ih fun t ht => h t (List.mem_cons_of_mem _ ht)
      simp only [List.map_cons, List.sum_cons, List.length_cons]
      omega
  unfold joinP
  rw [gS_str, Option.bind_some, gQ_list, Option.bind_some, gSs_strs, Option.bind_some]
  have e : Txt.join (Str.ofString "") ss = Str.join "" ss := by
    unfold Txt.join
    rw [StrLaws.glued_eq_join]
  rw [e, empty_len, if_pos (by omega)]
theorem word_of {ab : Str} (A : Abc ab) : ∀ {es : List PyData}, (∀ x ∈ es, ∃ c ∈ ab.cps.toList, x = .str (tx [c])) → ∃ cs : List Nat, es = (cs.map fun c => tx [c]).map .str ∧ ∀ c ∈ cs, c ∈ ab.cps.toList
  | [], _ => ⟨[], rfl, fun _ z => nomatch z⟩
  | x :: r, h => by
    obtain ⟨c, hc, rfl⟩ := h x List.mem_cons_self
    obtain ⟨cs, rfl, hr⟩ := word_of A (es := r) fun y hy => h y (List.mem_cons_of_mem _ hy)
    refine ⟨c :: cs, rfl, fun d hd => ?_⟩
    rcases List.mem_cons.mp hd with z | z
    · rw [z]; exact hc
    · exact hr d z
theorem word_cps (cs : List Nat) : (Str.join "" (cs.map fun c => tx [c])).cps.toList = cs := by
  rw [join_empty, List.map_map]
  have : ((fun s : Str => s.cps.toList) ∘ fun c => tx [c]) = fun c => [c] := by
    funext c
    simp [tx]
  rw [this]
  induction cs with
  | nil => rfl
  | cons c r ih => simpa using ih
structure Names (ss : List Str) : Prop where
  len : ss.length = 16
  ok : ∀ s ∈ ss, SOk 100 s
def wds6 : List Str := [("tunes" : Str), "near", "station", "apart", "fix", "bar"]
theorem wds_split : op2f [] splP (cc (.str "tunes near station apart fix bar")) (cc (.str " ")) = fun e => some (.list (wds6.map PyData.str), e) := by
  have h : splP (.str "tunes near station apart fix bar") (.str " ") = some (wds6.map PyData.str) := by
    have h1 : Txt.split "tunes near station apart fix bar" " " = wds6 := by decide +kernel
    have h2 : ((Str.ofString " ").length == 0) = false ∧ (Str.ofString "tunes near station apart fix bar").length + 2 ≤ 100000 := by decide +kernel
    show (if ((Str.ofString " ").length == 0) = false ∧ (Str.ofString "tunes near station apart fix bar").length + 2 ≤ 100000 then some ((Txt.split "tunes near station apart fix bar" " ").map PyData.str) else none) = _
    rw [if_pos h2, h1]
  funext e
  show ((splP (.str "tunes near station apart fix bar") (.str " ")).bind fun es => if ck [] es = true then some (PyData.list es, e) else none) = _
  rw [h]
  rfl
/-- what comes behind the names were found -/
theorem ev_names_end {ab : Str} (A : Abc ab) (n : Nat) {ss : List Str} (hs : Names ss) (x2 x3 x4 x5 x6 x7 x10 x11 : Option PyData) : ∃ (rs : List Str) (e2 : Sv.Env), Names rs ∧
    (seqF (setF 12 (cc (.str "tunes near station apart fix bar"))) (seqF (iffF (tbF (op2 (eqDP true) c__law_names_7 (lsF [] aN))) (retF c__law_names_8) nxF) (retF (vr 9)))) (D14 n ab x2 x3 x4 x5 x6 x7 none (some (.list (ss.map .str))) x10 x11 none none) = some (.rt (.list (rs.map .str)) e2) := by
  obtain ⟨ws, h1, h2⟩ := ev_hit (ab := ab) n hs.ok (by rw [hs.len]; omega) _ _ wds_split x2 x3 x4 x5 x6 x7 none x10 x11
  obtain ⟨qs, h3, h4, h5⟩ := ev_qs A n (q := "q") ⟨by decide, by decide⟩ x2 x3 x4 x5 x6 x7 (some (.list (ss.map .str))) x10 x11 (some (.str "tunes near station apart fix bar")) none
  have t1 : op2 (eqDP true) c__law_names_7 (lsF [] aN) (D14 n ab x2 x3 x4 x5 x6 x7 none (some (.list (ss.map .str))) x10 x11 (some (.str "tunes near station apart fix bar")) none) = some (.bool (!(ws.map PyData.str).isEmpty), D14 n ab x2 x3 x4 x5 x6 x7 none (some (.list (ss.map .str))) x10 x11 (some (.str "tunes near station apart fix bar")) none) := by
    refine op2_any h1 (G := lsF [] aN) (b := .list []) rfl ?_
    show (if SeqAt.shaped (asL (.list (ws.map .str))) = true ∧ SeqAt.shaped (asL (.list [])) = true then some (PyData.bool (if true then !PyData.eqv (asL (.list (ws.map .str))) (asL (.list [])) else _)) else none) = _
    rw [asL_list, asL_list, if_pos ⟨shaped_strs h2, shaped_nil⟩, eqv_nilL]
    rfl
  refine (show ∃ (rs : List Str) (e2 : Sv.Env), Names rs ∧ _ = _ from ?_)
  cases hb : (!(ws.map PyData.str).isEmpty)
  · rw [hb] at t1
    exact ⟨ss, _, hs, seq_nx (set_at rfl) (seq_nx (iff_f (tb_at t1) rfl) (ret_at rfl))⟩
  · rw [hb] at t1
    exact ⟨qs, _, ⟨h4, h5⟩, seq_nx (set_at rfl) (seq_rt (iff_t (tb_at t1) (ret_at h3)))⟩
end K11

namespace K11
open PySem PySem.Spec PyProof.Rows L2 Pre Dv Sv
local macro_rules | `(tactic| walk_at "sv") => `(tactic| simp (maxSteps := 4000000) [*, gDef, forF, seqF, setF, iffF, retF, nxF, Sv.vr, cc, op2, eqDP, eqP, fl, scal, ipi, ipc, ipb, bn, aC, aN, o1, o2, ixLP, ixTP, catTP, Xq.divP, tbF, notF, truF, truD, andF, orF, andV, orV, notV, ifV, lsF, lenP, absP, negF, Xq.invF, callF, Xq.callFS, callM, aM, upE, posOf, flF, noL, noL.noLs, asgF, tpG, coG, nmG, niG, slTF, slLF, oS, oN, tupF, itmF, ixN, atI_0, atI_1, atI_2, atI_3, appF, outF, ownF, augF, isP, isN_none, isN_int, isN_str, isN_bool, isN_list, isN_tuple, rg1, Xq.enQF, Xq.zpAF, gJ_row, gJ_list, f1, bnf, gJ_tuple, lcF, shaped_nats, eqv_nats, gQ_row, gR_row0, mixP, gI_int, gS_str, gB_bool, gL_list, gT_tuple, gT_web, gT_row, Xq.orX, Xq.raiF, Xq.xDef, Xq.tryF, Xq.unsO, Xq.exN_D, Xq.isXF, catG, op2f, tuF, rdF, qB, qI, k_ii, k_ib, k_bi, k_bb, k_ni, k_si, k_li, k_ti, k_di, k_nt, k_bt, k_it, k_st, k_lt, k_tt, k_dt, gR_list, gQ_list, gQ_tuple, gQ_scr, asL_scr, asL_list, asL_tuple, gR_scr, ck, shaped_ints, shaped_nil, eqv_nil, isF, isiP, tyN, chnF, wipeE, restE, -List.all_eq_true, -List.map_cons, -List.map_nil])
section
variable {ab : Str}
/-- letters put together -/
theorem word_join (A : Abc ab) {es : List PyData} (h : ∀ x ∈ es, ∃ c ∈ ab.cps.toList, x = .str (tx [c])) (hl : es.length = 8) : ∃ cs : List Nat, joinP (.str "") (.list es) = some (.str ⟨cs.toArray⟩) ∧ cs.length = 8 ∧ ∀ c ∈ cs, c ∈ ab.cps.toList := by
  obtain ⟨cs, rfl, h2⟩ := word_of A h
  refine ⟨cs, ?_, by simpa using hl, h2⟩
  rw [join_at (fun s hs => ?_) (by simp at hl; simp [hl])]
  · have e := word_cps cs
    congr 2
    have : Str.join "" (cs.map fun c => tx [c]) = ⟨(Str.join "" (cs.map fun c => tx [c])).cps.toList.toArray⟩ := by simp
    rw [this, e]
  · obtain ⟨c, hc, rfl⟩ := List.mem_map.mp hs
    exact SOk.one (A.ok.2 c (h2 c hc))
theorem wd_ok (A : Abc ab) {cs : List Nat} (hl : cs.length = 8) (h : ∀ c ∈ cs, c ∈ ab.cps.toList) : SOk 8 (⟨cs.toArray⟩ : Str) := ⟨by simp [Str.length, hl], fun c hc => A.ok.2 c (h c (by simpa using hc))⟩
theorem tb_lt (n : Nat) (e : Sv.Env) (h0 : e[0]? = some (some (natD n))) : tbF (op2 ltP (op2 modP (vr 0) (cc (.int 4))) (cc (.int 2))) e = some (decide ((n : Int) % 4 < 2), e) := by
  have : vr 0 e = some (natD n, e) := by simp [vr, h0]
  walk_at "sv"
theorem tb_eq2 (n : Nat) (e : Sv.Env) (h0 : e[0]? = some (some (natD n))) : tbF (op2 (eqP false) (op2 modP (vr 0) (cc (.int 4))) (cc (.int 2))) e = some (decide ((n : Int) % 4 = 2), e) := by
  have : vr 0 e = some (natD n, e) := by simp [vr, h0]
  walk_at "sv"
variable (A : Abc ab)
include A
theorem ev_b1 (n : Nat) {wd : Str} (hw : SOk 8 wd) : ∃ (ss : List Str) (x4 x5 x6 x7 : Option PyData), Names ss ∧ (seqF (setF 4 (op2 addP (cc (.int 2)) (op2 modP (op2 Xq.divP (vr 0) (cc (.int 4))) (cc (.int 7)))))
  (seqF (setF 5 (op2 modP (op2 Xq.divP (vr 0) (cc (.int 32))) (vr 4)))
  (seqF (setF 6 (ifV (tbF (op2 (eqP false) (vr 5) (cc (.int 0)))) (vr 1) (op2 catSP (vr 1) (cc (.str "0123456789")))))
  (seqF (setF 7 c__law_names_2)
  (setF 9 c__law_names_3))))) (D14 n ab (some (.str wd)) none none none none none none none none none none none) = some (.nx (D14 n ab (some (.str wd)) none x4 x5 x6 x7 none (some (.list (ss.map .str))) none none none none)) := by
  obtain ⟨size, hsz⟩ : ∃ size : Int, size = 2 + (n : Int) / 4 % 7 := ⟨_, rfl⟩
  obtain ⟨at_, hat⟩ : ∃ at_ : Int, at_ = (n : Int) / 32 % size := ⟨_, rfl⟩
  have s1 : setF 4 (op2 addP (cc (.int 2)) (op2 modP (op2 Xq.divP (vr 0) (cc (.int 4))) (cc (.int 7)))) (D14 n ab (some (.str wd)) none none none none none none none none none none none) = some (.nx (D14 n ab (some (.str wd)) none (some (.int size)) none none none none none none none none none)) := by
    rw [hsz]
    clear hat hsz A
    walk_at "sv"
  have z : 0 < size := by omega
  have s2 : setF 5 (op2 modP (op2 Xq.divP (vr 0) (cc (.int 32))) (vr 4)) (D14 n ab (some (.str wd)) none (some (.int size)) none none none none none none none none none) = some (.nx (D14 n ab (some (.str wd)) none (some (.int size)) (some (.int at_)) none none none none none none none none)) := by
    rw [hat]
    clear s1 hat hsz A
    walk_at "sv"
  obtain ⟨sg, g1, g2, g3⟩ : ∃ sg : Str, SOk 36 sg ∧ 0 < sg.length ∧ setF 6 (ifV (tbF (op2 (eqP false) (vr 5) (cc (.int 0)))) (vr 1) (op2 catSP (vr 1) (cc (.str "0123456789")))) (D14 n ab (some (.str wd)) none (some (.int size)) (some (.int at_)) none none none none none none none none) = some (.nx (D14 n ab (some (.str wd)) none (some (.int size)) (some (.int at_)) (some (.str sg)) none none none none none none none)) := by
    have dg : SOk 10 ("0123456789" : Str) := ⟨by decide +kernel, by decide +kernel⟩
    have hc := cat_ok A.ok dg (by omega)
    have al := A.len
    have ao := A.ok
    clear s1 s2 hat hsz A
    by_cases h : at_ = 0
    · refine ⟨ab, ao.mono (by omega), by omega, ?_⟩
      clear ao dg hc
      walk_at "sv"
    · refine ⟨ab ++ "0123456789", ao.cat dg, by rw [Str.length_append]; omega, ?_⟩
      clear ao dg
      walk_at "sv"
  obtain ⟨ss, h1, h2, h3⟩ := ev_some (ab := ab) n g1 (by omega) g2 (some (.str wd)) none (some (.int size)) (some (.int at_)) none none none none none none
  obtain ⟨rs, k1, k2, k3⟩ := ev_found1 (ab := ab) n hw h3 (by omega) at_ size none (some (.str sg)) none none none none none
  exact ⟨rs, _, _, _, _, ⟨by omega, k3⟩, seq_nx s1 (seq_nx s2 (seq_nx g3 (seq_nx (set_at h1) (set_at k1))))⟩
theorem ev_b3 (n : Nat) (x2 : Option PyData) : ∃ (ss : List Str), Names ss ∧ setF 9 c__law_names_6 (D14 n ab x2 none none none none none none none none none none none) = some (.nx (D14 n ab x2 none none none none none none (some (.list (ss.map .str))) none none none none)) := by
  obtain ⟨ss, h1, h2, h3⟩ := ev_sings A n x2 none none none none none none none none none none
  exact ⟨ss, ⟨h2, h3⟩, set_at h1⟩
theorem ev_b2 (n : Nat) {cs : List Nat} (hl : cs.length = 8) (hcs : ∀ c ∈ cs, c ∈ ab.cps.toList) : ∃ (ss : List Str) (x11 : Option PyData), Names ss ∧ (seqF (setF 11 (op2 catSP (op2 ixSP (vr 1) (op2 modP (op2 addP (op2 addP (idxF (vr 1) (op2 ixSP (vr 2) (cc (.int 0)))) (cc (.int 1))) (op2 modP (op2 Xq.divP (vr 0) (cc (.int 4))) (cc (.int 25)))) (cc (.int 26)))) (slSF (vr 2) (oS (cc (.int 1))) oN)))
  (seqF (setF 9 c__law_names_4)
  (setF 9 (op2f [] catG (vr 9) c__law_names_5)))) (D14 n ab (some (.str ⟨cs.toArray⟩)) none none none none none none none none none none none) = some (.nx (D14 n ab (some (.str ⟨cs.toArray⟩)) none none none none none none (some (.list (ss.map .str))) none x11 none none)) := by
  obtain ⟨c0, hc0⟩ : ∃ c0, cs[0]? = some c0 := ⟨cs[0], List.getElem?_eq_getElem (by omega)⟩
  have hw := wd_ok A hl hcs
  obtain ⟨k, hk⟩ := A.ix c0 (hcs c0 (List.mem_of_getElem? hc0))
  obtain ⟨wd, hwd⟩ : ∃ wd : Str, wd = ⟨cs.toArray⟩ := ⟨_, rfl⟩
  have q1 : ixSP (.str wd) (.int 0) = some (.str (tx [c0])) := by
    have e : atI cs (0 : Int) = some c0 := atI_of (i := 0) hc0
    rw [hwd]
    show (if (⟨cs.toArray⟩ : Str).length ≤ 100000 then (atI (⟨cs.toArray⟩ : Str).cps.toList (0 : Int)).map fun c => PyData.str (tx [c]) else none) = _
    rw [if_pos (by have := hw.1; omega)]
    show (atI cs (0 : Int)).map _ = _
    rw [e]
    rfl
  rw [← hwd] at hw ⊢
  clear hwd hcs hl hc0
  have m0 : 0 ≤ ((k : Int) + 1 + (n : Int) / 4 % 25) % 26 := by omega
  have m1 : ((k : Int) + 1 + (n : Int) / 4 % 25) % 26 < 26 := by omega
  obtain ⟨c, hc, f2, f3⟩ := A.at_ m0 m1
  clear m0 m1
  have o2 := hw.cut (some 1) none
  have a2 := cat_ok (SOk.one f3) o2 (by omega)
  have ok := (SOk.one f3).cat o2
  have s1 : op2 catSP (op2 ixSP (vr 1) (op2 modP (op2 addP (op2 addP (idxF (vr 1) (op2 ixSP (vr 2) (cc (.int 0)))) (cc (.int 1))) (op2 modP (op2 Xq.divP (vr 0) (cc (.int 4))) (cc (.int 25)))) (cc (.int 26)))) (slSF (vr 2) (oS (cc (.int 1))) oN) (D14 n ab (some (.str wd)) none none none none none none none none none none none) = some (.str (tx [c] ++ cutS wd (some 1) none), D14 n ab (some (.str wd)) none none none none none none none none none none none) := by
    have a3 : slSF (vr 2) (oS (cc (.int 1))) oN (D14 n ab (some (.str wd)) none none none none none none none none none none none) = some (.str (cutS wd (some 1) none), D14 n ab (some (.str wd)) none none none none none none none none none none none) := slS_at rfl rfl rfl (by have := hw.1; omega)
    refine op2_any ?_ a3 a2
    have a4 : idxF (vr 1) (op2 ixSP (vr 2) (cc (.int 0))) (D14 n ab (some (.str wd)) none none none none none none none none none none none) = some (.int (k : Nat), D14 n ab (some (.str wd)) none none none none none none none none none none none) := by
      have a5 : op2 ixSP (vr 2) (cc (.int 0)) (D14 n ab (some (.str wd)) none none none none none none none none none none none) = some (.str (tx [c0]), D14 n ab (some (.str wd)) none none none none none none none none none none none) := op2_any rfl rfl q1
      unfold idxF
      show (op2 ixSP (vr 2) (cc (.int 0)) (D14 n ab (some (.str wd)) none none none none none none none none none none none)).bind _ = _
      rw [a5]
      show (Txt.index0 ab (tx [c0])).map _ = _
      rw [hk]
      rfl
    refine op2_any rfl (e2 := D14 n ab (some (.str wd)) none none none none none none none none none none none) (b := .int (((k : Int) + 1 + (n : Int) / 4 % 25) % 26)) ?_ f2
    refine op2_any (b := .int 26) (op2_any (a := .int ((k : Int) + 1)) (op2_any (b := .int 1) a4 rfl rfl) (b := .int ((n : Int) / 4 % 25)) (e2 := D14 n ab (some (.str wd)) none none none none none none none none none none none) ?_ rfl) rfl rfl
    clear a4 a3 a2 f2 q1 hk A hc f3 o2 ok hw
    walk_at "sv"
  obtain ⟨ot, hot⟩ : ∃ ot : Str, ot = tx [c] ++ cutS wd (some 1) none := ⟨_, rfl⟩
  rw [← hot] at s1 ok a2
  have hwl : wd.length ≤ 100000 := by have := hw.1; omega
  have hol : ot.length ≤ 100000 := by have := ok.1; omega
  obtain ⟨rs, k1, k2, k3⟩ := ev_pre n (F := slSF (vr 2) oN (oS (op2 addP (vr 8) (cc (.int 1))))) (hw.mono (show 8 ≤ 100 by omega)) (D14 n ab (some (.str wd)) none none none none none none none none (some (.str ot)) none none) (fun j _ => slS_at rfl rfl rfl hwl) (fun _ => rfl)
  obtain ⟨us, j1, j2, j3⟩ := ev_pre n (F := slSF (vr 11) oN (oS (op2 addP (vr 8) (cc (.int 1))))) (ok.mono (show 1 + 8 ≤ 100 by omega)) (D14 n ab (some (.str wd)) none none none none none none (some (.list (rs.map .str))) none (some (.str ot)) none none) (fun j _ => slS_at rfl rfl rfl hol) (fun _ => rfl)
  have s2 : c__law_names_4 (D14 n ab (some (.str wd)) none none none none none none none none (some (.str ot)) none none) = some (.list (rs.map .str), D14 n ab (some (.str wd)) none none none none none none none none (some (.str ot)) none none) := lcF_of (env1 := D14 n ab (some (.str wd)) none none none none none none none none (some (.str ot)) none none) rfl (by rw [rngD_length]; omega) k1
  have s3 : c__law_names_5 (D14 n ab (some (.str wd)) none none none none none none (some (.list (rs.map .str))) none (some (.str ot)) none none) = some (.list (us.map .str), D14 n ab (some (.str wd)) none none none none none none (some (.list (rs.map .str))) none (some (.str ot)) none none) := lcF_of (env1 := D14 n ab (some (.str wd)) none none none none none none (some (.list (rs.map .str))) none (some (.str ot)) none none) rfl (by rw [rngD_length]; omega) j1
  have s4 : op2f [] catG (vr 9) c__law_names_5 (D14 n ab (some (.str wd)) none none none none none none (some (.list (rs.map .str))) none (some (.str ot)) none none) = some (.list ((rs ++ us).map .str), D14 n ab (some (.str wd)) none none none none none none (some (.list (rs.map .str))) none (some (.str ot)) none none) := by
    have e : catG (.list (rs.map .str)) (.list (us.map .str)) = some ((rs ++ us).map .str) := by
      show (if (rs.map PyData.str).length + (us.map PyData.str).length ≤ 100000 then some (rs.map PyData.str ++ us.map PyData.str) else none) = _
      rw [if_pos (by simp; omega), List.map_append]
    unfold op2f
    show (c__law_names_5 (D14 n ab (some (.str wd)) none none none none none none (some (.list (rs.map .str))) none (some (.str ot)) none none)).bind _ = _
    rw [s3, Option.bind_some]
    show (catG (.list (rs.map .str)) (.list (us.map .str))).bind _ = _
    rw [e]
    rfl
  refine ⟨rs ++ us, some (.str ot), ⟨by simp; omega, fun s hs => ?_⟩, seq_nx (set_at s1) (seq_nx (set_at s2) (set_at s4))⟩
  rcases List.mem_append.mp hs with z | z
  · exact k3 s z
  · exact j3 s z
end
/-- the names that are drawn -/
theorem ev_names (n : Nat) : ∃ rs : List Str, Names rs ∧ g__law_names [natD n] = some (.list (rs.map .str), [natD n]) := by
  have A := abc_is
  obtain ⟨es, w1, w2, w3⟩ := ev_word A n none none none none none none none none none none none
  obtain ⟨cs, w4, w5, w6⟩ := word_join A w3 w2
  have t2 : op2 joinP (cc (.str "")) c__law_names_1 (D14 n abc none none none none none none none none none none none none) = some (.str ⟨cs.toArray⟩, D14 n abc none none none none none none none none none none none none) := op2_any (F := cc (.str "")) rfl w1 w4
  have key : ∃ (rs : List Str) (e2 : Sv.Env), Names rs ∧ f__law_names (Sv.envOf n__law_names [natD n]) = some (.rt (.list (rs.map .str)) e2) := by
    have e0 : setF 1 (cc (.str "abcdefghijklmnopqrstuvwxyz")) (Sv.envOf n__law_names [natD n]) = some (.nx (D14 n abc none none none none none none none none none none none none)) := rfl
    have t3 := tb_lt n (D14 n abc (some (.str ⟨cs.toArray⟩)) none none none none none none none none none none none) rfl
    have t4 := tb_eq2 n (D14 n abc (some (.str ⟨cs.toArray⟩)) none none none none none none none none none none none) rfl
    by_cases h1 : (n : Int) % 4 < 2
    · obtain ⟨ss, x4, x5, x6, x7, hs, b⟩ := ev_b1 A n (wd_ok A w5 w6)
      obtain ⟨rs, e2, hr, c⟩ := ev_names_end A n hs (some (.str ⟨cs.toArray⟩)) none x4 x5 x6 x7 none none
      rw [decide_eq_true h1] at t3
      exact ⟨rs, e2, hr, seq_nx e0 (seq_nx (set_at t2) (seq_nx (iff_t t3 b) c))⟩
    · rw [decide_eq_false h1] at t3
      by_cases h2 : (n : Int) % 4 = 2
      · obtain ⟨ss, x11, hs, b⟩ := ev_b2 A n w5 w6
        obtain ⟨rs, e2, hr, c⟩ := ev_names_end A n hs (some (.str ⟨cs.toArray⟩)) none none none none none none x11
        rw [decide_eq_true h2] at t4
        exact ⟨rs, e2, hr, seq_nx e0 (seq_nx (set_at t2) (seq_nx (iff_f t3 (iff_t t4 b)) c))⟩
      · obtain ⟨ss, hs, b⟩ := ev_b3 A n (some (.str ⟨cs.toArray⟩))
        obtain ⟨rs, e2, hr, c⟩ := ev_names_end A n hs (some (.str ⟨cs.toArray⟩)) none none none none none none none
        rw [decide_eq_false h2] at t4
        exact ⟨rs, e2, hr, seq_nx e0 (seq_nx (set_at t2) (seq_nx (iff_f t3 (iff_f t4 b)) c))⟩
  obtain ⟨rs, e2, hr, k⟩ := key
  refine ⟨rs, hr, ?_⟩
  unfold g__law_names gDef
  rw [if_pos (show [natD n].length = 1 from rfl), k]
  rfl
end K11

namespace Sv
open PySem PySem.Spec PyProof.Rows L2 Pre Dv
theorem ixN_of {n k : Nat} (h : k < n) : ixN n (k : Int) = some k := by
  unfold ixN
  rw [if_pos (by omega), if_pos (by omega)]
  simp
theorem vr_at {e : Env} {i : Nat} {d : PyData} (h : e[i]? = some (some d)) : vr i e = some (d, e) := by
  unfold vr
  rw [h]
theorem itm2_at {a b v i j l : Nat} {e : Env} {x : PyData} {ds es : List PyData} (hv : e[v]? = some (some x)) (ha : e[a]? = some (some (.int (i : Int)))) (hb : e[b]? = some (some (.int (j : Int)))) (hl : e[l]? = some (some (.list ds))) (hi : ds[i]? = some (.list es)) (hj : j < es.length) :
    itm2F l (vr v) (vr a) (vr b) e = some (.nx (e.set l (some (.list (ds.set i (.list (es.set j x))))))) := by
  have hi2 := (List.getElem?_eq_some_iff.mp hi).1
  unfold itm2F
  rw [vr_at hv, Option.bind_some]
  show (vr a e).bind _ = _
  rw [vr_at ha, Option.bind_some]
  show (vr b e).bind _ = _
  rw [vr_at hb, Option.bind_some]
  show (vr l e).bind _ = _
  rw [vr_at hl, Option.bind_some]
  show (ixN ds.length (i : Int)).bind _ = _
  rw [ixN_of hi2, Option.bind_some, hi, Option.bind_some]
  show (ixN es.length (j : Int)).map _ = _
  rw [ixN_of hj]
  rfl
/-- a loop whose rounds draw at most m numbers each -/
theorem loop_cnt {Gg : Fg} {s : Fs} (P : Nat → Env → Prop) (m B : Nat) : ∀ (ds : List PyData) (c : Nat) (e : Env), P c e → c + m * ds.length ≤ B → (∀ d ∈ ds, ∀ c e, P c e → c + m ≤ B → ∃ e1 e2 c2, Gg d e = some e1 ∧ s e1 = some (.nx e2) ∧ c2 ≤ c + m ∧ P c2 e2) →
    ∃ e2 c2, loopF Gg s ds e = some (.nx e2) ∧ c2 ≤ c + m * ds.length ∧ P c2 e2
  | [], c, e, h, _, _ => ⟨e, c, rfl, Nat.le_add_right _ _, h⟩
  | d :: ds, c, e, h, hb, hs => by
    rw [List.length_cons, Nat.mul_add, Nat.mul_one] at hb
    obtain ⟨e1, e2, c2, h1, h2, h3, h4⟩ := hs d List.mem_cons_self c e h (by omega)
    obtain ⟨e3, c3, h5, h6, h7⟩ := loop_cnt P m B ds c2 e2 h4 (by omega) fun x hx => hs x (List.mem_cons_of_mem _ hx)
    refine ⟨e3, c3, ?_, by rw [List.length_cons, Nat.mul_add, Nat.mul_one]; omega, h7⟩
    unfold loopF
    rw [h1, Option.bind_some, h2]
    exact h5
theorem flat_rep (n : Nat) (d : PyData) : (List.replicate n [d]).flatten = List.replicate n d := by
  induction n with
  | zero => rfl
  | succ n ih => simp [List.replicate_succ, ih]
end Sv
namespace K11
open PySem PySem.Spec PyProof.Rows L2 Pre Dv Sv
local macro_rules | `(tactic| walk_at "sv") => `(tactic| simp (maxSteps := 4000000) [*, gDef, forF, seqF, setF, iffF, retF, nxF, Sv.vr, cc, op2, eqDP, eqP, fl, scal, ipi, ipc, ipb, bn, aC, aN, o1, o2, ixLP, ixTP, catTP, Xq.divP, tbF, notF, truF, truD, andF, orF, andV, orV, notV, ifV, lsF, lenP, absP, negF, Xq.invF, callF, Xq.callFS, callM, aM, upE, posOf, flF, noL, noL.noLs, asgF, tpG, coG, nmG, niG, slTF, slLF, oS, oN, tupF, itmF, ixN, atI_0, atI_1, atI_2, atI_3, appF, outF, ownF, augF, isP, isN_none, isN_int, isN_str, isN_bool, isN_list, isN_tuple, rg1, Xq.enQF, Xq.zpAF, gJ_row, gJ_list, f1, bnf, gJ_tuple, lcF, shaped_nats, eqv_nats, gQ_row, gR_row0, mixP, gI_int, gS_str, gB_bool, gL_list, gT_tuple, gT_web, gT_row, Xq.orX, Xq.raiF, Xq.xDef, Xq.tryF, Xq.unsO, Xq.exN_D, Xq.isXF, catG, op2f, tuF, rdF, qB, qI, k_ii, k_ib, k_bi, k_bb, k_ni, k_si, k_li, k_ti, k_di, k_nt, k_bt, k_it, k_st, k_lt, k_tt, k_dt, gR_list, gQ_list, gQ_tuple, gQ_scr, asL_scr, asL_list, asL_tuple, gR_scr, ck, shaped_ints, shaped_nil, eqv_nil, isF, isiP, tyN, chnF, wipeE, restE, -List.all_eq_true, -List.map_cons, -List.map_nil])
/-- a table of gaps that is being made -/
structure GT (n : Nat) (t : List (List Nat)) : Prop where
  len : t.length = n
  row : ∀ r ∈ t, r.length = n
  le : ∀ r ∈ t, ∀ g ∈ r, g ≤ 5
abbrev lstD (r : List Nat) : PyData := .list (r.map natD)
theorem GT.put {n : Nat} {t : List (List Nat)} (h : GT n t) {i j g : Nat} (hg : g ≤ 5) (r : List Nat) (hr : t[i]? = some r) : GT n (t.set i (r.set j g)) := by
  have hm := List.mem_of_getElem? hr
  refine ⟨by rw [List.length_set]; exact h.len, fun x hx => ?_, fun x hx y hy => ?_⟩
  · rcases List.mem_or_eq_of_mem_set hx with z | z
    · exact h.row x z
    · rw [z, List.length_set]; exact h.row r hm
  · rcases List.mem_or_eq_of_mem_set hx with z | z
    · exact h.le x z y hy
    · rw [z] at hy
      rcases List.mem_or_eq_of_mem_set hy with u | u
      · exact h.le r hm y u
      · rw [u]; exact hg
abbrev D11 (ns : List Int) (c n : Nat) (t : List (List Nat)) (x4 x5 x6 x7 x8 x9 x10 : Option PyData) : Sv.Env := [some (dr ns c), some (natD n), some (.int 5), some (.list (t.map lstD)), x4, x5, x6, x7, x8, x9, x10]
theorem set_row (t : List (List Nat)) (i j g : Nat) (r : List Nat) : (t.map lstD).set i (.list ((r.map natD).set j (natD g))) = (t.set i (r.set j g)).map lstD := by
  rw [List.map_set]
  congr 1
  show _ = PyData.list ((r.set j g).map natD)
  rw [List.map_set]
theorem ev_nextM (ns : List Int) (c : Nat) (hc : c < 100000) (r : List (Option PyData)) : ∃ m : Nat, m < 33554432 ∧ callM g__law_next [some 0] (aM 0 aN) (some (dr ns c) :: r) = some (natD m, some (dr ns (c + 1)) :: r) := by
  have b := cellN_b ns (c + 1)
  obtain ⟨m, hm⟩ : ∃ m : Nat, cellN ns (c + 1) = (m : Int) := ⟨(cellN ns (c + 1)).toNat, by omega⟩
  refine ⟨m, by omega, ?_⟩
  have e := ev_next ns c hc
  rw [hm] at e
  show (g__law_next [dr ns c]).map _ = _
  rw [e]
  rfl
theorem gap_at (thick : Nat) (ht : thick < 4) (m : Nat) (hm : m < 33554432) (e : Sv.Env) (h8 : e[8]? = some (some (natD m))) (h5 : e[5]? = some (some (natD thick))) (h2 : e[2]? = some (some (.int 5))) : ∃ g : Nat, g ≤ 5 ∧ ifV (tbF (op2 ltP (op2 modP (vr 8) (cc (.int 8))) (op2 addP (cc (.int 2)) (op2 mulP (cc (.int 2)) (vr 5))))) (op2 addP (cc (.int 1)) (op2 modP (op2 Xq.divP (vr 8) (cc (.int 8))) (vr 2))) (cc (.int 0)) e = some (natD g, e) := by
  by_cases h : (m : Int) % 8 < 2 + 2 * (thick : Int)
  · obtain ⟨g, hg, ge⟩ : ∃ g : Nat, g ≤ 5 ∧ (natD g = .int (1 + (m : Int) / 8 % 5)) := ⟨1 + m / 8 % 5, by omega, by show PyData.int _ = PyData.int _; congr 1⟩
    refine ⟨g, hg, ?_⟩
    rw [ge]
    clear ge hg
    have l1 : -18446744073709551616 < (thick : Int) := by omega
    have l2 : (thick : Int) < 18446744073709551616 := by omega
    walk_at "sv"
  · refine ⟨0, by omega, ?_⟩
    have l1 : -18446744073709551616 < (thick : Int) := by omega
    have l2 : (thick : Int) < 18446744073709551616 := by omega
    walk_at "sv"
theorem ev_gap_in (ns : List Int) (n i thick : Nat) (hi : i < n) (ht : thick < 4) (c : Nat) (e : Sv.Env) (hc : c + 1 * i ≤ 99999) (he : ∃ t x7 x8 x9, GT n t ∧ e = D11 ns c n t none (some (natD thick)) (some (natD i)) x7 x8 x9 none) :
    ∃ e2 c2, loopF (nmG 7) b__law_gaps_1 (rngD 0 i) e = some (.nx e2) ∧ c2 ≤ c + 1 * i ∧ ∃ t x7 x8 x9, GT n t ∧ e2 = D11 ns c2 n t none (some (natD thick)) (some (natD i)) x7 x8 x9 none := by
  have run := loop_cnt (Gg := nmG 7) (s := b__law_gaps_1) (fun (k : Nat) e => ∃ t x7 x8 x9, GT n t ∧ e = D11 ns k n t none (some (natD thick)) (some (natD i)) x7 x8 x9 none) 1 99999 (rngD 0 i) c e he (by rw [rngD_length]; exact hc) (fun d hd k e hk kb => by
    obtain ⟨j, hj, rfl⟩ := rngD_mem hd
    obtain ⟨t, x7, x8, x9, g, rfl⟩ := hk
    obtain ⟨m, hm, s1⟩ := ev_nextM ns k (by omega) [some (natD n), some (.int 5), some (.list (t.map lstD)), none, some (natD thick), some (natD i), some (natD j), x8, x9, none]
    obtain ⟨gp, hg, s2⟩ := gap_at thick ht m hm (D11 ns (k + 1) n t none (some (natD thick)) (some (natD i)) (some (natD j)) (some (natD m)) x9 none) rfl rfl rfl
    have hti : ∃ r, t[i]? = some r := ⟨t[i]'(by rw [g.len]; exact hi), List.getElem?_eq_getElem _⟩
    obtain ⟨r, hr⟩ := hti
    have rl := g.row r (List.mem_of_getElem? hr)
    have g2 := g.put (j := j) hg r hr
    have htj : ∃ r', (t.set i (r.set j gp))[j]? = some r' := ⟨_, List.getElem?_eq_getElem (by rw [g2.len]; omega)⟩
    obtain ⟨r2, hr2⟩ := htj
    have rl2 := g2.row r2 (List.mem_of_getElem? hr2)
    have g3 := g2.put (j := i) hg r2 hr2
    have s3 := itm2_at (a := 6) (b := 7) (v := 9) (l := 3) (i := i) (j := j) (e := D11 ns (k + 1) n t none (some (natD thick)) (some (natD i)) (some (natD j)) (some (natD m)) (some (natD gp)) none) (es := r.map natD) (x := natD gp) rfl rfl rfl rfl (by rw [List.getElem?_map, hr]; rfl) (by rw [List.length_map]; omega)
    rw [set_row] at s3
    have s4 := itm2_at (a := 7) (b := 6) (v := 9) (l := 3) (i := j) (j := i) (e := D11 ns (k + 1) n (t.set i (r.set j gp)) none (some (natD thick)) (some (natD i)) (some (natD j)) (some (natD m)) (some (natD gp)) none) (es := r2.map natD) (x := natD gp) rfl rfl rfl rfl (by rw [List.getElem?_map, hr2]; rfl) (by rw [List.length_map]; omega)
    rw [set_row] at s4
    exact ⟨_, _, k + 1, rfl, seq_nx (set_at s1) (seq_nx (set_at s2) (seq_nx s3 s4)), Nat.le_refl _, _, _, _, _, g3, rfl⟩)
  rw [rngD_length] at run
  exact run
theorem mod4_at (m : Nat) : modP (natD m) (.int 4) = some (natD (m % 4)) := by simp [ipc, gI_int]
/-- the gaps of a web -/
theorem ev_gaps (ns : List Int) (n : Nat) (hn : n ≤ 24) (c : Nat) (hc : c ≤ 90000) : ∃ t c2, GT n t ∧ c2 ≤ c + 577 ∧ g__law_gaps [dr ns c, natD n, .int 5] = some (.tuple (t.map rowD), [dr ns c2, natD n, .int 5]) := by
  obtain ⟨t0, ht0⟩ : ∃ t0, t0 = List.replicate n (List.replicate n 0) := ⟨_, rfl⟩
  have g0 : GT n t0 := by
    subst ht0
    refine ⟨by simp, fun r hr => ?_, fun r hr g hg => ?_⟩
    · rw [List.eq_of_mem_replicate hr]; simp
    · rw [List.eq_of_mem_replicate hr] at hg
      rw [List.eq_of_mem_replicate hg]; omega
  have s1 : ownF 3 c__law_gaps_1 (Sv.envOf n__law_gaps [dr ns c, natD n, .int 5]) = some (.nx (D11 ns c n t0 none none none none none none none)) := by
    have e0 : Sv.envOf n__law_gaps [dr ns c, natD n, .int 5] = [some (dr ns c), some (natD n), some (.int 5), none, none, none, none, none, none, none, none] := rfl
    have l0 : -1000000 ≤ (n : Int) ∧ (n : Int) ≤ 1000000 := by omega
    have rep : op2f [] repG (lsF [] (aC (cc (.int 0)) aN)) (vr 1) = fun e => (vr 1 e).bind fun y => (repG (.list [.int 0]) y.1).bind fun es => some (.list es, y.2) := rfl
    have rp : repG (.list [.int 0]) (natD n) = some ((List.replicate n 0).map natD) := by
      show (if (-1000000 ≤ (n : Int) ∧ (n : Int) ≤ 1000000) ∧ [PyData.int 0].length * (n : Int).toNat ≤ 100000 then some (List.replicate (n : Int).toNat [PyData.int 0]).flatten else none) = _
      rw [if_pos ⟨l0, by simp; omega⟩, flat_rep, List.map_replicate]
      rfl
    have k := lcL_fn (vs := [4]) (Gg := nmG 4) (F := op2f [] repG (lsF [] (aC (cc (.int 0)) aN)) (vr 1)) (env := [some (dr ns c), some (natD n), some (.int 5), none, none, none, none, none, none, none, none]) (fun _ => lstD (List.replicate n 0)) (rngD 0 n) (fun d hd => by
      refine ⟨_, [some (dr ns c), some (natD n), some (.int 5), none, some d, none, none, none, none, none, none], rfl, ?_, rfl⟩
      rw [rep]
      show (repG (.list [.int 0]) (natD n)).bind _ = _
      rw [rp]
      rfl)
    have rg : rg1 (vr 1) [some (dr ns c), some (natD n), some (.int 5), none, none, none, none, none, none, none, none] = some (rngD 0 n, [some (dr ns c), some (natD n), some (.int 5), none, none, none, none, none, none, none, none]) := by
      show (if -1000000 ≤ (n : Int) ∧ (n : Int) ≤ 1000000 then some (rngD 0 (n : Int).toNat, _) else none) = _
      rw [if_pos l0]
      rfl
    have m : (rngD 0 n).map (fun _ => lstD (List.replicate n 0)) = t0.map lstD := by
      rw [ht0, List.map_replicate]
      refine List.eq_replicate_iff.mpr ⟨by rw [List.length_map, rngD_length], fun x hx => ?_⟩
      obtain ⟨_, _, rfl⟩ := List.mem_map.mp hx
      rfl
    rw [m] at k
    have l := lcF_of rg (by rw [rngD_length]; omega) k
    unfold ownF
    rw [e0]
    show (lcF [4] (rg1 (vr 1)) (nmG 4) yesT (op2f [] repG (lsF [] (aC (cc (.int 0)) aN)) (vr 1)) _).bind _ = _
    rw [l]
    rfl
  obtain ⟨m, hm, d1⟩ := ev_nextM ns c (by omega) [some (natD n), some (.int 5), some (.list (t0.map lstD)), none, none, none, none, none, none, none]
  have s2 : setF 5 (op2 modP (callM g__law_next [some 0] (aM 0 aN)) (cc (.int 4))) (D11 ns c n t0 none none none none none none none) = some (.nx (D11 ns (c + 1) n t0 none (some (natD (m % 4))) none none none none none)) := set_at (op2_any (pp := modP) (b := .int 4) (G := cc (.int 4)) (e2 := D11 ns (c + 1) n t0 none none none none none none none) d1 rfl (mod4_at m))
  have ht : m % 4 < 4 := Nat.mod_lt _ (by omega)
  generalize m % 4 = thick at s2 ht
  obtain ⟨e3, c3, s3, h3, t, x6, x7, x8, x9, g, rfl⟩ := loop_cnt (Gg := nmG 6) (s := b__law_gaps_2) (fun (k : Nat) e => ∃ t x6 x7 x8 x9, GT n t ∧ e = D11 ns k n t none (some (natD thick)) x6 x7 x8 x9 none) 24 99000 (rngD 0 n) (c + 1) (D11 ns (c + 1) n t0 none (some (natD thick)) none none none none none) ⟨t0, none, none, none, none, g0, rfl⟩ (by rw [rngD_length]; omega) (fun d hd k e hk kb => by
    obtain ⟨i, hi, rfl⟩ := rngD_mem hd
    obtain ⟨t, x6, x7, x8, x9, g, rfl⟩ := hk
    obtain ⟨e2, c2, a1, a2, t2, y7, y8, y9, g2, rfl⟩ := ev_gap_in ns n i thick hi ht k (D11 ns k n t none (some (natD thick)) (some (natD i)) x7 x8 x9 none) (by omega) ⟨t, x7, x8, x9, g, rfl⟩
    have l0 : -1000000 ≤ (i : Int) ∧ (i : Int) ≤ 1000000 := by omega
    refine ⟨_, _, c2, rfl, ?_, by omega, t2, some (natD i), y7, y8, y9, g2, rfl⟩
    show (rg1 (vr 6) (D11 ns k n t none (some (natD thick)) (some (natD i)) x7 x8 x9 none)).bind _ = _
    have rg : rg1 (vr 6) (D11 ns k n t none (some (natD thick)) (some (natD i)) x7 x8 x9 none) = some (rngD 0 i, D11 ns k n t none (some (natD thick)) (some (natD i)) x7 x8 x9 none) := by
      show (if -1000000 ≤ (i : Int) ∧ (i : Int) ≤ 1000000 then some (rngD 0 (i : Int).toNat, _) else none) = _
      rw [if_pos l0]
      rfl
    rw [rg]
    exact a1)
  rw [rngD_length] at h3
  have l0 : -1000000 ≤ (n : Int) ∧ (n : Int) ≤ 1000000 := by omega
  have s3' : l__law_gaps_2 (D11 ns (c + 1) n t0 none (some (natD thick)) none none none none none) = some (.nx (D11 ns c3 n t none (some (natD thick)) x6 x7 x8 x9 none)) := by
    have rg : rg1 (vr 1) (D11 ns (c + 1) n t0 none (some (natD thick)) none none none none none) = some (rngD 0 n, D11 ns (c + 1) n t0 none (some (natD thick)) none none none none none) := by
      show (if -1000000 ≤ (n : Int) ∧ (n : Int) ≤ 1000000 then some (rngD 0 (n : Int).toNat, _) else none) = _
      rw [if_pos l0]
      rfl
    show (rg1 (vr 1) _).bind _ = _
    rw [rg]
    exact s3
  have s4 : retF (bn tupP (aC c__law_gaps_2 aN)) (D11 ns c3 n t none (some (natD thick)) x6 x7 x8 x9 none) = some (.rt (.tuple (t.map rowD)) (D11 ns c3 n t none (some (natD thick)) x6 x7 x8 x9 none)) := by
    have k := lcL_fn (vs := [10]) (Gg := nmG 10) (F := bn tupP (aC (vr 10) aN)) (env := D11 ns c3 n t none (some (natD thick)) x6 x7 x8 x9 none) (fun d => match d with | .list es => .tuple es | _ => .none) (t.map lstD) (fun d hd => by
      obtain ⟨r, hr, rfl⟩ := List.mem_map.mp hd
      exact ⟨_, D11 ns c3 n t none (some (natD thick)) x6 x7 x8 x9 (some (lstD r)), rfl, rfl, rfl⟩)
    rw [List.map_map] at k
    have l : c__law_gaps_2 (D11 ns c3 n t none (some (natD thick)) x6 x7 x8 x9 none) = some (.list (t.map rowD), D11 ns c3 n t none (some (natD thick)) x6 x7 x8 x9 none) := lcF_of (env1 := D11 ns c3 n t none (some (natD thick)) x6 x7 x8 x9 none) rfl (by rw [List.length_map, g.len]; omega) k
    refine ret_at ?_
    show ((c__law_gaps_2 (D11 ns c3 n t none (some (natD thick)) x6 x7 x8 x9 none)).bind _).bind _ = _
    rw [l]
    rfl
  refine ⟨t, c3, g, by omega, ?_⟩
  have all : f__law_gaps (Sv.envOf n__law_gaps [dr ns c, natD n, .int 5]) = some (.rt (.tuple (t.map rowD)) (D11 ns c3 n t none (some (natD thick)) x6 x7 x8 x9 none)) := seq_nx s1 (seq_nx s2 (seq_nx s3' s4))
  unfold g__law_gaps gDef
  rw [if_pos (show [dr ns c, natD n, PyData.int 5].length = 3 from rfl), all]
  rfl
end K11

namespace Sv
open PySem PySem.Spec PyProof.Rows L2 Pre Dv
/-- a loop each of whose rounds counts one -/
theorem loop_one {Gg : Fg} {s : Fs} (P : Nat → Env → Prop) (B : Nat) : ∀ (ds : List PyData) (c : Nat) (e : Env), P c e → c + ds.length ≤ B → (∀ d ∈ ds, ∀ c e, P c e → c + 1 ≤ B → ∃ e1 e2, Gg d e = some e1 ∧ s e1 = some (.nx e2) ∧ P (c + 1) e2) →
    ∃ e2, loopF Gg s ds e = some (.nx e2) ∧ P (c + ds.length) e2
  | [], c, e, h, _, _ => ⟨e, rfl, h⟩
  | d :: ds, c, e, h, hb, hs => by
    rw [List.length_cons] at hb
    obtain ⟨e1, e2, h1, h2, h4⟩ := hs d List.mem_cons_self c e h (by omega)
    obtain ⟨e3, h5, h7⟩ := loop_one P B ds (c + 1) e2 h4 (by omega) fun x hx => hs x (List.mem_cons_of_mem _ hx)
    refine ⟨e3, ?_, by rw [List.length_cons, show c + (ds.length + 1) = c + 1 + ds.length by omega]; exact h7⟩
    unfold loopF
    rw [h1, Option.bind_some, h2]
    exact h5
theorem callF_one {g : List PyData → Option (PyData × List PyData)} {F : Fx} {e e1 : Env} {d r : PyData} {post : List PyData} (h : F e = some (d, e1)) (k : g [d] = some (r, post)) : callF g (aC F aN) e = some (r, e1) := by
  simp [callF, aC, aN, h, k]
theorem op2f_any {pp : PyData → PyData → Option (List PyData)} {F G : Fx} {e e1 e2 : Env} {a b : PyData} {es : List PyData} {S : List Nat} (h1 : F e = some (a, e1)) (h2 : G e1 = some (b, e2)) (h3 : pp a b = some es) (h4 : ck S es = true) : op2f S pp F G e = some (.list es, e2) := by simp [op2f, h1, h2, h3, h4]
theorem nodup_le {α : Type} [DecidableEq α] : ∀ (xs ys : List α), xs.Nodup → (∀ x ∈ xs, x ∈ ys) → xs.length ≤ ys.length
  | [], _, _, _ => Nat.zero_le _
  | x :: r, ys, hn, hs => by
    rw [List.nodup_cons] at hn
    have hx := hs x List.mem_cons_self
    have := nodup_le r (ys.erase x) hn.2 fun y hy => by
      refine (List.mem_erase_of_ne fun e => ?_).mpr (hs y (List.mem_cons_of_mem _ hy))
      rw [e] at hy
      exact hn.1 hy
    rw [List.length_erase_of_mem hx] at this
    have hp := List.length_pos_of_mem hx
    rw [List.length_cons]
    omega
/-- what is left of things that are all unlike, when what stands in ys goes -/
theorem left_over {α : Type} [DecidableEq α] (p : α → Bool) (xs ys : List α) (hn : xs.Nodup) (hp : ∀ x ∈ xs, p x = false → x ∈ ys) : xs.length ≤ (xs.filter p).length + ys.length := by
  have h1 := nodup_le (xs.filter fun x => !p x) ys (hn.filter _) fun x hx => by
    have := List.mem_filter.mp hx
    exact hp x this.1 (by simpa using this.2)
  have h2 : xs.length = (xs.filter p).length + (xs.filter fun x => !p x).length := by
    clear h1 hp hn
    induction xs with
    | nil => rfl
    | cons x r ih => cases h : p x <;> simp [h] <;> omega
  omega
theorem inV_strs (s : Str) (ss : List Str) (h : inV (.str s) (ss.map V.str) = true) : s ∈ ss := by
  unfold inV at h
  obtain ⟨v, hv, h2⟩ := List.any_eq_true.mp h
  obtain ⟨t, ht, rfl⟩ := List.mem_map.mp hv
  have : (t == s) = true := h2
  rw [eq_of_beq this] at ht
  exact ht
end Sv
namespace K11
open PySem PySem.Spec PyProof.Rows L2 Pre Dv Sv
local macro_rules | `(tactic| walk_at "sv") => `(tactic| simp (maxSteps := 4000000) [*, gDef, forF, seqF, setF, iffF, retF, nxF, Sv.vr, cc, op2, eqDP, eqP, fl, scal, ipi, ipc, ipb, bn, aC, aN, o1, o2, ixLP, ixTP, catTP, Xq.divP, tbF, notF, truF, truD, andF, orF, andV, orV, notV, ifV, lsF, lenP, absP, negF, Xq.invF, callF, Xq.callFS, callM, aM, upE, posOf, flF, noL, noL.noLs, asgF, tpG, coG, nmG, niG, slTF, slLF, oS, oN, tupF, itmF, ixN, atI_0, atI_1, atI_2, atI_3, appF, outF, ownF, augF, isP, isN_none, isN_int, isN_str, isN_bool, isN_list, isN_tuple, rg1, Xq.enQF, Xq.zpAF, gJ_row, gJ_list, f1, bnf, gJ_tuple, lcF, shaped_nats, eqv_nats, gQ_row, gR_row0, mixP, gI_int, gS_str, gB_bool, gL_list, gT_tuple, gT_web, gT_row, Xq.orX, Xq.raiF, Xq.xDef, Xq.tryF, Xq.unsO, Xq.exN_D, Xq.isXF, catG, op2f, tuF, rdF, qB, qI, k_ii, k_ib, k_bi, k_bb, k_ni, k_si, k_li, k_ti, k_di, k_nt, k_bt, k_it, k_st, k_lt, k_tt, k_dt, gR_list, gQ_list, gQ_tuple, gQ_scr, asL_scr, asL_list, asL_tuple, gR_scr, ck, shaped_ints, shaped_nil, eqv_nil, isF, isiP, tyN, chnF, wipeE, restE, -List.all_eq_true, -List.map_cons, -List.map_nil])
/-- x0 to x23 -/
def xsn : List Str := (List.range 24).map fun (k : Nat) => ("x" : Str) ++ (toString (k : Int) : Str)
theorem xsn_nodup : xsn.Nodup := by decide +kernel
theorem xsn_ok : ∀ s ∈ xsn, SOk 100 s := by
  have : xsn.all (fun s => decide (s.length ≤ 100) && s.cps.toList.all fun c => decide (c < 1114112)) = true := by decide +kernel
  intro s hs
  have := List.all_eq_true.mp this s hs
  rw [Bool.and_eq_true] at this
  exact ⟨of_decide_eq_true this.1, fun c hc => of_decide_eq_true (List.all_eq_true.mp this.2 c hc)⟩
theorem xsn_len : xsn.length = 24 := by decide +kernel
abbrev D12 (ns : List Int) (c st : Nat) (x4 x5 x6 x7 x8 x9 x10 x11 : Option PyData) : Sv.Env := [some (dr ns c), some (natD st), some (.int 60), some (.int 5), x4, x5, x6, x7, x8, x9, x10, x11]
def xg : PyData → PyData
  | .int i => .str (("x" : Str) ++ (toString i : Str))
  | _ => .none
theorem xg_all : (rngD 0 24).map xg = xsn.map .str := by
  have : rngD 0 24 = (List.range 24).map natD := by
    unfold rngD
    exact List.map_congr_left fun k _ => by show PyData.int (0 + (k : Int)) = _; simp
  rw [this]
  unfold xsn
  rw [List.map_map, List.map_map]
  rfl
theorem ev_xs (ns : List Int) (c st : Nat) (x4 x5 x6 x7 x8 x9 x10 x11 : Option PyData) : c__law_web_1 (D12 ns c st x4 x5 x6 x7 x8 x9 x10 x11) = some (.list (xsn.map .str), D12 ns c st x4 x5 x6 x7 x8 x9 x10 x11) := by
  have k := lcL_fn (vs := [8]) (Gg := nmG 8) (F := op2 catSP (cc (.str "x")) (bn strIP (aC (vr 8) aN))) (env := D12 ns c st x4 x5 x6 x7 none x9 x10 x11) xg (rngD 0 24) (fun d hd => by
    obtain ⟨i, hi, rfl⟩ := rngD_mem hd
    refine ⟨_, D12 ns c st x4 x5 x6 x7 (some (natD i)) x9 x10 x11, rfl, ?_, rfl⟩
    have l1 : (i : Int).natAbs.log2 < 1920 := by
      have : (i : Int).natAbs = i := rfl
      rw [this]
      exact Nat.lt_of_le_of_lt (Nat.log2_le_self i) (by omega)
    have l2 : (toString (i : Int) : Str).length ≤ 100 := by
      have : (List.range 24).all (fun (k : Nat) => decide ((toString (k : Int) : Str).length ≤ 100)) = true := by decide +kernel
      exact of_decide_eq_true (List.all_eq_true.mp this i (List.mem_range.mpr hi))
    have a1 : bn strIP (aC (vr 8) aN) (D12 ns c st x4 x5 x6 x7 (some (natD i)) x9 x10 x11) = some (.str (toString (i : Int) : Str), D12 ns c st x4 x5 x6 x7 (some (natD i)) x9 x10 x11) := by
      show (((if (i : Int).natAbs.log2 < 1920 then some (PyData.str (toString (i : Int) : Str)) else none).map _)) = _
      rw [if_pos l1]
      rfl
    have l3 : ("x" : Str).length = 1 := by decide +kernel
    refine op2_any (F := cc (.str "x")) rfl a1 ?_
    show (if ("x" : Str).length + (toString (i : Int) : Str).length ≤ 100000 then some (PyData.str (("x" : Str) ++ (toString (i : Int) : Str))) else none) = _
    rw [if_pos (by omega)]
    rfl)
  rw [xg_all] at k
  exact lcF_of (env1 := D12 ns c st x4 x5 x6 x7 x8 x9 x10 x11) rfl (by rw [rngD_length]; omega) k
/-- the names, filled up -/
theorem ev_fill (ns : List Int) (c st : Nat) {ss : List Str} (hs : Names ss) (x5 x6 x7 x8 x9 x10 : Option PyData) : ∃ rs : List Str, 24 ≤ rs.length ∧ (∀ s ∈ rs, SOk 100 s) ∧ t__law_web_14 (D12 ns c st (some (.list (ss.map .str))) x5 x6 x7 x8 x9 x10 none) = some (.nx (D12 ns c st (some (.list (rs.map .str))) x5 x6 x7 x8 x9 x10 none)) := by
  obtain ⟨p, hp⟩ : ∃ p : PyData → Bool, p = fun d => !inV (flV d) ((ss.map PyData.str).map flV) := ⟨_, rfl⟩
  have flat : (ss.map PyData.str).all (fun d => (fl d).isSome) = true := List.all_eq_true.mpr fun d hd => by
    obtain ⟨s, _, rfl⟩ := List.mem_map.mp hd
    rfl
  have k := lcL_map (vs := [11]) (Gg := nmG 11) (T := tbF (op2 (inP true) (vr 11) (vr 4))) (F := vr 11) (env := D12 ns c st (some (.list (ss.map .str))) x5 x6 x7 x8 x9 x10 none) p (fun d => d) (xsn.map .str) (fun d hd => by
    obtain ⟨s, hs, rfl⟩ := List.mem_map.mp hd
    refine ⟨_, D12 ns c st (some (.list (ss.map .str))) x5 x6 x7 x8 x9 x10 (some (.str s)), rfl, ?_, fun _ => rfl, fun _ => ⟨D12 ns c st (some (.list (ss.map .str))) x5 x6 x7 x8 x9 x10 (some (.str s)), rfl, rfl⟩⟩
    refine tb_at (op2_any (F := vr 11) (G := vr 4) (a := .str s) (b := .list (ss.map .str)) rfl rfl ?_)
    show (if (fl (.str s)).isSome = true ∧ (ss.map PyData.str).all (fun d => (fl d).isSome) = true then some (PyData.bool (if true then !inV (flV (.str s)) ((ss.map PyData.str).map flV) else _)) else none) = _
    rw [if_pos ⟨rfl, flat⟩, hp]
    rfl)
  have m : ((xsn.map PyData.str).filter p).map (fun d => d) = (xsn.filter fun s => p (.str s)).map .str := by
    rw [List.map_id', List.filter_map]
    rfl
  rw [m] at k
  have n1 := left_over (fun s => p (.str s)) xsn ss xsn_nodup fun x _ hx => by
    rw [hp] at hx
    have hx1 : (!inV (V.str x) ((ss.map PyData.str).map flV)) = false := hx
    rw [Bool.not_eq_false'] at hx1
    have hx2 : inV (V.str x) (ss.map V.str) = true := by
      have e : (ss.map PyData.str).map flV = ss.map V.str := by
        rw [List.map_map]
        rfl
      rw [← e]
      exact hx1
    exact inV_strs x ss hx2
  rw [xsn_len, hs.len] at n1
  have ok2 : ∀ s ∈ xsn.filter (fun s => p (.str s)), SOk 100 s := fun s h => xsn_ok s (List.mem_filter.mp h).1
  have le2 : (xsn.filter fun s => p (.str s)).length ≤ 24 := by
    have := List.length_filter_le (fun s => p (.str s)) xsn
    rw [xsn_len] at this
    exact this
  generalize (xsn.filter fun s => p (.str s)) = us at k n1 ok2 le2
  have l : c__law_web_2 (D12 ns c st (some (.list (ss.map .str))) x5 x6 x7 x8 x9 x10 none) = some (.list (us.map .str), D12 ns c st (some (.list (ss.map .str))) x5 x6 x7 x8 x9 x10 none) := by
    have rd : rdF c__law_web_1 (D12 ns c st (some (.list (ss.map .str))) x5 x6 x7 x8 x9 x10 none) = some (xsn.map .str, D12 ns c st (some (.list (ss.map .str))) x5 x6 x7 x8 x9 x10 none) := by
      unfold rdF
      rw [ev_xs]
      rfl
    exact lcF_of rd (by rw [List.length_map, xsn_len]; omega) k
  refine ⟨ss ++ us, by rw [List.length_append, hs.len]; omega, fun s h => ?_, ?_⟩
  · rcases List.mem_append.mp h with z | z
    · exact hs.ok s z
    · exact ok2 s z
  · have e : catG (.list (ss.map .str)) (.list (us.map .str)) = some ((ss ++ us).map .str) := by
      show (if (ss.map PyData.str).length + (us.map PyData.str).length ≤ 100000 then some (ss.map PyData.str ++ us.map PyData.str) else none) = _
      rw [if_pos (by simp [hs.len]; omega), List.map_append]
    exact set_at (op2f_any (F := vr 4) (a := .list (ss.map .str)) rfl l e rfl)
end K11

namespace Sv
open PySem PySem.Spec PyProof.Rows L2 Pre Dv
theorem app_at {i : Nat} {F : Fx} {e e1 : Env} {x : PyData} {ds : List PyData} (h : F e = some (x, e1)) (hl : e1[i]? = some (some (.list ds))) (hn : ds.length < 100000) : appF i F e = some (.nx (e1.set i (some (.list (ds ++ [x]))))) := by
  unfold appF
  rw [h, Option.bind_some]
  show (vr i e1).bind _ = _
  rw [vr_at hl, Option.bind_some]
  show (if ds.length < 100000 then _ else none) = _
  rw [if_pos hn]
end Sv
namespace K11
open PySem PySem.Spec PyProof.Rows L2 Pre Dv Sv
theorem shl_at (k : Nat) (hk : k ≤ 1000) : shlP (.int 1) (natD k) = some (natD (2 ^ k)) := by
  have h : (0 : Int) ≤ (k : Int) ∧ (k : Int) ≤ 1000000 ∧ (1 : Int).natAbs < 2 ^ 64 := ⟨by omega, by omega, by decide⟩
  show (if decide ((0 : Int) ≤ (k : Int) ∧ (k : Int) ≤ 1000000 ∧ (1 : Int).natAbs < 2 ^ 64) = true then some (PyData.int (1 * 2 ^ (k : Int).toNat)) else none) = _
  rw [if_pos (decide_eq_true h)]
  show some (PyData.int (1 * 2 ^ (k : Int).toNat)) = some (PyData.int ((2 ^ k : Nat) : Int))
  rw [pow_int, Int.one_mul, Int.toNat_natCast]
theorem div_at (q : Nat) (k : Int) (hk : 0 < k) (hk2 : k < 1000) : ∃ r : Nat, (r : Int) = (q : Int) / k ∧ Xq.divP (natD q) (.int k) = some (natD r) := by
  obtain ⟨j, rfl⟩ : ∃ j : Nat, k = (j : Int) := ⟨k.toNat, by omega⟩
  refine ⟨q / j, rfl, ?_⟩
  show (if decide ((0 : Int) < (j : Int) ∧ (j : Int) < 1267650600228229401496703205376) = true then some (PyData.int ((q : Int) / (j : Int))) else none) = _
  rw [if_pos (decide_eq_true ⟨hk, by omega⟩)]
  rfl
theorem mod_at (q k : Nat) (hk : 0 < k) : modP (natD q) (natD k) = some (natD (q % k)) := by
  show (if decide ((0 : Int) < (k : Int)) = true then some (PyData.int ((q : Int) % (k : Int))) else none) = _
  rw [if_pos (decide_eq_true (by omega))]
  rfl
theorem mul_at (q : Nat) : mulP (natD q) (.int 7919) = some (natD (q * 7919)) := by simp [ipc, gI_int]
theorem add1_at (q : Nat) : addP (.int 1) (natD q) = some (natD (1 + q)) := by
  show some (PyData.int (1 + (q : Int))) = some (PyData.int ((1 + q : Nat) : Int))
  rw [Int.natCast_add]
  rfl
theorem sub1_at (q : Nat) (h : 1 ≤ q) : subP (natD q) (.int 1) = some (natD (q - 1)) := by
  show some (PyData.int ((q : Int) - 1)) = some (PyData.int ((q - 1 : Nat) : Int))
  rw [Int.natCast_sub h]
  rfl
theorem eqm_at (q : Nat) (k r : Int) (hk : 0 < k) (e : Sv.Env) (h9 : e[9]? = some (some (natD q))) : tbF (op2 (eqP false) (op2 modP (vr 9) (cc (.int k))) (cc (.int r))) e = some (decide ((q : Int) % k = r), e) := by
  have m : modP (natD q) (.int k) = some (.int ((q : Int) % k)) := by
    show (if decide (0 < k) = true then some (PyData.int ((q : Int) % k)) else none) = _
    rw [if_pos (decide_eq_true hk)]
  exact tb_at (eqI_at (neg := false) (op2_any (G := cc (.int k)) (vr_at h9) rfl m) rfl)
/-- one list drawn -/
theorem ev_bits (ns : List Int) (k st : Nat) (hk : k < 100000) (x4 x5 x9 x10 : Option PyData) (sz i : Nat) (h1 : 1 ≤ sz) (h2 : sz ≤ 60) (ls : List Nat) (hl : ls.length < 1000) : ∃ b q : Nat, b < 2 ^ sz ∧ b__law_web_1 (D12 ns k st x4 x5 (some (natD sz)) (some (.list (ls.map natD))) (some (natD i)) x9 x10 none) =
    some (.nx (D12 ns (k + 1) st x4 x5 (some (natD sz)) (some (.list ((ls ++ [b]).map natD))) (some (natD i)) (some (natD q)) (some (natD b)) none)) := by
  obtain ⟨q, hq, s1⟩ := ev_nextM ns k hk [some (natD st), some (.int 60), some (.int 5), x4, x5, some (natD sz), some (.list (ls.map natD)), some (natD i), x9, x10, none]
  have pw : 2 ≤ 2 ^ sz := by
    have := Nat.pow_le_pow_right (show 0 < 2 by omega) h1
    omega
  have s2 : t__law_web_6 (D12 ns (k + 1) st x4 x5 (some (natD sz)) (some (.list (ls.map natD))) (some (natD i)) (some (natD q)) x10 none) = some (.nx (D12 ns (k + 1) st x4 x5 (some (natD sz)) (some (.list (ls.map natD))) (some (natD i)) (some (natD q)) (some (natD (2 ^ sz - 1))) none)) :=
    set_at (F := op2 subP (op2 shlP (cc (.int 1)) (vr 6)) (cc (.int 1))) (e1 := D12 ns (k + 1) st x4 x5 (some (natD sz)) (some (.list (ls.map natD))) (some (natD i)) (some (natD q)) x10 none) (op2_any (e2 := D12 ns (k + 1) st x4 x5 (some (natD sz)) (some (.list (ls.map natD))) (some (natD i)) (some (natD q)) x10 none) (G := cc (.int 1)) (op2_any (F := cc (.int 1)) (G := vr 6) (e2 := D12 ns (k + 1) st x4 x5 (some (natD sz)) (some (.list (ls.map natD))) (some (natD i)) (some (natD q)) x10 none) rfl rfl (shl_at sz (by omega))) rfl (sub1_at _ (by omega)))
  obtain ⟨b, hb, s3⟩ : ∃ b : Nat, b < 2 ^ sz ∧ t__law_web_10 (D12 ns (k + 1) st x4 x5 (some (natD sz)) (some (.list (ls.map natD))) (some (natD i)) (some (natD q)) (some (natD (2 ^ sz - 1))) none) = some (.nx (D12 ns (k + 1) st x4 x5 (some (natD sz)) (some (.list (ls.map natD))) (some (natD i)) (some (natD q)) (some (natD b)) none)) := by
    have t1 := eqm_at q 4 0 (by decide) (D12 ns (k + 1) st x4 x5 (some (natD sz)) (some (.list (ls.map natD))) (some (natD i)) (some (natD q)) (some (natD (2 ^ sz - 1))) none) rfl
    have t2 := eqm_at q 4 1 (by decide) (D12 ns (k + 1) st x4 x5 (some (natD sz)) (some (.list (ls.map natD))) (some (natD i)) (some (natD q)) (some (natD (2 ^ sz - 1))) none) rfl
    obtain ⟨r, _, d⟩ := div_at q 4 (by decide) (by decide)
    cases c1 : decide ((q : Int) % 4 = 0)
    · rw [c1] at t1
      cases c2 : decide ((q : Int) % 4 = 1)
      · rw [c2] at t2
        exact ⟨2 ^ sz - 1, by omega, iff_f t1 (iff_f t2 rfl)⟩
      · rw [c2] at t2
        have a1 : op2 addP (cc (.int 1)) (op2 modP (op2 mulP (op2 Xq.divP (vr 9) (cc (.int 4))) (cc (.int 7919))) (vr 10)) (D12 ns (k + 1) st x4 x5 (some (natD sz)) (some (.list (ls.map natD))) (some (natD i)) (some (natD q)) (some (natD (2 ^ sz - 1))) none) = some (natD (1 + r * 7919 % (2 ^ sz - 1)), (D12 ns (k + 1) st x4 x5 (some (natD sz)) (some (.list (ls.map natD))) (some (natD i)) (some (natD q)) (some (natD (2 ^ sz - 1))) none)) :=
          op2_any (F := cc (.int 1)) rfl (op2_any (G := vr 10) (op2_any (G := cc (.int 7919)) (op2_any (F := vr 9) (G := cc (.int 4)) rfl rfl d) rfl (mul_at r)) rfl (mod_at _ _ (by omega))) (add1_at _)
        refine ⟨1 + r * 7919 % (2 ^ sz - 1), ?_, iff_f t1 (iff_t t2 (set_at (F := op2 addP (cc (.int 1)) (op2 modP (op2 mulP (op2 Xq.divP (vr 9) (cc (.int 4))) (cc (.int 7919))) (vr 10))) (i := 10) (e1 := (D12 ns (k + 1) st x4 x5 (some (natD sz)) (some (.list (ls.map natD))) (some (natD i)) (some (natD q)) (some (natD (2 ^ sz - 1))) none)) a1))⟩
        have := Nat.mod_lt (r * 7919) (show 2 ^ sz - 1 > 0 by omega)
        omega
    · rw [c1] at t1
      have lt : r % sz < sz := Nat.mod_lt _ (by omega)
      have a1 : op2 shlP (cc (.int 1)) (op2 modP (op2 Xq.divP (vr 9) (cc (.int 4))) (vr 6)) (D12 ns (k + 1) st x4 x5 (some (natD sz)) (some (.list (ls.map natD))) (some (natD i)) (some (natD q)) (some (natD (2 ^ sz - 1))) none) = some (natD (2 ^ (r % sz)), (D12 ns (k + 1) st x4 x5 (some (natD sz)) (some (.list (ls.map natD))) (some (natD i)) (some (natD q)) (some (natD (2 ^ sz - 1))) none)) :=
        op2_any (F := cc (.int 1)) rfl (op2_any (G := vr 6) (op2_any (F := vr 9) (G := cc (.int 4)) rfl rfl d) rfl (mod_at _ _ (by omega))) (shl_at _ (by omega))
      exact ⟨2 ^ (r % sz), Nat.pow_lt_pow_right (by omega) lt, iff_t t1 (set_at (F := op2 shlP (cc (.int 1)) (op2 modP (op2 Xq.divP (vr 9) (cc (.int 4))) (vr 6))) (i := 10) (e1 := (D12 ns (k + 1) st x4 x5 (some (natD sz)) (some (.list (ls.map natD))) (some (natD i)) (some (natD q)) (some (natD (2 ^ sz - 1))) none)) a1)⟩
  obtain ⟨b2, hb2, s4⟩ : ∃ b2 : Nat, b2 < 2 ^ sz ∧ t__law_web_12 (D12 ns (k + 1) st x4 x5 (some (natD sz)) (some (.list (ls.map natD))) (some (natD i)) (some (natD q)) (some (natD b)) none) = some (.nx (D12 ns (k + 1) st x4 x5 (some (natD sz)) (some (.list (ls.map natD))) (some (natD i)) (some (natD q)) (some (natD b2)) none)) := by
    have t1 := eqm_at q 40 3 (by decide) (D12 ns (k + 1) st x4 x5 (some (natD sz)) (some (.list (ls.map natD))) (some (natD i)) (some (natD q)) (some (natD b)) none) rfl
    cases c1 : decide ((q : Int) % 40 = 3)
    · rw [c1] at t1
      exact ⟨b, hb, iff_f t1 rfl⟩
    · rw [c1] at t1
      exact ⟨0, by omega, iff_t t1 rfl⟩
  have s5 := app_at (i := 7) (F := vr 10) (e := D12 ns (k + 1) st x4 x5 (some (natD sz)) (some (.list (ls.map natD))) (some (natD i)) (some (natD q)) (some (natD b2)) none) rfl rfl (by rw [List.length_map]; omega)
  refine ⟨b2, q, hb2, ?_⟩
  rw [List.map_append]
  exact seq_nx (set_at s1) (seq_nx s2 (seq_nx s3 (seq_nx s4 s5)))
end K11

namespace Sv
open PySem PySem.Spec PyProof.Rows L2 Pre Dv
theorem aC_at {F : Fx} {L : Fa} {e e1 e2 : Env} {d : PyData} {ds : List PyData} (h : F e = some (d, e1)) (k : L e1 = some (ds, e2)) : aC F L e = some (d :: ds, e2) := by simp [aC, h, k]
end Sv
namespace K11
open PySem PySem.Spec PyProof.Rows L2 Pre Dv Sv
theorem rg_at {i n : Nat} {e : Sv.Env} (h : e[i]? = some (some (natD n))) (hn : n ≤ 1000) : rg1 (vr i) e = some (rngD 0 n, e) := by
  unfold rg1
  rw [vr_at h, Option.bind_some]
  show (if -1000000 ≤ (n : Int) ∧ (n : Int) ≤ 1000000 then some (rngD 0 (n : Int).toNat, e) else none) = _
  rw [if_pos (by omega)]
  rfl
/-- what one thing of a draw is: 1 + n % k -/
theorem one_mod {F G : Fx} {e e1 : Sv.Env} {q k : Nat} (h : F e = some (natD q, e1)) (hG : G e1 = some (natD k, e1)) (hk : 0 < k) : op2 addP (cc (.int 1)) (op2 modP F G) e = some (natD (1 + q % k), e1) :=
  op2_any (F := cc (.int 1)) rfl (op2_any h hG (mod_at q k hk)) (add1_at _)
theorem ev_web (ns : List Int) (st : Nat) (h1 : 1 ≤ st) (h2 : st ≤ 24) (c : Nat) (hc : c ≤ 80000) : ∃ (w : Web) (c2 : Nat), w.Ok ∧ c2 ≤ c + 700 ∧ g__law_web [dr ns c, natD st, .int 60, .int 5] = some (webD w, [dr ns c2, natD st, .int 60, .int 5]) := by
  obtain ⟨q1, _, d1⟩ := ev_nextM ns c (by omega) [some (natD st), some (.int 60), some (.int 5), none, none, none, none, none, none, none, none]
  obtain ⟨ss, hs, hn⟩ := ev_names q1
  have s1 : t__law_web_1 (Sv.envOf n__law_web [dr ns c, natD st, .int 60, .int 5]) = some (.nx (D12 ns (c + 1) st (some (.list (ss.map .str))) none none none none none none none)) :=
    set_at (F := callF g__law_names (aC (callM g__law_next [some 0] (aM 0 aN)) aN)) (i := 4) (e1 := D12 ns (c + 1) st none none none none none none none none) (callF_one d1 hn)
  obtain ⟨q2, _, d2⟩ := ev_nextM ns (c + 1) (by omega) [some (natD st), some (.int 60), some (.int 5), some (.list (ss.map .str)), none, none, none, none, none, none, none]
  obtain ⟨n, hn1, hn2, en⟩ : ∃ n : Nat, 1 ≤ n ∧ n ≤ 24 ∧ n = 1 + q2 % st := ⟨_, by omega, by have := Nat.mod_lt q2 (show st > 0 by omega); omega, rfl⟩
  have s2 : t__law_web_2 (D12 ns (c + 1) st (some (.list (ss.map .str))) none none none none none none none) = some (.nx (D12 ns (c + 2) st (some (.list (ss.map .str))) (some (natD n)) none none none none none none)) := by
    have a := one_mod (G := vr 1) d2 rfl (show 0 < st by omega)
    rw [← en] at a
    exact set_at (F := op2 addP (cc (.int 1)) (op2 modP (callM g__law_next [some 0] (aM 0 aN)) (vr 1))) (i := 5) (e1 := D12 ns (c + 2) st (some (.list (ss.map .str))) none none none none none none none) a
  obtain ⟨q3, _, d3⟩ := ev_nextM ns (c + 2) (by omega) [some (natD st), some (.int 60), some (.int 5), some (.list (ss.map .str)), some (natD n), none, none, none, none, none, none]
  obtain ⟨sz, hz1, hz2, ez⟩ : ∃ n : Nat, 1 ≤ n ∧ n ≤ 60 ∧ n = 1 + q3 % 60 := ⟨_, by omega, by have := Nat.mod_lt q3 (show 60 > 0 by omega); omega, rfl⟩
  have s3 : t__law_web_3 (D12 ns (c + 2) st (some (.list (ss.map .str))) (some (natD n)) none none none none none none) = some (.nx (D12 ns (c + 3) st (some (.list (ss.map .str))) (some (natD n)) (some (natD sz)) none none none none none)) := by
    have a := one_mod (G := vr 2) (k := 60) d3 rfl (by omega)
    rw [← ez] at a
    exact set_at (F := op2 addP (cc (.int 1)) (op2 modP (callM g__law_next [some 0] (aM 0 aN)) (vr 2))) (i := 6) (e1 := D12 ns (c + 3) st (some (.list (ss.map .str))) (some (natD n)) none none none none none none) a
  have s4 : t__law_web_4 (D12 ns (c + 3) st (some (.list (ss.map .str))) (some (natD n)) (some (natD sz)) none none none none none) = some (.nx (D12 ns (c + 3) st (some (.list (ss.map .str))) (some (natD n)) (some (natD sz)) (some (.list (([] : List Nat).map natD))) none none none none)) := rfl
  obtain ⟨e5, s5, ls, x8, x9, x10, hl1, hl2, rfl⟩ := loop_one (Gg := nmG 8) (s := b__law_web_1) (fun (k : Nat) e => ∃ (ls : List Nat) (x8 x9 x10 : Option PyData), k = c + 3 + ls.length ∧ (∀ l ∈ ls, l < 2 ^ sz) ∧ e = D12 ns k st (some (.list (ss.map .str))) (some (natD n)) (some (natD sz)) (some (.list (ls.map natD))) x8 x9 x10 none) (c + 30) (rngD 0 n) (c + 3) (D12 ns (c + 3) st (some (.list (ss.map .str))) (some (natD n)) (some (natD sz)) (some (.list (([] : List Nat).map natD))) none none none none) ⟨[], none, none, none, rfl, (fun l z => by cases z), rfl⟩ (by rw [rngD_length]; omega) (fun d hd k e hk kb => by
    obtain ⟨i, hi, rfl⟩ := rngD_mem hd
    obtain ⟨ls, x8, x9, x10, a1, a2, rfl⟩ := hk
    obtain ⟨b, q, b1, b2⟩ := ev_bits ns k st (by omega) (some (.list (ss.map .str))) (some (natD n)) x9 x10 sz i hz1 hz2 ls (by omega)
    refine ⟨_, _, rfl, b2, ls ++ [b], some (natD i), some (natD q), some (natD b), by rw [List.length_append]; simp; omega, fun l hl => ?_, rfl⟩
    rcases List.mem_append.mp hl with z | z
    · exact a2 l z
    · rw [List.mem_singleton.mp z]; exact b1)
  rw [rngD_length] at hl1
  have hll : ls.length = n := by omega
  have s5' : l__law_web_1 (D12 ns (c + 3) st (some (.list (ss.map .str))) (some (natD n)) (some (natD sz)) (some (.list (([] : List Nat).map natD))) none none none none) = some (.nx (D12 ns (c + 3 + (rngD 0 n).length) st (some (.list (ss.map .str))) (some (natD n)) (some (natD sz)) (some (.list (ls.map natD))) x8 x9 x10 none)) := by
    have rg : rg1 (vr 5) (D12 ns (c + 3) st (some (.list (ss.map .str))) (some (natD n)) (some (natD sz)) (some (.list (([] : List Nat).map natD))) none none none none) = some (rngD 0 n, D12 ns (c + 3) st (some (.list (ss.map .str))) (some (natD n)) (some (natD sz)) (some (.list (([] : List Nat).map natD))) none none none none) := rg_at rfl (by omega)
    unfold l__law_web_1 forF
    rw [rg]
    exact s5
  rw [rngD_length] at s5'
  obtain ⟨rs, r1, r2, s6⟩ := ev_fill ns (c + 3 + n) st hs (some (natD n)) (some (natD sz)) (some (.list (ls.map natD))) x8 x9 x10
  obtain ⟨t, c2, g, hc2, gp⟩ := ev_gaps ns n hn2 (c + 3 + n) (by omega)
  refine ⟨⟨rs.take n, sz, t, ls⟩, c2, ?_, by omega, ?_⟩
  · have ln : (rs.take n).length = n := by rw [List.length_take]; omega
    refine ⟨by show 1 ≤ (rs.take n).length; omega, by show (rs.take n).length ≤ 24; omega, hz1, hz2, ?_, ?_, g.le, ?_, hl2, ?_⟩
    · show t.length = (rs.take n).length
      rw [ln]; exact g.len
    · show ∀ r ∈ t, r.length = (rs.take n).length
      rw [ln]; exact g.row
    · show ls.length = (rs.take n).length
      rw [ln]; exact hll
    · exact fun s h => r2 s (List.mem_of_mem_take h)
  · have s7 : t__law_web_15 (D12 ns (c + 3 + n) st (some (.list (rs.map .str))) (some (natD n)) (some (natD sz)) (some (.list (ls.map natD))) x8 x9 x10 none) = some (.rt (webD ⟨rs.take n, sz, t, ls⟩) (D12 ns c2 st (some (.list (rs.map .str))) (some (natD n)) (some (natD sz)) (some (.list (ls.map natD))) x8 x9 x10 none)) := by
      have b1 : slLF [] (vr 4) oN (oS (vr 5)) (D12 ns (c + 3 + n) st (some (.list (rs.map .str))) (some (natD n)) (some (natD sz)) (some (.list (ls.map natD))) x8 x9 x10 none) = some (.list ((rs.take n).map .str), D12 ns (c + 3 + n) st (some (.list (rs.map .str))) (some (natD n)) (some (natD sz)) (some (.list (ls.map natD))) x8 x9 x10 none) := by
        have e : Dv.cutD (rs.map PyData.str) none (some (n : Int)) = (rs.take n).map .str := by
          rw [cut_to (by rw [List.length_map]; omega), List.map_take]
        show some (PyData.list (Dv.cutD (rs.map PyData.str) none (some (n : Int))), _) = _
        rw [e]
      have b2 : callM g__law_gaps [some 0, none, none] (aM 0 (aC (vr 5) (aC (vr 3) aN))) (D12 ns (c + 3 + n) st (some (.list (rs.map .str))) (some (natD n)) (some (natD sz)) (some (.list (ls.map natD))) x8 x9 x10 none) = some (.tuple (t.map rowD), D12 ns c2 st (some (.list (rs.map .str))) (some (natD n)) (some (natD sz)) (some (.list (ls.map natD))) x8 x9 x10 none) := by
        show (g__law_gaps [dr ns (c + 3 + n), natD n, .int 5]).map _ = _
        rw [gp]
        rfl
      refine ret_at ?_
      have b3 : aC (bn tupP (aC (slLF [] (vr 4) oN (oS (vr 5))) aN)) (aC (vr 6) (aC (callM g__law_gaps [some 0, none, none] (aM 0 (aC (vr 5) (aC (vr 3) aN)))) (aC (bn tupP (aC (vr 7) aN)) aN))) (D12 ns (c + 3 + n) st (some (.list (rs.map .str))) (some (natD n)) (some (natD sz)) (some (.list (ls.map natD))) x8 x9 x10 none) = some (webL ⟨rs.take n, sz, t, ls⟩, D12 ns c2 st (some (.list (rs.map .str))) (some (natD n)) (some (natD sz)) (some (.list (ls.map natD))) x8 x9 x10 none) := by
        have a1 : bn tupP (aC (slLF [] (vr 4) oN (oS (vr 5))) aN) (D12 ns (c + 3 + n) st (some (.list (rs.map .str))) (some (natD n)) (some (natD sz)) (some (.list (ls.map natD))) x8 x9 x10 none) = some (.tuple ((rs.take n).map .str), D12 ns (c + 3 + n) st (some (.list (rs.map .str))) (some (natD n)) (some (natD sz)) (some (.list (ls.map natD))) x8 x9 x10 none) := by
          unfold bn aC aN
          rw [b1]
          rfl
        exact aC_at a1 (aC_at (F := vr 6) rfl (aC_at b2 (aC_at (F := bn tupP (aC (vr 7) aN)) rfl rfl)))
      unfold tupF
      rw [b3]
      rfl
    have all : f__law_web (Sv.envOf n__law_web [dr ns c, natD st, .int 60, .int 5]) = some (.rt (webD ⟨rs.take n, sz, t, ls⟩) (D12 ns c2 st (some (.list (rs.map .str))) (some (natD n)) (some (natD sz)) (some (.list (ls.map natD))) x8 x9 x10 none)) := seq_nx s1 (seq_nx s2 (seq_nx s3 (seq_nx s4 (seq_nx s5' (seq_nx s6 s7)))))
    unfold g__law_web gDef
    rw [if_pos (show [dr ns c, natD st, PyData.int 60, PyData.int 5].length = 4 from rfl), all]
    rfl
end K11

namespace Sv
open PySem PySem.Spec PyProof.Rows L2 Pre Dv
/-- a loop told by the place that it came to -/
theorem loop_at {Gg : Fg} {s : Fs} (P : Nat → Env → Prop) : ∀ (ds : List PyData) (k : Nat) (e : Env), P k e → (∀ j d, ds[j]? = some d → ∀ e, P (k + j) e → ∃ e1 e2, Gg d e = some e1 ∧ s e1 = some (.nx e2) ∧ P (k + j + 1) e2) →
    ∃ e2, loopF Gg s ds e = some (.nx e2) ∧ P (k + ds.length) e2
  | [], k, e, h, _ => ⟨e, rfl, h⟩
  | d :: ds, k, e, h, hs => by
    obtain ⟨e1, e2, h1, h2, h3⟩ := hs 0 d rfl e h
    obtain ⟨e3, h5, h7⟩ := loop_at P ds (k + 1) e2 h3 fun j x hx e he => by
      have := hs (j + 1) x (by simpa using hx) e (by rw [show k + (j + 1) = k + 1 + j by omega]; exact he)
      rw [show k + (j + 1) + 1 = k + 1 + j + 1 by omega] at this
      exact this
    refine ⟨e3, ?_, by rw [List.length_cons, show k + (ds.length + 1) = k + 1 + ds.length by omega]; exact h7⟩
    unfold loopF
    rw [h1, Option.bind_some, h2]
    exact h5
theorem itm_at {F : Fx} {b i l : Nat} {e e1 : Env} {x : PyData} {ds : List PyData} (h : F e = some (x, e1)) (hb : e1[b]? = some (some (.int (i : Int)))) (hl : e1[l]? = some (some (.list ds))) (hi : i < ds.length) :
    itmF l F (vr b) e = some (.nx (e1.set l (some (.list (ds.set i x))))) := by
  unfold itmF
  rw [h, Option.bind_some]
  show (vr b e1).bind _ = _
  rw [vr_at hb, Option.bind_some]
  show (vr l e1).bind _ = _
  rw [vr_at hl, Option.bind_some]
  show (ixN ds.length (i : Int)).map _ = _
  rw [ixN_of hi]
  rfl
theorem or_t {T U : Ft} {e e1 : Env} (h : T e = some (true, e1)) : orF T U e = some (true, e1) := by simp [orF, h]
theorem or_f {T U : Ft} {e e1 : Env} {o : Option (Bool × Env)} (h : T e = some (false, e1)) (k : U e1 = o) : orF T U e = o := by
  rw [← k]
  simp [orF, h]
theorem rngD_nat (n : Nat) : rngD 0 n = (List.range n).map fun (k : Nat) => PyData.int (k : Int) := by
  unfold rngD
  exact List.map_congr_left fun k _ => by show PyData.int (0 + (k : Int)) = _; simp
end Sv
namespace K11
open PySem PySem.Spec PyProof.Rows L2 Pre Dv Sv
abbrev D6 (ns : List Int) (c : Nat) (w : Web) (gs : List (Option Nat)) (x3 x4 x5 : Option PyData) : Sv.Env := [some (dr ns c), some (webD w), some (.list (gs.map optD)), x3, x4, x5]
theorem noLs_nats (js : List Nat) : noL.noLs (js.map natD) = true := by
  induction js with
  | nil => rfl
  | cons j r ih =>
    show (true && noL.noLs (r.map natD)) = true
    rw [ih]
    rfl
theorem eqn_at (s q : Nat) (k r : Int) (hk : 0 < k) (e : Sv.Env) (h9 : e[s]? = some (some (natD q))) : tbF (op2 (eqP false) (op2 modP (vr s) (cc (.int k))) (cc (.int r))) e = some (decide ((q : Int) % k = r), e) := by
  have m : modP (natD q) (.int k) = some (.int ((q : Int) % k)) := by
    show (if decide (0 < k) = true then some (PyData.int ((q : Int) % k)) else none) = _
    rw [if_pos (decide_eq_true hk)]
  exact tb_at (eqI_at (neg := false) (op2_any (G := cc (.int k)) (vr_at h9) rfl m) rfl)
theorem eqL_at {F : Fx} (L : List Nat) (e e1 : Sv.Env) (h : F e = some (.list (L.map natD), e1)) : tbF (op2 (eqDP false) F (lsF [] aN)) e = some (L.isEmpty, e1) := by
  refine tb_at (op2_any h (G := lsF [] aN) (b := .list []) rfl ?_)
  show (if SeqAt.shaped (asL (.list (L.map natD))) = true ∧ SeqAt.shaped (asL (.list [])) = true then some (PyData.bool (if false then _ else PyData.eqv (asL (.list (L.map natD))) (asL (.list [])))) else none) = _
  rw [asL_list, asL_list, if_pos ⟨shaped_nats L, shaped_nil⟩, eqv_nats]
  rfl
/-- one tune drawn -/
theorem ev_tune {w : Web} (h : w.Ok) (ns : List Int) (c : Nat) (hc : c < 100000) {gs : List (Option Nat)} (hg : GOk w gs) {i : Nat} (hi : i < w.names.length) (x4 x5 : Option PyData) : ∃ (t : Nat) (y4 y5 : Option PyData), t < w.m ∧ b__law_plan_1 (D6 ns c w gs (some (natD i)) x4 x5) = some (.nx (D6 ns (c + 1) w (gs.set i (some t)) (some (natD i)) y4 y5)) := by
  obtain ⟨q, hq, d⟩ := ev_nextM ns c hc [some (webD w), some (.list (gs.map optD)), some (natD i), x4, x5]
  have m1 := h.m1
  have m2 := h.m2
  have left := ev_law_left h hg hi (D := .list (gs.map optD)) (k := true) rfl w.m (Nat.le_refl _)
  obtain ⟨L, hL⟩ : ∃ L, L = leftL w gs i w.m := ⟨_, rfl⟩
  have lt : ∀ t ∈ L, t < w.m := fun t ht => by
    rw [hL] at ht
    exact List.mem_range.mp (List.mem_filter.mp ht).1
  rw [← hL] at left
  have s2 : t__law_plan_3 (D6 ns (c + 1) w gs (some (natD i)) (some (natD q)) x5) = some (.nx (D6 ns (c + 1) w gs (some (natD i)) (some (natD q)) (some (.list (L.map natD))))) := by
    have a : aC (vr 1) (aC (vr 2) (aC (vr 3) (aC (op2 ixTP (vr 1) (cc (.int 1))) aN))) (D6 ns (c + 1) w gs (some (natD i)) (some (natD q)) x5) = some ([webD w, .list (gs.map optD), natD i, natD w.m], D6 ns (c + 1) w gs (some (natD i)) (some (natD q)) x5) := rfl
    have b : Xq.callFS g__law_left (aC (vr 1) (aC (vr 2) (aC (vr 3) (aC (op2 ixTP (vr 1) (cc (.int 1))) aN)))) (D6 ns (c + 1) w gs (some (natD i)) (some (natD q)) x5) = some (.list (L.map natD), D6 ns (c + 1) w gs (some (natD i)) (some (natD q)) x5) := by
      unfold Xq.callFS
      rw [a, Option.bind_some, left, Option.bind_some]
      show (if noL.noLs (L.map natD) = true then _ else none) = _
      rw [if_pos (noLs_nats L)]
    exact set_at b
  obtain ⟨L2, hp, lt2, s3⟩ : ∃ L2 : List Nat, 0 < L2.length ∧ (∀ t ∈ L2, t < w.m) ∧ t__law_plan_5 (D6 ns (c + 1) w gs (some (natD i)) (some (natD q)) (some (.list (L.map natD)))) = some (.nx (D6 ns (c + 1) w gs (some (natD i)) (some (natD q)) (some (.list (L2.map natD))))) := by
    have full : t__law_plan_4 (D6 ns (c + 1) w gs (some (natD i)) (some (natD q)) (some (.list (L.map natD)))) = some (.nx (D6 ns (c + 1) w gs (some (natD i)) (some (natD q)) (some (.list ((List.range w.m).map natD))))) := by
      refine set_at (F := Xq.lrF (op2 ixTP (vr 1) (cc (.int 1)))) (i := 5) (e1 := D6 ns (c + 1) w gs (some (natD i)) (some (natD q)) (some (.list (L.map natD)))) ?_
      show (if -1000000 ≤ (w.m : Int) ∧ (w.m : Int) ≤ 100000 then some (PyData.list (rngD 0 (w.m : Int).toNat), _) else none) = _
      rw [if_pos (by omega), Int.toNat_natCast, rngD_nat]
    have t1 := eqL_at (F := vr 5) L (D6 ns (c + 1) w gs (some (natD i)) (some (natD q)) (some (.list (L.map natD)))) _ rfl
    have t2 := eqn_at 4 q 9 0 (by decide) (D6 ns (c + 1) w gs (some (natD i)) (some (natD q)) (some (.list (L.map natD)))) rfl
    cases c1 : L.isEmpty
    · rw [c1] at t1
      cases c2 : decide ((q : Int) % 9 = 0)
      · rw [c2] at t2
        refine ⟨L, ?_, lt, iff_f (or_f t1 t2) rfl⟩
        cases L with
        | nil => cases c1
        | cons a r => simp
      · rw [c2] at t2
        exact ⟨List.range w.m, by simp; omega, fun t ht => List.mem_range.mp ht, iff_t (or_f t1 t2) full⟩
    · rw [c1] at t1
      exact ⟨List.range w.m, by simp; omega, fun t ht => List.mem_range.mp ht, iff_t (or_t t1) full⟩
  obtain ⟨r, _, d9⟩ := div_at q 9 (by decide) (by decide)
  have rl : r % L2.length < L2.length := Nat.mod_lt _ hp
  have ht : L2[r % L2.length]? = some (L2[r % L2.length]) := List.getElem?_eq_getElem rl
  generalize L2[r % L2.length] = t at ht
  have s4 : t__law_plan_6 (D6 ns (c + 1) w gs (some (natD i)) (some (natD q)) (some (.list (L2.map natD)))) = some (.nx (D6 ns (c + 1) w (gs.set i (some t)) (some (natD i)) (some (natD q)) (some (.list (L2.map natD))))) := by
    have ln : bn lenP (aC (vr 5) aN) (D6 ns (c + 1) w gs (some (natD i)) (some (natD q)) (some (.list (L2.map natD)))) = some (natD L2.length, D6 ns (c + 1) w gs (some (natD i)) (some (natD q)) (some (.list (L2.map natD)))) := by
      show some (PyData.int ((L2.map natD).length : Nat), _) = _
      rw [List.length_map]
    have a : op2 ixLP (vr 5) (op2 modP (op2 Xq.divP (vr 4) (cc (.int 9))) (bn lenP (aC (vr 5) aN))) (D6 ns (c + 1) w gs (some (natD i)) (some (natD q)) (some (.list (L2.map natD)))) = some (natD t, D6 ns (c + 1) w gs (some (natD i)) (some (natD q)) (some (.list (L2.map natD)))) := by
      refine op2_any (F := vr 5) rfl (op2_any (op2_any (F := vr 4) (G := cc (.int 9)) rfl rfl d9) ln (mod_at r _ hp)) ?_
      show atI (L2.map natD) ((r % L2.length : Nat) : Int) = _
      exact atI_of (by rw [List.getElem?_map, ht]; rfl)
    have b := itm_at (b := 3) (i := i) (l := 2) (ds := gs.map optD) a rfl rfl (by rw [List.length_map, hg.len]; exact hi)
    have e : (gs.map optD).set i (natD t) = (gs.set i (some t)).map optD := by
      rw [List.map_set]
      rfl
    rw [e] at b
    exact b
  exact ⟨t, _, _, lt2 t (List.mem_of_getElem? ht), seq_nx (set_at d) (seq_nx s2 (seq_nx s3 s4))⟩
end K11

namespace K11
open PySem PySem.Spec PyProof.Rows L2 Pre Dv Sv
/-- the plan that is drawn -/
theorem ev_plan {w : Web} (h : w.Ok) (ns : List Int) (c : Nat) (hc : c ≤ 90000) : ∃ (p : List Nat) (c2 : Nat), POk w p ∧ c2 ≤ c + 24 ∧ g__law_plan [dr ns c, webD w] = some (rowD p, [dr ns c2, webD w]) := by
  have n1 := h.n1
  have n2 := h.n2
  obtain ⟨n, hn⟩ : ∃ n, n = w.names.length := ⟨_, rfl⟩
  have s1 : t__law_plan_1 (Sv.envOf n__law_plan [dr ns c, webD w]) = some (.nx (D6 ns c w (List.replicate n none) none none none)) := by
    have rp : repG (.list [.none]) (natD n) = some ((List.replicate n none).map optD) := by
      show (if (-1000000 ≤ (n : Int) ∧ (n : Int) ≤ 1000000) ∧ [PyData.none].length * (n : Int).toNat ≤ 100000 then some (List.replicate (n : Int).toNat [PyData.none]).flatten else none) = _
      rw [if_pos ⟨by omega, by simp; omega⟩, flat_rep, List.map_replicate]
      rfl
    have ln : bn lenP (aC (op2 ixTP (vr 1) (cc (.int 0))) aN) (Sv.envOf n__law_plan [dr ns c, webD w]) = some (natD n, Sv.envOf n__law_plan [dr ns c, webD w]) := by
      show some (PyData.int ((w.names.map PyData.str).length : Nat), _) = _
      rw [len_names, hn]
    have a := op2f_any (S := []) (pp := repG) (F := lsF [] (aC (cc .none) aN)) (a := .list [.none]) (e := Sv.envOf n__law_plan [dr ns c, webD w]) (e1 := Sv.envOf n__law_plan [dr ns c, webD w]) rfl ln rp rfl
    unfold t__law_plan_1 ownF
    rw [a]
    rfl
  obtain ⟨e2, s2, ts, x3, x4, x5, t1, t2, rfl⟩ := loop_at (Gg := nmG 3) (s := b__law_plan_1) (fun i e => ∃ (ts : List Nat) (x3 x4 x5 : Option PyData), ts.length = i ∧ (∀ t ∈ ts, t < w.m) ∧ e = D6 ns (c + i) w (ts.map some ++ List.replicate (n - i) none) x3 x4 x5) (rngD 0 n) 0 (D6 ns c w (List.replicate n none) none none none) ⟨[], none, none, none, rfl, (fun t z => by cases z), rfl⟩ (fun j d hd e he => by
    obtain ⟨hj, rfl⟩ := rngD_at hd
    obtain ⟨ts, x3, x4, x5, t1, t2, rfl⟩ := he
    rw [Nat.zero_add] at t1 ⊢
    have hg : GOk w (ts.map some ++ List.replicate (n - j) none) := ⟨by rw [List.length_append, List.length_map, List.length_replicate]; omega, fun t ht => by
      rcases List.mem_append.mp ht with z | z
      · obtain ⟨u, hu, e⟩ := List.mem_map.mp z
        cases e
        exact t2 _ hu
      · exact nomatch List.eq_of_mem_replicate z⟩
    obtain ⟨t, y4, y5, lt, st⟩ := ev_tune h ns (c + j) (by omega) hg (i := j) (by omega) x4 x5
    refine ⟨_, _, rfl, st, ts ++ [t], some (natD j), y4, y5, by simp [t1], fun u hu => ?_, ?_⟩
    · rcases List.mem_append.mp hu with z | z
      · exact t2 u z
      · rw [List.mem_singleton.mp z]; exact lt
    · have e : (ts.map some ++ List.replicate (n - j) none).set j (some t) = (ts ++ [t]).map some ++ List.replicate (n - (j + 1)) none := by
        have e2 : List.replicate (n - j) (none : Option Nat) = none :: List.replicate (n - (j + 1)) none := by
          rw [show n - j = n - (j + 1) + 1 by omega, List.replicate_succ]
        rw [e2, List.set_append_right _ _ (by rw [List.length_map]; omega), List.length_map, t1, Nat.sub_self, List.set_cons_zero, List.map_append, List.append_assoc]
        rfl
      rw [e]
      rfl)
  rw [rngD_length] at t1 s2
  rw [Nat.zero_add] at t1 s2
  rw [Nat.sub_self, List.replicate_zero, List.append_nil] at s2
  have s2' : l__law_plan_1 (D6 ns c w (List.replicate n none) none none none) = some (.nx (D6 ns (c + n) w (ts.map some) x3 x4 x5)) := by
    have rg : rg1 (flF (bn lenP (aC (vr 2) aN))) (D6 ns c w (List.replicate n none) none none none) = some (rngD 0 n, D6 ns c w (List.replicate n none) none none none) := by
      have : rg1 (flF (bn lenP (aC (vr 2) aN))) (D6 ns c w (List.replicate n none) none none none) = if -1000000 ≤ ((((List.replicate n none).map optD).length : Nat) : Int) ∧ ((((List.replicate n none).map optD).length : Nat) : Int) ≤ 1000000 then some (rngD 0 ((((List.replicate n none).map optD).length : Nat) : Int).toNat, D6 ns c w (List.replicate n none) none none none) else none := rfl
      rw [this, List.length_map, List.length_replicate, if_pos (by omega), Int.toNat_natCast]
    unfold l__law_plan_1 forF
    rw [rg]
    exact s2
  have e : (ts.map some).map optD = ts.map natD := by
    rw [List.map_map]
    rfl
  have s3 : t__law_plan_7 (D6 ns (c + n) w (ts.map some) x3 x4 x5) = some (.rt (rowD ts) (D6 ns (c + n) w (ts.map some) x3 x4 x5)) := by
    refine ret_at (F := bn tupP (aC (vr 2) aN)) ?_
    show some (PyData.tuple ((ts.map some).map optD), _) = _
    rw [e]
    rfl
  refine ⟨ts, c + n, ⟨by omega, t2⟩, by omega, ?_⟩
  have all : f__law_plan (Sv.envOf n__law_plan [dr ns c, webD w]) = some (.rt (rowD ts) (D6 ns (c + n) w (ts.map some) x3 x4 x5)) := seq_nx s1 (seq_nx s2' s3)
  unfold g__law_plan gDef
  rw [if_pos (show [dr ns c, webD w].length = 2 from rfl), all]
  rfl
end K11

namespace K11
open PySem PySem.Spec PyProof.Rows L2 Pre Dv Sv
section
variable {w : Web} {p : List Nat}
theorem strOk_of {s : Str} (h : ∀ c ∈ s.cps.toList, c < 1114112) : PyData.strOk s = true := by
  unfold PyData.strOk
  rw [← Array.all_toList]
  exact List.all_eq_true.mpr fun c hc => decide_eq_true (h c hc)
theorem fine_nat (k : Nat) (h : k < 18446744073709551616) : fine (natD k) = true := by
  show decide ((k : Int).natAbs < 18446744073709551616) = true
  exact decide_eq_true (by omega)
/-- the web is shown -/
theorem show_web (h : w.Ok) : Gd.showP [webD w] = some (.str (webD w).shown) := by
  have n2 := h.n2
  have m2 := h.m2
  have pw : 2 ^ w.m ≤ 2 ^ 60 := Nat.pow_le_pow_right (by omega) m2
  have f1 : fine.fines (w.names.map .str) = true := fines_map fun s hs => strOk_of (h.s1 s hs).2
  have f3 : fine.fines (w.gaps.map rowD) = true := fines_map fun r hr => fines_map (f := natD) fun g hg => fine_nat g (by have := h.g3 r hr g hg; omega)
  have f4 : fine.fines (w.lists.map natD) = true := fines_map fun l hl => fine_nat l (by have := h.l2 l hl; omega)
  have w1 : wid.wids (w.names.map .str) ≤ 24 * 1004 := Nat.le_trans (wids_map (f := PyData.str) (b := 1002) fun s hs => by
    have := (h.s1 s hs).1
    show 10 * s.length + 2 ≤ 1002
    omega) (Nat.mul_le_mul_right _ n2)
  have wr : ∀ r ∈ w.gaps, wid (rowD r) ≤ 1731 := fun r hr => by
    have := wids_map (f := natD) (l := r) (b := 70) fun g _ => Nat.le_refl _
    rw [h.g2 r hr] at this
    show wid.wids (r.map natD) + 3 ≤ 1731
    omega
  have w3 : wid.wids (w.gaps.map rowD) ≤ 24 * 1733 := Nat.le_trans (wids_map wr) (Nat.mul_le_mul_right _ (by rw [h.g1]; exact n2))
  have w4 : wid.wids (w.lists.map natD) ≤ 24 * 72 := Nat.le_trans (wids_map (f := natD) (b := 70) fun g _ => Nat.le_refl _) (Nat.mul_le_mul_right _ (by rw [h.l1]; exact n2))
  have d1 : PyData.depthAll (w.names.map .str) ≤ 0 := depths_map fun o _ => Nat.le_refl _
  have d3 : PyData.depthAll (w.gaps.map rowD) ≤ 1 := depths_map fun r _ => by
    have : PyData.depthAll (r.map natD) ≤ 0 := depths_map fun o _ => Nat.le_refl _
    show PyData.depthAll (r.map natD) + 1 ≤ 1
    omega
  have d4 : PyData.depthAll (w.lists.map natD) ≤ 0 := depths_map fun o _ => Nat.le_refl _
  refine showP_ok ?_ rfl ?_ ?_
  · show (fine.fines (w.names.map .str) && (fine (.int (w.m : Int)) && (fine.fines (w.gaps.map rowD) && (fine.fines (w.lists.map natD) && true)))) = true
    rw [f1, f3, f4, fine_nat w.m (by omega)]
    rfl
  · simp only [webD, PyData.depth, PyData.depthAll]
    omega
  · simp only [webD, wid, wid.wids]
    omega
/-- what fails first is shown -/
theorem show_fault (h : w.Ok) : ∃ s, Xq.showAP [faultD w p] = some (.str s) := by
  have n2 := h.n2
  have at_ : ∀ i, i < w.names.length → ∃ s, Xq.showAP [faultAt w p i] = some (.str s) := fun i hi => by
    unfold faultAt
    split
    · exact ⟨_, showP_ok (d := .tuple [.str "list", natD i]) (by
        show (PyData.strOk "list" && (fine (natD i) && true)) = true
        rw [fine_nat i (by omega)]
        decide +kernel) rfl (by simp [PyData.depth, PyData.depthAll]) (by
        have : ("list" : Str).length = 4 := by decide +kernel
        simp only [wid, wid.wids, this]
        omega)⟩
    · split
      · rename_i j hj
        have hj2 := List.mem_range.mp (List.mem_of_find?_eq_some hj)
        exact ⟨_, showP_ok (d := .tuple [.str "near", natD j, natD i]) (by
          show (PyData.strOk "near" && (fine (natD j) && (fine (natD i) && true))) = true
          rw [fine_nat i (by omega), fine_nat j (by omega)]
          decide +kernel) rfl (by simp [PyData.depth, PyData.depthAll]) (by
          have : ("near" : Str).length = 4 := by decide +kernel
          simp only [wid, wid.wids, this]
          omega)⟩
      · exact ⟨_, rfl⟩
  unfold faultD
  split
  · rename_i i hi
    exact at_ i (List.mem_range.mp (List.mem_of_find?_eq_some hi))
  · exact ⟨_, rfl⟩
end
abbrev D10 (ns : List Int) (c : Nat) (w : Web) (x3 x4 x5 x6 x7 x8 x9 : Option PyData) : Sv.Env := [some (Sv.scr ns), some (dr ns c), some (webD w), x3, x4, x5, x6, x7, x8, x9]
/-- what is asked of one plan -/
theorem ev_one {w : Web} (h : w.Ok) (ns : List Int) (c : Nat) {p : List Nat} (hp : POk w p) (x3 x4 x5 x6 x7 x9 : Option PyData) : b_law_1 (D10 ns c w x3 x4 x5 x6 x7 (some (rowD p)) x9) = some (.nx (D10 ns c w x3 x4 x5 x6 x7 (some (rowD p)) x9)) := by
  obtain ⟨s, hs⟩ := show_fault (p := p) h
  have f1 := ev_fault_of h hp
  have f2 := ev_law_fault h hp
  have f3 := (ev_need_plan h (rowD p) (plains_plan p) (hp.short h)).1 (are_plan h hp)
  have a : aC (vr 2) (aC (vr 8) aN) (D10 ns c w x3 x4 x5 x6 x7 (some (rowD p)) x9) = some ([webD w, rowD p], D10 ns c w x3 x4 x5 x6 x7 (some (rowD p)) x9) := rfl
  have g1 : callF g_fault_of (aC (vr 2) (aC (vr 8) aN)) (D10 ns c w x3 x4 x5 x6 x7 (some (rowD p)) x9) = some (faultD w p, D10 ns c w x3 x4 x5 x6 x7 (some (rowD p)) x9) := by
    unfold callF
    rw [a, Option.bind_some, f1]
    rfl
  have g2 : callF g__law_fault (aC (vr 2) (aC (vr 8) aN)) (D10 ns c w x3 x4 x5 x6 x7 (some (rowD p)) x9) = some (faultD w p, D10 ns c w x3 x4 x5 x6 x7 (some (rowD p)) x9) := by
    unfold callF
    rw [a, Option.bind_some, f2]
    rfl
  have g3 : callF g_need_plan (aC (vr 2) (aC (vr 8) aN)) (D10 ns c w x3 x4 x5 x6 x7 (some (rowD p)) x9) = some (.none, D10 ns c w x3 x4 x5 x6 x7 (some (rowD p)) x9) := by
    unfold callF
    rw [a, Option.bind_some, f3.1]
    rfl
  generalize D10 ns c w x3 x4 x5 x6 x7 (some (rowD p)) x9 = E at g1 g2 g3
  have b1 : bn Xq.showAP (aC (callF g_fault_of (aC (vr 2) (aC (vr 8) aN))) aN) E = some (.str s, E) := by
    unfold bn
    rw [aC_at g1 (show aN E = some ([], E) from rfl), Option.bind_some, hs]
    rfl
  have b2 : bn Xq.showAP (aC (callF g__law_fault (aC (vr 2) (aC (vr 8) aN))) aN) E = some (.str s, E) := by
    unfold bn
    rw [aC_at g2 (show aN E = some ([], E) from rfl), Option.bind_some, hs]
    rfl
  have t1 : tbF (op2 (eqP true) (bn Xq.showAP (aC (callF g_fault_of (aC (vr 2) (aC (vr 8) aN))) aN)) (bn Xq.showAP (aC (callF g__law_fault (aC (vr 2) (aC (vr 8) aN))) aN))) E = some (false, E) := by
    refine tb_at (op2_any b1 b2 ?_)
    simp [eqP, fl, scal]
  have t2 : tbF (op2 (isP true) (callF g_need_plan (aC (vr 2) (aC (vr 8) aN))) (cc .none)) E = some (false, E) := tb_at (op2_any g3 (G := cc .none) rfl rfl)
  exact iff_f (or_f t1 t2) rfl
end K11

namespace Sv
open PySem PySem.Spec PyProof.Rows L2 Pre Dv
theorem oS_at {F : Fx} {e : Env} {k : Nat} (h : F e = some (.int (k : Int), e)) : oS F e = some (some (k : Int), e) := by simp [oS, h, gI_int]
theorem slT_at {F : Fx} {A B : Fo} {e e1 e2 e3 : Env} {ds : List PyData} {lo hi : Option Int} (h1 : F e = some (.tuple ds, e1)) (h2 : A e1 = some (lo, e2)) (h3 : B e2 = some (hi, e3)) : slTF F A B e = some (.tuple (Dv.cutD ds lo hi), e3) := by
  simp [slTF, h1, h2, h3, gT_tuple]
theorem catT_at {a b : List PyData} (h : a.length + b.length ≤ 100000) : catTP (.tuple a) (.tuple b) = some (.tuple (a ++ b)) := by
  show (if a.length + b.length ≤ 100000 then some (PyData.tuple (a ++ b)) else none) = _
  rw [if_pos h]
theorem tup_at {L : Fa} {e e1 : Env} {ds : List PyData} (h : L e = some (ds, e1)) (hl : ds.length ≤ 100000) : tupF L e = some (.tuple ds, e1) := by
  unfold tupF
  rw [h, Option.bind_some, if_pos hl]
end Sv
namespace K11
open PySem PySem.Spec PyProof.Rows L2 Pre Dv Sv
section
variable {w : Web} {p : List Nat}
theorem POk.put (hp : POk w p) {k u : Nat} (hk : k < w.names.length) (hu : u < w.m) : POk w (p.take k ++ [u] ++ p.drop (k + 1)) := by
  have := hp.len
  refine ⟨by simp; omega, fun t ht => ?_⟩
  rcases List.mem_append.mp ht with z | z
  · rcases List.mem_append.mp z with y | y
    · exact hp.lt t (List.mem_of_mem_take y)
    · rw [List.mem_singleton.mp y]; exact hu
  · exact hp.lt t (List.mem_of_mem_drop z)
/-- the other plan -/
theorem ev_other (h : w.Ok) (hp : POk w p) (num : Nat) (e : Sv.Env) (h5 : e[5]? = some (some (rowD p))) (h6 : e[6]? = some (some (natD num))) (h2 : e[2]? = some (some (webD w))) : ∃ q, POk w q ∧ t_law_6 e = some (.nx (e.set 7 (some (rowD q)))) := by
  have n1 := h.n1
  have n2 := h.n2
  have m1 := h.m1
  have hl := hp.len
  obtain ⟨r, _, d⟩ := div_at num 16 (by decide) (by decide)
  have kl : num % p.length < w.names.length := by
    have := Nat.mod_lt num (show p.length > 0 by omega)
    omega
  have ul : r % w.m < w.m := Nat.mod_lt _ (by omega)
  refine ⟨p.take (num % p.length) ++ [r % w.m] ++ p.drop (num % p.length + 1), hp.put kl ul, set_at ?_⟩
  have ln : bn lenP (aC (vr 5) aN) e = some (natD p.length, e) := by
    unfold bn
    rw [aC_at (vr_at h5) (show aN e = some ([], e) from rfl), Option.bind_some]
    show some (PyData.int ((p.map natD).length : Nat), e) = _
    rw [List.length_map]
  have K : op2 modP (vr 6) (bn lenP (aC (vr 5) aN)) e = some (natD (num % p.length), e) := op2_any (vr_at h6) ln (mod_at _ _ (by omega))
  have K1 : op2 addP (op2 modP (vr 6) (bn lenP (aC (vr 5) aN))) (cc (.int 1)) e = some (natD (num % p.length + 1), e) := op2_any (G := cc (.int 1)) K rfl rfl
  have U : op2 modP (op2 Xq.divP (vr 6) (cc (.int 16))) (op2 ixTP (vr 2) (cc (.int 1))) e = some (natD (r % w.m), e) :=
    op2_any (op2_any (G := cc (.int 16)) (vr_at h6) rfl d) (op2_any (G := cc (.int 1)) (vr_at h2) rfl (d := natD w.m) rfl) (mod_at _ _ (by omega))
  generalize hk : num % p.length = k at *
  generalize r % w.m = u at *
  have a1 := slT_at (B := oS (op2 modP (vr 6) (bn lenP (aC (vr 5) aN)))) (A := oN) (ds := p.map natD) (vr_at h5) rfl (oS_at K)
  have a2 := slT_at (A := oS (op2 addP (op2 modP (vr 6) (bn lenP (aC (vr 5) aN))) (cc (.int 1)))) (B := oN) (ds := p.map natD) (vr_at h5) (oS_at K1) rfl
  rw [cut_to (by rw [List.length_map]; omega)] at a1
  rw [cut_from (by rw [List.length_map]; omega)] at a2
  have a3 := tup_at (aC_at U (show aN e = some ([], e) from rfl)) (by simp)
  have a4 := op2_any (op2_any a1 a3 (catT_at (by simp; omega))) a2 (catT_at (by simp; omega))
  rw [← List.map_take, ← List.map_drop] at a4
  have e2 : rowD (p.take k ++ [u] ++ p.drop (k + 1)) = .tuple ((p.take k).map natD ++ [natD u] ++ (p.drop (k + 1)).map natD) := by
    unfold rowD
    rw [List.map_append, List.map_append]
    rfl
  rw [e2]
  exact a4
end
/-- one round of the law -/
theorem ev_round {w : Web} (h : w.Ok) (ns : List Int) (c : Nat) (hc : c ≤ 90000) (z : Int) (x3 x5 x6 x7 x8 x9 : Option PyData) : ∃ (c2 : Nat) (y5 y6 y7 y8 y9 : Option PyData), c2 ≤ c + 24 ∧ b_law_2 (D10 ns c w x3 (some (.int z)) x5 x6 x7 x8 x9) = some (.nx (D10 ns c2 w x3 (some (.int z)) y5 y6 y7 y8 y9)) := by
  obtain ⟨p, c2, hp, hc2, pl⟩ := ev_plan h ns c hc
  have s1 : t_law_4 (D10 ns c w x3 (some (.int z)) x5 x6 x7 x8 x9) = some (.nx (D10 ns c2 w x3 (some (.int z)) (some (rowD p)) x6 x7 x8 x9)) := by
    refine set_at (F := callM g__law_plan [some 1, none] (aM 1 (aC (vr 2) aN))) (i := 5) (e1 := D10 ns c2 w x3 (some (.int z)) x5 x6 x7 x8 x9) ?_
    show (g__law_plan [dr ns c, webD w]).map _ = _
    rw [pl]
    rfl
  have mb := mixN_b (z % 2147483647) 3
  obtain ⟨num, hnum⟩ : ∃ num : Nat, mixN (z % 2147483647) 3 = (num : Int) := ⟨(mixN (z % 2147483647) 3).toNat, by omega⟩
  have mx := ev_mixed (z % 2147483647) 3 (by omega)
  rw [hnum] at mx
  have s2 : t_law_5 (D10 ns c2 w x3 (some (.int z)) (some (rowD p)) x6 x7 x8 x9) = some (.nx (D10 ns c2 w x3 (some (.int z)) (some (rowD p)) (some (natD num)) x7 x8 x9)) := by
    have m : op2 modP (vr 4) (cc (.int 2147483647)) (D10 ns c2 w x3 (some (.int z)) (some (rowD p)) x6 x7 x8 x9) = some (.int (z % 2147483647), D10 ns c2 w x3 (some (.int z)) (some (rowD p)) x6 x7 x8 x9) := rfl
    refine set_at (F := callF g__law_mixed (aC (op2 modP (vr 4) (cc (.int 2147483647))) (aC (cc (.int 3)) aN))) (i := 6) (e1 := D10 ns c2 w x3 (some (.int z)) (some (rowD p)) x6 x7 x8 x9) ?_
    unfold callF
    rw [aC_at m (aC_at (F := cc (.int 3)) rfl rfl), Option.bind_some, mx]
    rfl
  obtain ⟨q, hq, s3⟩ := ev_other h hp num (D10 ns c2 w x3 (some (.int z)) (some (rowD p)) (some (natD num)) x7 x8 x9) rfl rfl rfl
  have s4 : l_law_1 (D10 ns c2 w x3 (some (.int z)) (some (rowD p)) (some (natD num)) (some (rowD q)) x8 x9) = some (.nx (D10 ns c2 w x3 (some (.int z)) (some (rowD p)) (some (natD num)) (some (rowD q)) (some (rowD q)) x9)) := by
    have o1 := ev_one h ns c2 hp x3 (some (.int z)) (some (rowD p)) (some (natD num)) (some (rowD q)) x9
    have o2 := ev_one h ns c2 hq x3 (some (.int z)) (some (rowD p)) (some (natD num)) (some (rowD q)) x9
    have tu : tuF (tupF (aC (vr 5) (aC (vr 7) aN))) (D10 ns c2 w x3 (some (.int z)) (some (rowD p)) (some (natD num)) (some (rowD q)) x8 x9) = some ([rowD p, rowD q], D10 ns c2 w x3 (some (.int z)) (some (rowD p)) (some (natD num)) (some (rowD q)) x8 x9) := rfl
    unfold l_law_1 forF
    rw [tu, Option.bind_some]
    show (b_law_1 (D10 ns c2 w x3 (some (.int z)) (some (rowD p)) (some (natD num)) (some (rowD q)) (some (rowD p)) x9)).bind _ = _
    rw [o1, Option.bind_some]
    show (b_law_1 (D10 ns c2 w x3 (some (.int z)) (some (rowD p)) (some (natD num)) (some (rowD q)) (some (rowD q)) x9)).bind _ = _
    rw [o2]
    rfl
  obtain ⟨r, _, d⟩ := div_at num 16 (by decide) (by decide)
  obtain ⟨th, post, g1, no⟩ := ev_no_plan h hp r
  have s5 : t_law_9 (D10 ns c2 w x3 (some (.int z)) (some (rowD p)) (some (natD num)) (some (rowD q)) (some (rowD q)) x9) = some (.nx (D10 ns c2 w x3 (some (.int z)) (some (rowD p)) (some (natD num)) (some (rowD q)) (some (rowD q)) (some th))) := by
    refine set_at (F := callF g__law_no_plan (aC (vr 2) (aC (vr 5) (aC (op2 Xq.divP (vr 6) (cc (.int 16))) aN)))) (i := 9) (e1 := D10 ns c2 w x3 (some (.int z)) (some (rowD p)) (some (natD num)) (some (rowD q)) (some (rowD q)) x9) ?_
    unfold callF
    rw [aC_at (F := vr 2) (d := webD w) rfl (aC_at (F := vr 5) (d := rowD p) rfl (aC_at (op2_any (F := vr 6) (G := cc (.int 16)) rfl rfl d) rfl)), Option.bind_some, g1]
    rfl
  obtain ⟨p0, r0⟩ := ev_refused h no 0 (.inl rfl)
  obtain ⟨p1, r1⟩ := ev_refused h no 1 (.inr rfl)
  obtain ⟨p2, al⟩ := ev_all_left h hp num
  have rf (k : Int) (post : List PyData) (e : g__law_refused [webD w, th, .int k] = some (.bool true, post)) : notF (tbF (callF g__law_refused (aC (vr 2) (aC (vr 9) (aC (cc (.int k)) aN))))) (D10 ns c2 w x3 (some (.int z)) (some (rowD p)) (some (natD num)) (some (rowD q)) (some (rowD q)) (some th)) = some (false, D10 ns c2 w x3 (some (.int z)) (some (rowD p)) (some (natD num)) (some (rowD q)) (some (rowD q)) (some th)) := by
    have a : callF g__law_refused (aC (vr 2) (aC (vr 9) (aC (cc (.int k)) aN))) (D10 ns c2 w x3 (some (.int z)) (some (rowD p)) (some (natD num)) (some (rowD q)) (some (rowD q)) (some th)) = some (.bool true, D10 ns c2 w x3 (some (.int z)) (some (rowD p)) (some (natD num)) (some (rowD q)) (some (rowD q)) (some th)) := by
      unfold callF
      rw [aC_at (F := vr 2) (d := webD w) rfl (aC_at (F := vr 9) (d := th) rfl (aC_at (F := cc (.int k)) rfl rfl)), Option.bind_some, e]
      rfl
    unfold notF
    rw [tb_at a]
    rfl
  have s6 : t_law_11 (D10 ns c2 w x3 (some (.int z)) (some (rowD p)) (some (natD num)) (some (rowD q)) (some (rowD q)) (some th)) = some (.nx (D10 ns c2 w x3 (some (.int z)) (some (rowD p)) (some (natD num)) (some (rowD q)) (some (rowD q)) (some th))) := iff_f (or_f (rf 0 p0 r0) (rf 1 p1 r1)) rfl
  have s7 : t_law_13 (D10 ns c2 w x3 (some (.int z)) (some (rowD p)) (some (natD num)) (some (rowD q)) (some (rowD q)) (some th)) = some (.nx (D10 ns c2 w x3 (some (.int z)) (some (rowD p)) (some (natD num)) (some (rowD q)) (some (rowD q)) (some th))) := by
    have a : callF g__law_all_left (aC (vr 2) (aC (vr 5) (aC (vr 6) aN))) (D10 ns c2 w x3 (some (.int z)) (some (rowD p)) (some (natD num)) (some (rowD q)) (some (rowD q)) (some th)) = some (.bool true, D10 ns c2 w x3 (some (.int z)) (some (rowD p)) (some (natD num)) (some (rowD q)) (some (rowD q)) (some th)) := by
      unfold callF
      rw [aC_at (F := vr 2) (d := webD w) rfl (aC_at (F := vr 5) (d := rowD p) rfl (aC_at (F := vr 6) (d := natD num) rfl rfl)), Option.bind_some, al]
      rfl
    refine iff_f ?_ rfl
    unfold notF
    rw [tb_at a]
    rfl
  exact ⟨c2, _, _, _, _, _, hc2, seq_nx s1 (seq_nx s2 (seq_nx s3 (seq_nx s4 (seq_nx s5 (seq_nx s6 s7)))))⟩
end K11

namespace K11
open PySem PySem.Spec PyProof.Rows L2 Pre Dv Sv
theorem st_at (q : Nat) : ∃ st : Nat, 1 ≤ st ∧ st ≤ 24 ∧ ixLP (.list [.int 14, .int 14, .int 14, .int 24]) (natD (q % 4)) = some (natD st) := by
  have : q % 4 = 0 ∨ q % 4 = 1 ∨ q % 4 = 2 ∨ q % 4 = 3 := by omega
  rcases this with z | z | z | z <;> rw [z]
  · exact ⟨14, by omega, by omega, rfl⟩
  · exact ⟨14, by omega, by omega, rfl⟩
  · exact ⟨14, by omega, by omega, rfl⟩
  · exact ⟨24, by omega, by omega, rfl⟩
/-- the law, of every script -/
theorem law_all (ns : List Int) (hl : ns.length ≤ 63) : ∃ post, g_law [Sv.scr ns] = some (.bool true, post) := by
  have cb := cellN_b ns 60
  obtain ⟨q, hq⟩ : ∃ q : Nat, cellN ns 60 = (q : Int) := ⟨(cellN ns 60).toNat, by omega⟩
  have cell := ev_cell ns 60 (by omega)
  rw [hq] at cell
  obtain ⟨st, st1, st2, hst⟩ := st_at q
  have s1 : t_law_1 (Sv.envOf n_law [Sv.scr ns]) = some (.nx [some (Sv.scr ns), some (dr ns 0), none, none, none, none, none, none, none, none]) := rfl
  obtain ⟨w, c2, h, hc2, hw⟩ := ev_web ns st st1 st2 0 (by omega)
  have s2 : t_law_2 [some (Sv.scr ns), some (dr ns 0), none, none, none, none, none, none, none, none] = some (.nx (D10 ns c2 w none none none none none none none)) := by
    have a1 : callF g__law_cell (aC (vr 0) (aC (cc (.int 60)) aN)) [some (Sv.scr ns), some (dr ns 0), none, none, none, none, none, none, none, none] = some (natD q, [some (Sv.scr ns), some (dr ns 0), none, none, none, none, none, none, none, none]) := by
      unfold callF
      rw [aC_at (F := vr 0) (d := Sv.scr ns) rfl (aC_at (F := cc (.int 60)) rfl rfl), Option.bind_some, cell]
      rfl
    have a2 : op2 ixLP (lsF [] (aC (cc (.int 14)) (aC (cc (.int 14)) (aC (cc (.int 14)) (aC (cc (.int 24)) aN))))) (op2 modP (callF g__law_cell (aC (vr 0) (aC (cc (.int 60)) aN))) (cc (.int 4))) [some (Sv.scr ns), some (dr ns 0), none, none, none, none, none, none, none, none] = some (natD st, [some (Sv.scr ns), some (dr ns 0), none, none, none, none, none, none, none, none]) :=
      op2_any (F := lsF [] (aC (cc (.int 14)) (aC (cc (.int 14)) (aC (cc (.int 14)) (aC (cc (.int 24)) aN))))) (a := .list [.int 14, .int 14, .int 14, .int 24]) rfl (op2_any (G := cc (.int 4)) a1 rfl (mod4_at q)) hst
    have a3 : aM 1 (aC (op2 ixLP (lsF [] (aC (cc (.int 14)) (aC (cc (.int 14)) (aC (cc (.int 14)) (aC (cc (.int 24)) aN))))) (op2 modP (callF g__law_cell (aC (vr 0) (aC (cc (.int 60)) aN))) (cc (.int 4)))) (aC (cc (.int 60)) (aC (cc (.int 5)) aN))) [some (Sv.scr ns), some (dr ns 0), none, none, none, none, none, none, none, none] = some ([dr ns 0, natD st, .int 60, .int 5], [some (Sv.scr ns), some (dr ns 0), none, none, none, none, none, none, none, none]) := by
      unfold aM
      rw [aC_at a2 (aC_at (F := cc (.int 60)) rfl (aC_at (F := cc (.int 5)) rfl rfl)), Option.bind_some]
      rfl
    unfold t_law_2 setF callM
    rw [a3, Option.bind_some, hw]
    rfl
  have sh := show_web h
  have bs (e : Sv.Env) (he : e[2]? = some (some (webD w))) : bn Gd.showP (aC (vr 2) aN) e = some (.str (webD w).shown, e) := by
    unfold bn
    rw [aC_at (vr_at he) (show aN e = some ([], e) from rfl), Option.bind_some, sh]
    rfl
  have s3 : t_law_3 (D10 ns c2 w none none none none none none none) = some (.nx (D10 ns c2 w (some (.str (webD w).shown)) none none none none none none)) := set_at (i := 3) (e1 := D10 ns c2 w none none none none none none none) (bs (D10 ns c2 w none none none none none none none) rfl)
  generalize (webD w).shown = sw at s3 bs
  obtain ⟨cs, hcs⟩ : ∃ cs, cs = Dv.cutD (ns.map PyData.int) none (some 12) ++ [.int 8] := ⟨_, rfl⟩
  have sub : (Dv.cutD (ns.map PyData.int) none (some 12)).length ≤ 63 := by
    have : (Dv.cutD (ns.map PyData.int) none (some 12)).length ≤ (ns.map PyData.int).length := by
      unfold Dv.cutD
      rw [List.length_take, List.length_drop]
      omega
    rw [List.length_map] at this
    omega
  have rd : rdF (op2f [] catG (slLF [] (vr 0) oN (oS (cc (.int 12)))) (lsF [] (aC (cc (.int 8)) aN))) (D10 ns c2 w (some (.str sw)) none none none none none none) = some (cs, D10 ns c2 w (some (.str sw)) none none none none none none) := by
    have a1 : slLF [] (vr 0) oN (oS (cc (.int 12))) (D10 ns c2 w (some (.str sw)) none none none none none none) = some (.list (Dv.cutD (ns.map PyData.int) none (some 12)), D10 ns c2 w (some (.str sw)) none none none none none none) := by
      show (Sv.gR (Sv.scr ns)).bind _ = _
      rw [gR_scr]
      rfl
    have a2 : catG (.list (Dv.cutD (ns.map PyData.int) none (some 12))) (.list [.int 8]) = some cs := by
      show (if (Dv.cutD (ns.map PyData.int) none (some 12)).length + [PyData.int 8].length ≤ 100000 then some (Dv.cutD (ns.map PyData.int) none (some 12) ++ [PyData.int 8]) else none) = _
      rw [if_pos (by simp; omega), hcs]
    unfold rdF
    rw [op2f_any (G := lsF [] (aC (cc (.int 8)) aN)) (b := .list [.int 8]) a1 rfl a2 rfl]
    rfl
  have nums : ∀ d ∈ cs, ∃ z : Int, d = .int z := fun d hd => by
    rw [hcs] at hd
    rcases List.mem_append.mp hd with y | y
    · obtain ⟨z, _, rfl⟩ := List.mem_map.mp (List.mem_of_mem_drop (List.mem_of_mem_take y))
      exact ⟨z, rfl⟩
    · exact ⟨8, List.mem_singleton.mp y⟩
  have cl : cs.length ≤ 64 := by
    rw [hcs]
    simp
    omega
  obtain ⟨e4, c4, s4, h4, y4, y5, y6, y7, y8, y9, rfl⟩ := loop_cnt (Gg := nmG 4) (s := b_law_2) (fun k e => ∃ y4 y5 y6 y7 y8 y9 : Option PyData, e = D10 ns k w (some (.str sw)) y4 y5 y6 y7 y8 y9) 24 90000 cs c2 (D10 ns c2 w (some (.str sw)) none none none none none none) ⟨none, none, none, none, none, none, rfl⟩ (by omega) (fun d hd k e hk kb => by
    obtain ⟨z, rfl⟩ := nums d hd
    obtain ⟨y4, y5, y6, y7, y8, y9, rfl⟩ := hk
    obtain ⟨k2, z5, z6, z7, z8, z9, hk2, b⟩ := ev_round h ns k (by omega) z (some (.str sw)) y5 y6 y7 y8 y9
    exact ⟨_, _, k2, rfl, b, hk2, _, _, _, _, _, _, rfl⟩)
  have s4' : l_law_2 (D10 ns c2 w (some (.str sw)) none none none none none none) = some (.nx (D10 ns c4 w (some (.str sw)) y4 y5 y6 y7 y8 y9)) := by
    unfold l_law_2 forF
    rw [rd]
    exact s4
  have s5 : t_law_14 (D10 ns c4 w (some (.str sw)) y4 y5 y6 y7 y8 y9) = some (.rt (.bool true) (D10 ns c4 w (some (.str sw)) y4 y5 y6 y7 y8 y9)) := by
    refine ret_at (op2_any (bs (D10 ns c4 w (some (.str sw)) y4 y5 y6 y7 y8 y9) rfl) (G := vr 3) rfl ?_)
    simp [eqP, fl, scal]
  have all : f_law (Sv.envOf n_law [Sv.scr ns]) = some (.rt (.bool true) (D10 ns c4 w (some (.str sw)) y4 y5 y6 y7 y8 y9)) := seq_nx s1 (seq_nx s2 (seq_nx s3 (seq_nx s4' s5)))
  refine ⟨[Sv.scr ns], ?_⟩
  unfold g_law gDef
  rw [if_pos (show [Sv.scr ns].length = 1 from rfl), all]
  rfl
end K11

namespace K11
open PySem PySem.Spec PyProof.Rows L2 Pre Dv Sv
theorem all_mk {l : PySem.W.OpenLaw} {w : World} {K : PySem.W.Frag} {h : Heap} {mg : Str → Option Value} {fa f1 f2 f3 f4 f5 f6 f7 f8 f9 f10 f11 f12 f13 f14 f15 f16 f17 f18 f19 f20 : Addr} (X : K.In h) (G : h.Ns mainGlobals mg) (hfa : mg "law" = some (.ref fa))
    {od1 an1 od2 an2 od3 an3 od4 an4 od5 an5 od6 an6 od7 an7 od8 an8 od9 an9 od10 an10 od11 an11 od12 an12 od13 an13 od14 an14 od15 an15 od16 an16 od17 an17 od18 an18 od19 an19 od20 an20 : Option Addr} {sl1 sl2 sl3 sl4 sl5 sl6 sl7 sl8 sl9 sl10 sl11 sl12 sl13 sl14 sl15 sl16 sl17 sl18 sl19 sl20 : Array (Option Value)} {oc1 kV1 dc1 pm1 cd1 ct1 oc2 kV2 dc2 pm2 cd2 ct2 oc3 kV3 dc3 pm3 cd3 ct3 oc4 kV4 dc4 pm4 cd4 ct4 oc5 kV5 dc5 pm5 cd5 ct5 oc6 kV6 dc6 pm6 cd6 ct6 oc7 kV7 dc7 pm7 cd7 ct7 oc8 kV8 dc8 pm8 cd8 ct8 oc9 kV9 dc9 pm9 cd9 ct9 oc10 kV10 dc10 pm10 cd10 ct10 oc11 kV11 dc11 pm11 cd11 ct11 oc12 kV12 dc12 pm12 cd12 ct12 oc13 kV13 dc13 pm13 cd13 ct13 oc14 kV14 dc14 pm14 cd14 ct14 oc15 kV15 dc15 pm15 cd15 ct15 oc16 kV16 dc16 pm16 cd16 ct16 oc17 kV17 dc17 pm17 cd17 ct17 oc18 kV18 dc18 pm18 cd18 ct18 oc19 kV19 dc19 pm19 cd19 ct19 oc20 kV20 dc20 pm20 cd20 ct20 : Value}
    (a1 : PySem.W.nsIn K mainGlobals "is_whole" = some (some (.ref f1))) (l1 : K.lookup f1 = some ⟨oc1, od1, .func (PySem.W.fnOf "is_whole" "is_whole" (defArgs s_is_whole) (defBody s_is_whole) (defScope s_is_whole) .none kV1 dc1 pm1 an1 cd1 ct1), sl1⟩) (c1 : PySem.W.codeIn K cd1 "is_whole" = true) (k1 : PySem.W.keepIn K (.ref f1) = true)
    (a2 : PySem.W.nsIn K mainGlobals "are_whole" = some (some (.ref f2))) (l2 : K.lookup f2 = some ⟨oc2, od2, .func (PySem.W.fnOf "are_whole" "are_whole" (defArgs s_are_whole) (defBody s_are_whole) (defScope s_are_whole) .none kV2 dc2 pm2 an2 cd2 ct2), sl2⟩) (c2 : PySem.W.codeIn K cd2 "are_whole" = true) (k2 : PySem.W.keepIn K (.ref f2) = true)
    (a3 : PySem.W.nsIn K mainGlobals "need_plan" = some (some (.ref f3))) (l3 : K.lookup f3 = some ⟨oc3, od3, .func (PySem.W.fnOf "need_plan" "need_plan" (defArgs s_need_plan) (defBody s_need_plan) (defScope s_need_plan) .none kV3 dc3 pm3 an3 cd3 ct3), sl3⟩) (c3 : PySem.W.codeIn K cd3 "need_plan" = true) (k3 : PySem.W.keepIn K (.ref f3) = true)
    (a4 : PySem.W.nsIn K mainGlobals "fault_of" = some (some (.ref f4))) (l4 : K.lookup f4 = some ⟨oc4, od4, .func (PySem.W.fnOf "fault_of" "fault_of" (defArgs s_fault_of) (defBody s_fault_of) (defScope s_fault_of) .none kV4 dc4 pm4 an4 cd4 ct4), sl4⟩) (c4 : PySem.W.codeIn K cd4 "fault_of" = true) (k4 : PySem.W.keepIn K (.ref f4) = true)
    (a5 : PySem.W.nsIn K mainGlobals "fault_at" = some (some (.ref f5))) (l5 : K.lookup f5 = some ⟨oc5, od5, .func (PySem.W.fnOf "fault_at" "fault_at" (defArgs s_fault_at) (defBody s_fault_at) (defScope s_fault_at) .none kV5 dc5 pm5 an5 cd5 ct5), sl5⟩) (c5 : PySem.W.codeIn K cd5 "fault_at" = true) (k5 : PySem.W.keepIn K (.ref f5) = true)
    (a6 : PySem.W.nsIn K mainGlobals "left_for" = some (some (.ref f6))) (l6 : K.lookup f6 = some ⟨oc6, od6, .func (PySem.W.fnOf "left_for" "left_for" (defArgs s_left_for) (defBody s_left_for) (defScope s_left_for) .none kV6 dc6 pm6 an6 cd6 ct6), sl6⟩) (c6 : PySem.W.codeIn K cd6 "left_for" = true) (k6 : PySem.W.keepIn K (.ref f6) = true)
    (a7 : PySem.W.nsIn K mainGlobals "tunes_near" = some (some (.ref f7))) (l7 : K.lookup f7 = some ⟨oc7, od7, .func (PySem.W.fnOf "tunes_near" "tunes_near" (defArgs s_tunes_near) (defBody s_tunes_near) (defScope s_tunes_near) .none kV7 dc7 pm7 an7 cd7 ct7), sl7⟩) (c7 : PySem.W.codeIn K cd7 "tunes_near" = true) (k7 : PySem.W.keepIn K (.ref f7) = true)
    (a8 : PySem.W.nsIn K mainGlobals "_law_cell" = some (some (.ref f8))) (l8 : K.lookup f8 = some ⟨oc8, od8, .func (PySem.W.fnOf "_law_cell" "_law_cell" (defArgs s__law_cell) (defBody s__law_cell) (defScope s__law_cell) .none kV8 dc8 pm8 an8 cd8 ct8), sl8⟩) (c8 : PySem.W.codeIn K cd8 "_law_cell" = true) (k8 : PySem.W.keepIn K (.ref f8) = true)
    (a9 : PySem.W.nsIn K mainGlobals "_law_mixed" = some (some (.ref f9))) (l9 : K.lookup f9 = some ⟨oc9, od9, .func (PySem.W.fnOf "_law_mixed" "_law_mixed" (defArgs s__law_mixed) (defBody s__law_mixed) (defScope s__law_mixed) .none kV9 dc9 pm9 an9 cd9 ct9), sl9⟩) (c9 : PySem.W.codeIn K cd9 "_law_mixed" = true) (k9 : PySem.W.keepIn K (.ref f9) = true)
    (a10 : PySem.W.nsIn K mainGlobals "_law_next" = some (some (.ref f10))) (l10 : K.lookup f10 = some ⟨oc10, od10, .func (PySem.W.fnOf "_law_next" "_law_next" (defArgs s__law_next) (defBody s__law_next) (defScope s__law_next) .none kV10 dc10 pm10 an10 cd10 ct10), sl10⟩) (c10 : PySem.W.codeIn K cd10 "_law_next" = true) (k10 : PySem.W.keepIn K (.ref f10) = true)
    (a11 : PySem.W.nsIn K mainGlobals "_law_names" = some (some (.ref f11))) (l11 : K.lookup f11 = some ⟨oc11, od11, .func (PySem.W.fnOf "_law_names" "_law_names" (defArgs s__law_names) (defBody s__law_names) (defScope s__law_names) .none kV11 dc11 pm11 an11 cd11 ct11), sl11⟩) (c11 : PySem.W.codeIn K cd11 "_law_names" = true) (k11 : PySem.W.keepIn K (.ref f11) = true)
    (a12 : PySem.W.nsIn K mainGlobals "_law_gaps" = some (some (.ref f12))) (l12 : K.lookup f12 = some ⟨oc12, od12, .func (PySem.W.fnOf "_law_gaps" "_law_gaps" (defArgs s__law_gaps) (defBody s__law_gaps) (defScope s__law_gaps) .none kV12 dc12 pm12 an12 cd12 ct12), sl12⟩) (c12 : PySem.W.codeIn K cd12 "_law_gaps" = true) (k12 : PySem.W.keepIn K (.ref f12) = true)
    (a13 : PySem.W.nsIn K mainGlobals "_law_web" = some (some (.ref f13))) (l13 : K.lookup f13 = some ⟨oc13, od13, .func (PySem.W.fnOf "_law_web" "_law_web" (defArgs s__law_web) (defBody s__law_web) (defScope s__law_web) .none kV13 dc13 pm13 an13 cd13 ct13), sl13⟩) (c13 : PySem.W.codeIn K cd13 "_law_web" = true) (k13 : PySem.W.keepIn K (.ref f13) = true)
    (a14 : PySem.W.nsIn K mainGlobals "_law_left" = some (some (.ref f14))) (l14 : K.lookup f14 = some ⟨oc14, od14, .func (PySem.W.fnOf "_law_left" "_law_left" (defArgs s__law_left) (defBody s__law_left) (defScope s__law_left) .none kV14 dc14 pm14 an14 cd14 ct14), sl14⟩) (c14 : PySem.W.codeIn K cd14 "_law_left" = true) (k14 : PySem.W.keepIn K (.ref f14) = true)
    (a15 : PySem.W.nsIn K mainGlobals "_law_fault" = some (some (.ref f15))) (l15 : K.lookup f15 = some ⟨oc15, od15, .func (PySem.W.fnOf "_law_fault" "_law_fault" (defArgs s__law_fault) (defBody s__law_fault) (defScope s__law_fault) .none kV15 dc15 pm15 an15 cd15 ct15), sl15⟩) (c15 : PySem.W.codeIn K cd15 "_law_fault" = true) (k15 : PySem.W.keepIn K (.ref f15) = true)
    (a16 : PySem.W.nsIn K mainGlobals "_law_plan" = some (some (.ref f16))) (l16 : K.lookup f16 = some ⟨oc16, od16, .func (PySem.W.fnOf "_law_plan" "_law_plan" (defArgs s__law_plan) (defBody s__law_plan) (defScope s__law_plan) .none kV16 dc16 pm16 an16 cd16 ct16), sl16⟩) (c16 : PySem.W.codeIn K cd16 "_law_plan" = true) (k16 : PySem.W.keepIn K (.ref f16) = true)
    (a17 : PySem.W.nsIn K mainGlobals "_law_no_plan" = some (some (.ref f17))) (l17 : K.lookup f17 = some ⟨oc17, od17, .func (PySem.W.fnOf "_law_no_plan" "_law_no_plan" (defArgs s__law_no_plan) (defBody s__law_no_plan) (defScope s__law_no_plan) .none kV17 dc17 pm17 an17 cd17 ct17), sl17⟩) (c17 : PySem.W.codeIn K cd17 "_law_no_plan" = true) (k17 : PySem.W.keepIn K (.ref f17) = true)
    (a18 : PySem.W.nsIn K mainGlobals "_law_refused" = some (some (.ref f18))) (l18 : K.lookup f18 = some ⟨oc18, od18, .func (PySem.W.fnOf "_law_refused" "_law_refused" (defArgs s__law_refused) (defBody s__law_refused) (defScope s__law_refused) .none kV18 dc18 pm18 an18 cd18 ct18), sl18⟩) (c18 : PySem.W.codeIn K cd18 "_law_refused" = true) (k18 : PySem.W.keepIn K (.ref f18) = true)
    (a19 : PySem.W.nsIn K mainGlobals "_law_all_left" = some (some (.ref f19))) (l19 : K.lookup f19 = some ⟨oc19, od19, .func (PySem.W.fnOf "_law_all_left" "_law_all_left" (defArgs s__law_all_left) (defBody s__law_all_left) (defScope s__law_all_left) .none kV19 dc19 pm19 an19 cd19 ct19), sl19⟩) (c19 : PySem.W.codeIn K cd19 "_law_all_left" = true) (k19 : PySem.W.keepIn K (.ref f19) = true)
    (a20 : PySem.W.nsIn K mainGlobals "law" = some (some (.ref f20))) (l20 : K.lookup f20 = some ⟨oc20, od20, .func (PySem.W.fnOf "law" "law" (defArgs s_law) (defBody s_law) (defScope s_law) .none kV20 dc20 pm20 an20 cd20 ct20), sl20⟩) (c20 : PySem.W.codeIn K cd20 "law" = true) (k20 : PySem.W.keepIn K (.ref f20) = true)
    (z_ValueError : PySem.W.nsIn K mainGlobals "ValueError" = some none)
    (z_abs : PySem.W.nsIn K mainGlobals "abs" = some none)
    (z_all : PySem.W.nsIn K mainGlobals "all" = some none)
    (z_bool : PySem.W.nsIn K mainGlobals "bool" = some none)
    (z_enumerate : PySem.W.nsIn K mainGlobals "enumerate" = some none)
    (z_int : PySem.W.nsIn K mainGlobals "int" = some none)
    (z_isinstance : PySem.W.nsIn K mainGlobals "isinstance" = some none)
    (z_len : PySem.W.nsIn K mainGlobals "len" = some none)
    (z_list : PySem.W.nsIn K mainGlobals "list" = some none)
    (z_max : PySem.W.nsIn K mainGlobals "max" = some none)
    (z_range : PySem.W.nsIn K mainGlobals "range" = some none)
    (z_repr : PySem.W.nsIn K mainGlobals "repr" = some none)
    (z_str : PySem.W.nsIn K mainGlobals "str" = some none)
    (z_sum : PySem.W.nsIn K mainGlobals "sum" = some none)
    (z_tuple : PySem.W.nsIn K mainGlobals "tuple" = some none)
    (z_zip : PySem.W.nsIn K mainGlobals "zip" = some none)
    {c_BadPlan : Addr}
    (nn_BadPlan : PySem.W.nsIn K mainGlobals "BadPlan" = some (some (.ref c_BadPlan)))
    (x_BadPlan : PySem.W.excIn K c_BadPlan [.type "ValueError", .type "Exception", .type "BaseException", .type "object"] "ValueError.__new__" = true)
    (kc_BadPlan : PySem.W.keepIn K (.ref c_BadPlan) = true)
    (bc_BadPlan : PySem.W.subIn K (.ref c_BadPlan) (.type "BaseException") = some true)
    (tc_BadPlan : PySem.W.typeIn K (.ref c_BadPlan) = some (.type "type"))
    (ehg_BadPlan : PySem.W.findIn K (.ref c_BadPlan) "__getattribute__" = some (some (.builtin "BaseException.__getattribute__")))
    (ehk_BadPlan : PySem.W.findIn K (.ref c_BadPlan) "__getattr__" = some none)
    (ehd_BadPlan : PySem.W.hasDictIn K c_BadPlan = true)
    (eha_BadPlan : PySem.W.findIn K (.ref c_BadPlan) "__class__" = some (some (.builtin "object.__class__")))
    (ehn_BadPlan : PySem.W.specialIn K (.builtin "object.__class__") "__get__" = some (some (.builtin "getset_descriptor.__get__")))
    (eht_BadPlan : PySem.W.takesIn K (.builtin "object.__class__") = some true)
    (ehm_BadPlan : PySem.W.mroIn K c_BadPlan (.type "object") = some true)
    {c_TuneError : Addr}
    (nn_TuneError : PySem.W.nsIn K mainGlobals "TuneError" = some (some (.ref c_TuneError)))
    {c_BadShown : Addr}
    (nn_BadShown : PySem.W.nsIn K mainGlobals "BadShown" = some (some (.ref c_BadShown)))
    {c_BadNumber : Addr}
    (nn_BadNumber : PySem.W.nsIn K mainGlobals "BadNumber" = some (some (.ref c_BadNumber)))
    {c_BadLine : Addr}
    (nn_BadLine : PySem.W.nsIn K mainGlobals "BadLine" = some (some (.ref c_BadLine)))
    {c_Lacking : Addr}
    (nn_Lacking : PySem.W.nsIn K mainGlobals "Lacking" = some (some (.ref c_Lacking)))
    {c_BadWeb : Addr}
    (nn_BadWeb : PySem.W.nsIn K mainGlobals "BadWeb" = some (some (.ref c_BadWeb)))
    {c_BadText : Addr}
    (nn_BadText : PySem.W.nsIn K mainGlobals "BadText" = some (some (.ref c_BadText)))
    {c_Twice : Addr}
    (nn_Twice : PySem.W.nsIn K mainGlobals "Twice" = some (some (.ref c_Twice)))
    {c_TooMany : Addr}
    (nn_TooMany : PySem.W.nsIn K mainGlobals "TooMany" = some (some (.ref c_TooMany)))
    {c_NoPlan : Addr}
    (nn_NoPlan : PySem.W.nsIn K mainGlobals "NoPlan" = some (some (.ref c_NoPlan)))
    (sb_BadPlan_BadPlan : PySem.W.subIn K (.ref c_BadPlan) (.ref c_BadPlan) = some true)
    (hd_BadShown : PySem.W.hasDictIn K c_BadShown = true)
    (ty_BadShown : PySem.W.typeIn K (.ref c_BadShown) = some (.type "type"))
    (sb_BadPlan_BadShown : PySem.W.subIn K (.ref c_BadPlan) (.ref c_BadShown) = some false)
    (hd_BadNumber : PySem.W.hasDictIn K c_BadNumber = true)
    (ty_BadNumber : PySem.W.typeIn K (.ref c_BadNumber) = some (.type "type"))
    (sb_BadPlan_BadNumber : PySem.W.subIn K (.ref c_BadPlan) (.ref c_BadNumber) = some false)
    (hd_BadLine : PySem.W.hasDictIn K c_BadLine = true)
    (ty_BadLine : PySem.W.typeIn K (.ref c_BadLine) = some (.type "type"))
    (sb_BadPlan_BadLine : PySem.W.subIn K (.ref c_BadPlan) (.ref c_BadLine) = some false)
    (hd_Lacking : PySem.W.hasDictIn K c_Lacking = true)
    (ty_Lacking : PySem.W.typeIn K (.ref c_Lacking) = some (.type "type"))
    (sb_BadPlan_Lacking : PySem.W.subIn K (.ref c_BadPlan) (.ref c_Lacking) = some false)
    (hd_BadWeb : PySem.W.hasDictIn K c_BadWeb = true)
    (ty_BadWeb : PySem.W.typeIn K (.ref c_BadWeb) = some (.type "type"))
    (sb_BadPlan_BadWeb : PySem.W.subIn K (.ref c_BadPlan) (.ref c_BadWeb) = some false)
    (hd_BadText : PySem.W.hasDictIn K c_BadText = true)
    (ty_BadText : PySem.W.typeIn K (.ref c_BadText) = some (.type "type"))
    (sb_BadPlan_BadText : PySem.W.subIn K (.ref c_BadPlan) (.ref c_BadText) = some false)
    (hd_Twice : PySem.W.hasDictIn K c_Twice = true)
    (ty_Twice : PySem.W.typeIn K (.ref c_Twice) = some (.type "type"))
    (sb_BadPlan_Twice : PySem.W.subIn K (.ref c_BadPlan) (.ref c_Twice) = some false)
    (hd_TooMany : PySem.W.hasDictIn K c_TooMany = true)
    (ty_TooMany : PySem.W.typeIn K (.ref c_TooMany) = some (.type "type"))
    (sb_BadPlan_TooMany : PySem.W.subIn K (.ref c_BadPlan) (.ref c_TooMany) = some false)
    (hd_NoPlan : PySem.W.hasDictIn K c_NoPlan = true)
    (ty_NoPlan : PySem.W.typeIn K (.ref c_NoPlan) = some (.type "type"))
    (sb_BadPlan_NoPlan : PySem.W.subIn K (.ref c_BadPlan) (.ref c_NoPlan) = some false)
    (hd_BadPlan : PySem.W.hasDictIn K c_BadPlan = true)
    (ty_BadPlan : PySem.W.typeIn K (.ref c_BadPlan) = some (.type "type"))
    (sb_BadPlan_ValueError : PySem.W.subIn K (.ref c_BadPlan) (.type "ValueError") = some true)
    (hd_TuneError : PySem.W.hasDictIn K c_TuneError = true)
    (ty_TuneError : PySem.W.typeIn K (.ref c_TuneError) = some (.type "type"))
    (sb_BadPlan_TuneError : PySem.W.subIn K (.ref c_BadPlan) (.ref c_TuneError) = some true)
    (be_TuneError : PySem.W.subIn K (.ref c_TuneError) (.type "BaseException") = some true)
    : ∃ fd : FuncData, (∀ (s : Shared) (v : Value), BindsTo s fd ⟨[v], []⟩ [("_law_script", v)]) ∧ ∀ base : Heap, K.In base → base.Ns mainGlobals mg → Gd.FnG l.prog w K mg base CX0 6 fa fd ["_law_script"] (SpX K (gof []) [] none g_law) := by
  have e := hfa.symm.trans (PySem.W.mg_of X G a20)
  cases e
  have F1 := fun_mk (st := s_is_whole) l1 c1 k1
  have b1 := F1.binds (ps := ["thing", "low", "high"]) fun _ _ _ _ _ _ us hl => match us, hl with | [_, _, _], _ => rfl
  have F2 := fun_mk (st := s_are_whole) l2 c2 k2
  have b2 := F2.binds (ps := ["things", "count", "low", "high"]) fun _ _ _ _ _ _ us hl => match us, hl with | [_, _, _, _], _ => rfl
  have F3 := fun_mk (st := s_need_plan) l3 c3 k3
  have b3 := F3.binds (ps := ["web", "plan"]) fun _ _ _ _ _ _ us hl => match us, hl with | [_, _], _ => rfl
  have F4 := fun_mk (st := s_fault_of) l4 c4 k4
  have b4 := F4.binds (ps := ["web", "plan"]) fun _ _ _ _ _ _ us hl => match us, hl with | [_, _], _ => rfl
  have F5 := fun_mk (st := s_fault_at) l5 c5 k5
  have b5 := F5.binds (ps := ["web", "plan", "i"]) fun _ _ _ _ _ _ us hl => match us, hl with | [_, _, _], _ => rfl
  have F6 := fun_mk (st := s_left_for) l6 c6 k6
  have b6 := F6.binds (ps := ["web", "given", "i", "many"]) fun _ _ _ _ _ _ us hl => match us, hl with | [_, _, _, _], _ => rfl
  have F7 := fun_mk (st := s_tunes_near) l7 c7 k7
  have b7 := F7.binds (ps := ["tune", "gap"]) fun _ _ _ _ _ _ us hl => match us, hl with | [_, _], _ => rfl
  have F8 := fun_mk (st := s__law_cell) l8 c8 k8
  have b8 := F8.binds (ps := ["_law_script", "_law_k"]) fun _ _ _ _ _ _ us hl => match us, hl with | [_, _], _ => rfl
  have F9 := fun_mk (st := s__law_mixed) l9 c9 k9
  have b9 := F9.binds (ps := ["_law_number", "_law_k"]) fun _ _ _ _ _ _ us hl => match us, hl with | [_, _], _ => rfl
  have F10 := fun_mk (st := s__law_next) l10 c10 k10
  have b10 := F10.binds (ps := ["_law_draw"]) fun _ _ _ _ _ _ us hl => match us, hl with | [_], _ => rfl
  have F11 := fun_mk (st := s__law_names) l11 c11 k11
  have b11 := F11.binds (ps := ["_law_number"]) fun _ _ _ _ _ _ us hl => match us, hl with | [_], _ => rfl
  have F12 := fun_mk (st := s__law_gaps) l12 c12 k12
  have b12 := F12.binds (ps := ["_law_draw", "_law_many", "_law_most"]) fun _ _ _ _ _ _ us hl => match us, hl with | [_, _, _], _ => rfl
  have F13 := fun_mk (st := s__law_web) l13 c13 k13
  have b13 := F13.binds (ps := ["_law_draw", "_law_stations", "_law_tunes", "_law_most"]) fun _ _ _ _ _ _ us hl => match us, hl with | [_, _, _, _], _ => rfl
  have F14 := fun_mk (st := s__law_left) l14 c14 k14
  have b14 := F14.binds (ps := ["_law_web_here", "_law_given", "_law_i", "_law_many"]) fun _ _ _ _ _ _ us hl => match us, hl with | [_, _, _, _], _ => rfl
  have F15 := fun_mk (st := s__law_fault) l15 c15 k15
  have b15 := F15.binds (ps := ["_law_web_here", "_law_plan_here"]) fun _ _ _ _ _ _ us hl => match us, hl with | [_, _], _ => rfl
  have F16 := fun_mk (st := s__law_plan) l16 c16 k16
  have b16 := F16.binds (ps := ["_law_draw", "_law_web_here"]) fun _ _ _ _ _ _ us hl => match us, hl with | [_, _], _ => rfl
  have F17 := fun_mk (st := s__law_no_plan) l17 c17 k17
  have b17 := F17.binds (ps := ["_law_web_here", "_law_plan_here", "_law_number"]) fun _ _ _ _ _ _ us hl => match us, hl with | [_, _, _], _ => rfl
  have F18 := fun_mk (st := s__law_refused) l18 c18 k18
  have b18 := F18.binds (ps := ["_law_web_here", "_law_thing", "_law_which"]) fun _ _ _ _ _ _ us hl => match us, hl with | [_, _, _], _ => rfl
  have F19 := fun_mk (st := s__law_all_left) l19 c19 k19
  have b19 := F19.binds (ps := ["_law_web_here", "_law_plan_here", "_law_number"]) fun _ _ _ _ _ _ us hl => match us, hl with | [_, _, _], _ => rfl
  have F20 := fun_mk (st := s_law) l20 c20 k20
  have b20 := F20.binds (ps := ["_law_script"]) fun _ _ _ _ _ _ us hl => match us, hl with | [_], _ => rfl
  exact ⟨_, fun s v => .of_eq rfl, fun base _ _ => ok_law (T := { c_BadPlan := c_BadPlan, gc_BadPlan := PySem.W.mg_of X G nn_BadPlan, nc_BadPlan := nn_BadPlan, x_BadPlan := x_BadPlan, kc_BadPlan := kc_BadPlan, bc_BadPlan := bc_BadPlan, tc_BadPlan := tc_BadPlan, ec_BadPlan := ⟨ehg_BadPlan, ehk_BadPlan, bc_BadPlan, ehd_BadPlan, eha_BadPlan, ehn_BadPlan, eht_BadPlan, ehm_BadPlan⟩, c_TuneError := c_TuneError, gc_TuneError := PySem.W.mg_of X G nn_TuneError, c_BadShown := c_BadShown, gc_BadShown := PySem.W.mg_of X G nn_BadShown, c_BadNumber := c_BadNumber, gc_BadNumber := PySem.W.mg_of X G nn_BadNumber, c_BadLine := c_BadLine, gc_BadLine := PySem.W.mg_of X G nn_BadLine, c_Lacking := c_Lacking, gc_Lacking := PySem.W.mg_of X G nn_Lacking, c_BadWeb := c_BadWeb, gc_BadWeb := PySem.W.mg_of X G nn_BadWeb, c_BadText := c_BadText, gc_BadText := PySem.W.mg_of X G nn_BadText, c_Twice := c_Twice, gc_Twice := PySem.W.mg_of X G nn_Twice, c_TooMany := c_TooMany, gc_TooMany := PySem.W.mg_of X G nn_TooMany, c_NoPlan := c_NoPlan, gc_NoPlan := PySem.W.mg_of X G nn_NoPlan, kt_BadPlan_BadShown := (Xq.kit_own hd_BadShown ty_BadShown sb_BadPlan_BadShown sb_BadPlan_BadPlan), kt_BadPlan_BadNumber := (Xq.kit_own hd_BadNumber ty_BadNumber sb_BadPlan_BadNumber sb_BadPlan_BadPlan), kt_BadPlan_BadLine := (Xq.kit_own hd_BadLine ty_BadLine sb_BadPlan_BadLine sb_BadPlan_BadPlan), kt_BadPlan_Lacking := (Xq.kit_own hd_Lacking ty_Lacking sb_BadPlan_Lacking sb_BadPlan_BadPlan), kt_BadPlan_BadWeb := (Xq.kit_own hd_BadWeb ty_BadWeb sb_BadPlan_BadWeb sb_BadPlan_BadPlan), kt_BadPlan_BadText := (Xq.kit_own hd_BadText ty_BadText sb_BadPlan_BadText sb_BadPlan_BadPlan), kt_BadPlan_Twice := (Xq.kit_own hd_Twice ty_Twice sb_BadPlan_Twice sb_BadPlan_BadPlan), kt_BadPlan_TooMany := (Xq.kit_own hd_TooMany ty_TooMany sb_BadPlan_TooMany sb_BadPlan_BadPlan), kt_BadPlan_NoPlan := (Xq.kit_own hd_NoPlan ty_NoPlan sb_BadPlan_NoPlan sb_BadPlan_BadPlan), kt_BadPlan_BadPlan := (Xq.kit_own hd_BadPlan ty_BadPlan sb_BadPlan_BadPlan sb_BadPlan_BadPlan), kt_BadPlan_ValueError := (Xq.kit_type (by decide +kernel) sb_BadPlan_ValueError), em_BadPlan_TuneError := PySem.W.exm_ref be_TuneError hd_TuneError ty_TuneError sb_BadPlan_TuneError, f_is_whole := _, fd_is_whole := _, F_is_whole := F1, B_is_whole := b1, G_is_whole := PySem.W.mg_of X G a1, f_are_whole := _, fd_are_whole := _, F_are_whole := F2, B_are_whole := b2, G_are_whole := PySem.W.mg_of X G a2, f_need_plan := _, fd_need_plan := _, F_need_plan := F3, B_need_plan := b3, G_need_plan := PySem.W.mg_of X G a3, f_fault_of := _, fd_fault_of := _, F_fault_of := F4, B_fault_of := b4, G_fault_of := PySem.W.mg_of X G a4, f_fault_at := _, fd_fault_at := _, F_fault_at := F5, B_fault_at := b5, G_fault_at := PySem.W.mg_of X G a5, f_left_for := _, fd_left_for := _, F_left_for := F6, B_left_for := b6, G_left_for := PySem.W.mg_of X G a6, f_tunes_near := _, fd_tunes_near := _, F_tunes_near := F7, B_tunes_near := b7, G_tunes_near := PySem.W.mg_of X G a7, f__law_cell := _, fd__law_cell := _, F__law_cell := F8, B__law_cell := b8, G__law_cell := PySem.W.mg_of X G a8, f__law_mixed := _, fd__law_mixed := _, F__law_mixed := F9, B__law_mixed := b9, G__law_mixed := PySem.W.mg_of X G a9, f__law_next := _, fd__law_next := _, F__law_next := F10, B__law_next := b10, G__law_next := PySem.W.mg_of X G a10, f__law_names := _, fd__law_names := _, F__law_names := F11, B__law_names := b11, G__law_names := PySem.W.mg_of X G a11, f__law_gaps := _, fd__law_gaps := _, F__law_gaps := F12, B__law_gaps := b12, G__law_gaps := PySem.W.mg_of X G a12, f__law_web := _, fd__law_web := _, F__law_web := F13, B__law_web := b13, G__law_web := PySem.W.mg_of X G a13, f__law_left := _, fd__law_left := _, F__law_left := F14, B__law_left := b14, G__law_left := PySem.W.mg_of X G a14, f__law_fault := _, fd__law_fault := _, F__law_fault := F15, B__law_fault := b15, G__law_fault := PySem.W.mg_of X G a15, f__law_plan := _, fd__law_plan := _, F__law_plan := F16, B__law_plan := b16, G__law_plan := PySem.W.mg_of X G a16, f__law_no_plan := _, fd__law_no_plan := _, F__law_no_plan := F17, B__law_no_plan := b17, G__law_no_plan := PySem.W.mg_of X G a17, f__law_refused := _, fd__law_refused := _, F__law_refused := F18, B__law_refused := b18, G__law_refused := PySem.W.mg_of X G a18, f__law_all_left := _, fd__law_all_left := _, F__law_all_left := F19, B__law_all_left := b19, G__law_all_left := PySem.W.mg_of X G a19, f_law := _, fd_law := _, F_law := F20, B_law := b20, G_law := PySem.W.mg_of X G a20, b_ValueError := PySem.W.mg_none_of X G z_ValueError, b_abs := PySem.W.mg_none_of X G z_abs, b_all := PySem.W.mg_none_of X G z_all, b_bool := PySem.W.mg_none_of X G z_bool, b_enumerate := PySem.W.mg_none_of X G z_enumerate, b_int := PySem.W.mg_none_of X G z_int, b_isinstance := PySem.W.mg_none_of X G z_isinstance, b_len := PySem.W.mg_none_of X G z_len, b_list := PySem.W.mg_none_of X G z_list, b_max := PySem.W.mg_none_of X G z_max, b_range := PySem.W.mg_none_of X G z_range, b_repr := PySem.W.mg_none_of X G z_repr, b_str := PySem.W.mg_none_of X G z_str, b_sum := PySem.W.mg_none_of X G z_sum, b_tuple := PySem.W.mg_none_of X G z_tuple, b_zip := PySem.W.mg_none_of X G z_zip })⟩
theorem law_sp {K : PySem.W.Frag} {H : Hp} {a : Addr} {ns : List Int} (hl : ns.length ≤ 63) (hS : SqL K H a (ns.map V.int)) : SpX K (gof []) [] none g_law [.ref a] H (fun v _ => v = .bl true) fun _ _ _ => False := by
  obtain ⟨post, h⟩ := law_all ns hl
  refine ⟨⟨H, [], []⟩, fun _ => [], [scr ns], .bool true, post, ⟨Same.refl _, (fun _ z => nomatch z), (fun _ z => nomatch z), (fun _ z => nomatch z), rfl, fun i d hd _ => ?_, (fun _ z => nomatch z), (fun _ z => nomatch z)⟩, rfl, h, fun f' v H' r' hr => ?_⟩
  · cases i with
    | zero =>
      cases hd
      exact ⟨_, rfl, .scr (by show SqL K (rm [] H) a _; rw [rm_nil]; exact hS)⟩
    | succ i => cases hd
  · have hr : DO K (Sv.hid [] [] f') H' v (.bool true) := hr
    exact dp_bl hr.low
end K11
open PySem PySem.W PyProof.Rows
set_option maxHeartbeats 0 in
theorem PySem.Challenge.cw_tunehall_k11_plans_looked_at_holds : PySem.Challenge.rw_tunehall_k11_plans_looked_at.Holds := by
  w_on; o_law; k_head; (case hw => w_witness2)
  k_fill
  refine Gd.walkG (l := PySem.Challenge.rw_tunehall_k11_plans_looked_at) (n := 63) (k := 6) (x := "_law_script") (sp := fun w => Sv.SpX _ (Sv.gof []) [] none K11.g_law) rfl (by decide) rfl ⟨rfl, by decide, by decide⟩ (fun w h Y => PySem.W.kIn_of Y) ?F (fun _ _ _ _ hl _ hS => K11.law_sp hl hS)
  case F =>
    intro w mg fa h KX G hmg
    refine' K11.all_mk KX G hmg ?a1 ?l1 ?c1 ?k1 ?a2 ?l2 ?c2 ?k2 ?a3 ?l3 ?c3 ?k3 ?a4 ?l4 ?c4 ?k4 ?a5 ?l5 ?c5 ?k5 ?a6 ?l6 ?c6 ?k6 ?a7 ?l7 ?c7 ?k7 ?a8 ?l8 ?c8 ?k8 ?a9 ?l9 ?c9 ?k9 ?a10 ?l10 ?c10 ?k10 ?a11 ?l11 ?c11 ?k11 ?a12 ?l12 ?c12 ?k12 ?a13 ?l13 ?c13 ?k13 ?a14 ?l14 ?c14 ?k14 ?a15 ?l15 ?c15 ?k15 ?a16 ?l16 ?c16 ?k16 ?a17 ?l17 ?c17 ?k17 ?a18 ?l18 ?c18 ?k18 ?a19 ?l19 ?c19 ?k19 ?a20 ?l20 ?c20 ?k20 ?z_ValueError ?z_abs ?z_all ?z_bool ?z_enumerate ?z_int ?z_isinstance ?z_len ?z_list ?z_max ?z_range ?z_repr ?z_str ?z_sum ?z_tuple ?z_zip ?nn_BadPlan ?x_BadPlan ?kc_BadPlan ?bc_BadPlan ?tc_BadPlan ?ehg_BadPlan ?ehk_BadPlan ?ehd_BadPlan ?eha_BadPlan ?ehn_BadPlan ?eht_BadPlan ?ehm_BadPlan ?nn_TuneError ?nn_BadShown ?nn_BadNumber ?nn_BadLine ?nn_Lacking ?nn_BadWeb ?nn_BadText ?nn_Twice ?nn_TooMany ?nn_NoPlan ?sb_BadPlan_BadPlan ?hd_BadShown ?ty_BadShown ?sb_BadPlan_BadShown ?hd_BadNumber ?ty_BadNumber ?sb_BadPlan_BadNumber ?hd_BadLine ?ty_BadLine ?sb_BadPlan_BadLine ?hd_Lacking ?ty_Lacking ?sb_BadPlan_Lacking ?hd_BadWeb ?ty_BadWeb ?sb_BadPlan_BadWeb ?hd_BadText ?ty_BadText ?sb_BadPlan_BadText ?hd_Twice ?ty_Twice ?sb_BadPlan_Twice ?hd_TooMany ?ty_TooMany ?sb_BadPlan_TooMany ?hd_NoPlan ?ty_NoPlan ?sb_BadPlan_NoPlan ?hd_BadPlan ?ty_BadPlan ?sb_BadPlan_ValueError ?hd_TuneError ?ty_TuneError ?sb_BadPlan_TuneError ?be_TuneError
    (case a1 => k_is); (case l1 => k_is); (case c1 => k_is); (case k1 => k_is); (case a2 => k_is); (case l2 => k_is); (case c2 => k_is); (case k2 => k_is); (case a3 => k_is); (case l3 => k_is); (case c3 => k_is); (case k3 => k_is); (case a4 => k_is); (case l4 => k_is); (case c4 => k_is); (case k4 => k_is); (case a5 => k_is); (case l5 => k_is); (case c5 => k_is); (case k5 => k_is); (case a6 => k_is); (case l6 => k_is); (case c6 => k_is); (case k6 => k_is); (case a7 => k_is); (case l7 => k_is); (case c7 => k_is); (case k7 => k_is); (case a8 => k_is); (case l8 => k_is); (case c8 => k_is); (case k8 => k_is); (case a9 => k_is); (case l9 => k_is); (case c9 => k_is); (case k9 => k_is); (case a10 => k_is); (case l10 => k_is); (case c10 => k_is); (case k10 => k_is); (case a11 => k_is); (case l11 => k_is); (case c11 => k_is); (case k11 => k_is); (case a12 => k_is); (case l12 => k_is); (case c12 => k_is); (case k12 => k_is); (case a13 => k_is); (case l13 => k_is); (case c13 => k_is); (case k13 => k_is); (case a14 => k_is); (case l14 => k_is); (case c14 => k_is); (case k14 => k_is); (case a15 => k_is); (case l15 => k_is); (case c15 => k_is); (case k15 => k_is); (case a16 => k_is); (case l16 => k_is); (case c16 => k_is); (case k16 => k_is); (case a17 => k_is); (case l17 => k_is); (case c17 => k_is); (case k17 => k_is); (case a18 => k_is); (case l18 => k_is); (case c18 => k_is); (case k18 => k_is); (case a19 => k_is); (case l19 => k_is); (case c19 => k_is); (case k19 => k_is); (case a20 => k_is); (case l20 => k_is); (case c20 => k_is); (case k20 => k_is); (case z_ValueError => k_is); (case z_abs => k_is); (case z_all => k_is); (case z_bool => k_is); (case z_enumerate => k_is); (case z_int => k_is); (case z_isinstance => k_is); (case z_len => k_is); (case z_list => k_is); (case z_max => k_is); (case z_range => k_is); (case z_repr => k_is); (case z_str => k_is); (case z_sum => k_is); (case z_tuple => k_is); (case z_zip => k_is); (case nn_BadPlan => k_is); (case x_BadPlan => k_exc); (case kc_BadPlan => k_is); (case bc_BadPlan => k_is); (case tc_BadPlan => k_is); (case ehg_BadPlan => k_is); (case ehk_BadPlan => k_is); (case ehd_BadPlan => k_is); (case eha_BadPlan => k_is); (case ehn_BadPlan => k_is); (case eht_BadPlan => k_is); (case ehm_BadPlan => k_is); (case nn_TuneError => k_is); (case nn_BadShown => k_is); (case nn_BadNumber => k_is); (case nn_BadLine => k_is); (case nn_Lacking => k_is); (case nn_BadWeb => k_is); (case nn_BadText => k_is); (case nn_Twice => k_is); (case nn_TooMany => k_is); (case nn_NoPlan => k_is); (case sb_BadPlan_BadPlan => k_is); (case hd_BadShown => k_is); (case ty_BadShown => k_is); (case sb_BadPlan_BadShown => k_is); (case hd_BadNumber => k_is); (case ty_BadNumber => k_is); (case sb_BadPlan_BadNumber => k_is); (case hd_BadLine => k_is); (case ty_BadLine => k_is); (case sb_BadPlan_BadLine => k_is); (case hd_Lacking => k_is); (case ty_Lacking => k_is); (case sb_BadPlan_Lacking => k_is); (case hd_BadWeb => k_is); (case ty_BadWeb => k_is); (case sb_BadPlan_BadWeb => k_is); (case hd_BadText => k_is); (case ty_BadText => k_is); (case sb_BadPlan_BadText => k_is); (case hd_Twice => k_is); (case ty_Twice => k_is); (case sb_BadPlan_Twice => k_is); (case hd_TooMany => k_is); (case ty_TooMany => k_is); (case sb_BadPlan_TooMany => k_is); (case hd_NoPlan => k_is); (case ty_NoPlan => k_is); (case sb_BadPlan_NoPlan => k_is); (case hd_BadPlan => k_is); (case ty_BadPlan => k_is); (case sb_BadPlan_ValueError => k_is); (case hd_TuneError => k_is); (case ty_TuneError => k_is); (case sb_BadPlan_TuneError => k_is); (case be_TuneError => k_is)

