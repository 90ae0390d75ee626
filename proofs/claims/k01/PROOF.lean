import PyProof.Rows.All
import Wide.All
import OpenK.AllK
import Wide.FinOn
import HandS.Base
import HandS.Call
import HandS.List
import HandS.Comp
import HandS.Ends
import HandS.Dict
import HandS.Iter
import HandS.Text
import HandS.Words
import HandS.WordsList
import HandS.IsInst
import HandS.Walk
import HandS.TupAny
import HandS.StrMore
import HandS.Evl
import PySem.Challenge.RW_tunehall_k01_names_numbers_words
set_option Elab.async false
set_option linter.all false
set_option maxRecDepth 100000
set_option maxHeartbeats 4000000
namespace Pre
open PySem PySem.Spec PyProof.Rows L2
/-- a text of these signs -/
abbrev tx (l : List Nat) : Str := ⟨l.toArray⟩
theorem tx_len (l : List Nat) : (tx l).length = l.length := by simp [tx, PySem.Str.length]
theorem tx_of (z : Str) : tx z.cps.toList = z := by cases z; simp [tx]
theorem tx_tl (l : List Nat) : (tx l).cps.toList = l := rfl
theorem tx_inj {a b : List Nat} : tx a = tx b ↔ a = b := ⟨fun h => by have := congrArg (fun z : Str => z.cps.toList) h; simpa using this, fun h => by rw [h]⟩
theorem sz {n : Nat} (h : n ≤ 100000) : n ≤ sizeLine := Nat.le_trans h (by decide)
theorem szl {n : Nat} (h : n < 100000) : n < sizeLine := Nat.lt_of_lt_of_le h (by decide)
theorem same_new {H : Hp} {p : Addr} {o : HO} (h : H p = none) : Same H (upd H p o) := fun b x e => by
  rw [upd_ne (ne_of_none e h)]
  exact e
theorem same_mut {H H' : Hp} {p : Addr} {o : HO} (s : Same H H') (h : H p = none) : Same H (upd H' p o) := fun b x e => by
  rw [upd_ne (ne_of_none e h)]
  exact s _ _ e
/-- [e for c in text if t]: test and element pure, the heap as it is -/
theorem lc_text {i : Nat} {tl : TE} {tt : TT} {te : TE} {σ : L2.St} {H : Hp} {Q : VK} (l : List Nat) (p : Nat → Bool) (f : Nat → V) (hl : l.length ≤ 50000)
    (hj : ∀ R : V → Hp → Prop, R (.str (tx l)) H → tl σ H R) (hw : ∀ x, wipe ((wipe σ [i]).set i (some x)) [i] = wipe σ [i])
    (ht : ∀ c ∈ l, ∀ (H' : Hp) (R : Bool → Hp → Prop), R (p c) H' → tt ((wipe σ [i]).set i (some (.str (tx [c])))) H' R)
    (he : ∀ c ∈ l, p c = true → ∀ (H' : Hp) (R : VK), R (f c) H' → te ((wipe σ [i]).set i (some (.str (tx [c])))) H' R)
    (q : ∀ (D : Addr) (H' : Hp), H D = none → Same H H' → H' D = some (.lst ((l.filter p).map f)) → Q (.ref D) H') : tLc (iStr tl) (gName i) tt te [i] σ H Q := by
  refine hj _ ⟨_, rfl, fun D hD => ?_⟩
  refine lc_it walk_str (fun k H' => Same H H' ∧ H' D = some (.lst (((l.take k).filter p).map f))) ⟨same_new hD, by rw [upd_same]; rfl⟩ (fun _ _ _ _ => trivial) (fun k x H1 H2 hk hP hY => ?_) (fun H' hP => ?_)
  · obtain ⟨rfl, c, hc, rfl⟩ := hY
    obtain ⟨s1, h1⟩ := hP
    have hc' : l[k]? = some c := by simpa using hc
    have hm : c ∈ l := List.mem_of_getElem? hc'
    refine ⟨hw _, ht c hm _ _ ?_⟩
    have hkl : k < l.length := by
      have e : (tx l).cps.size = l.length := by simp
      omega
    have e2 : l.take (k + 1) = l.take k ++ [c] := by
      rw [List.take_add_one, hc']
      rfl
    by_cases hp : p c = true
    · rw [if_pos hp]
      refine he c hm hp _ _ ⟨_, h1, szl ?_, same_mut s1 hD, ?_⟩
      · have := List.length_filter_le p (l.take k)
        rw [List.length_map]
        have e3 : (l.take k).length ≤ l.length := List.length_take_le' _ _
        omega
      · rw [upd_same, e2, List.filter_append, List.map_append]
        simp [hp]
    · rw [if_neg hp]
      refine ⟨s1, ?_⟩
      rw [h1, e2, List.filter_append, List.map_append]
      simp [hp]
  · obtain ⟨s1, h1⟩ := hP
    have e : (tx l).cps.size = l.length := by simp
    rw [e, List.take_length] at h1
    exact q D H' hD s1 h1
/-- [e for x in list if t] over a list that stands -/
theorem lc_lst {i : Nat} {K : PySem.W.Frag} {tl : TE} {tt : TT} {te : TE} {σ : L2.St} {H : Hp} {Q : VK} (xs : List V) (p : V → Bool) (f : V → V) (hl : xs.length ≤ 50000)
    (hj : ∀ R : V → Hp → Prop, (∀ a H', Same H H' → SqL K H' a xs → R (.ref a) H') → tl σ H R) (hw : ∀ x, wipe ((wipe σ [i]).set i (some x)) [i] = wipe σ [i])
    (ht : ∀ x ∈ xs, ∀ (H' : Hp) (R : Bool → Hp → Prop), Same H H' → R (p x) H' → tt ((wipe σ [i]).set i (some x)) H' R)
    (he : ∀ x ∈ xs, p x = true → ∀ (H' : Hp) (R : VK), Same H H' → R (f x) H' → te ((wipe σ [i]).set i (some x)) H' R)
    (q : ∀ (D : Addr) (H' : Hp), H D = none → Same H H' → H' D = some (.lst ((xs.filter p).map f)) → Q (.ref D) H') : tLc (iList K tl) (gName i) tt te [i] σ H Q := by
  refine hj _ fun a H0 s0 hA => ⟨a, rfl, ⟨xs, hA⟩, fun D hD => ?_⟩
  refine lc_it (walk_list (xs := xs)) (fun k H' => Same H0 H' ∧ H' D = some (.lst (((xs.take k).filter p).map f))) ⟨same_new hD, by rw [upd_same]; rfl⟩ (fun _ _ _ hP => hP.1.seq hA) (fun k x H1 H2 hk hP hY => ?_) (fun H' hP => ?_)
  · obtain ⟨rfl, hc⟩ := hY
    obtain ⟨s1, h1⟩ := hP
    have hm : x ∈ xs := List.mem_of_getElem? hc
    refine ⟨hw _, ht x hm _ _ (s0.trans s1) ?_⟩
    have e2 : xs.take (k + 1) = xs.take k ++ [x] := by
      rw [List.take_add_one, hc]
      rfl
    by_cases hp : p x = true
    · rw [if_pos hp]
      refine he x hm hp _ _ (s0.trans s1) ⟨_, h1, szl ?_, same_mut s1 hD, ?_⟩
      · have := List.length_filter_le p (xs.take k)
        rw [List.length_map]
        have e3 : (xs.take k).length ≤ xs.length := List.length_take_le' _ _
        omega
      · rw [upd_same, e2, List.filter_append, List.map_append]
        simp [hp]
    · rw [if_neg hp]
      refine ⟨s1, ?_⟩
      rw [h1, e2, List.filter_append, List.map_append]
      simp [hp]
  · obtain ⟨s1, h1⟩ := hP
    rw [List.take_length] at h1
    exact q D H' (s0.free hD) (s0.trans s1) h1
theorem atI_lt {α : Type} {xs : List α} {i : Int} (h0 : 0 ≤ i) (h1 : i < xs.length) : ∃ v, atI xs i = some v ∧ v ∈ xs := by
  obtain ⟨n, rfl⟩ := Int.eq_ofNat_of_zero_le h0
  have hn : n < xs.length := by omega
  exact ⟨xs[n], atI_nat (by simp [hn]), List.getElem_mem hn⟩
theorem atI_zero {α : Type} {c : α} {r : List α} : atI (c :: r) 0 = some c := atI_nat (j := 0) rfl
theorem filt_true {α : Type} (l : List α) : l.filter (fun _ => true) = l := List.filter_eq_self.2 (by simp)
theorem takesNo {X : Cx} : Takes X (fun _ _ _ _ => False) := fun _ _ x => by
  obtain ⟨_, _, _, _, _, _, _, _, _, _, _, _, _, _, _, _, z⟩ := x
  exact z.elim
/-! lists of texts, by == -/
/-- signs below 128 -/
def Asc (l : List Nat) : Prop := ∀ c ∈ l, c < 128
def AscS (z : Str) : Prop := Asc z.cps.toList
theorem ascOk {z : Str} (h : AscS z) : PyData.strOk z = true := by
  unfold PyData.strOk
  rw [← Array.all_toList, List.all_eq_true]
  intro c hc
  have := h c hc
  exact decide_eq_true (by omega)
theorem canAll_strs {ss : List Str} (h : ∀ z ∈ ss, AscS z) : PyData.canLayAll0 (ss.map .str) = true := by
  induction ss with
  | nil => rfl
  | cons a r ih => simp [PyData.canLayAll0, PyData.canLay0, ih (fun z hz => h z (List.mem_cons_of_mem _ hz)), ascOk (h a List.mem_cons_self)]
theorem depthAll_strs (ss : List Str) : PyData.depthAll (ss.map .str) ≤ 1 := by
  induction ss with
  | nil => simp [PyData.depthAll]
  | cons a r ih => simp [PyData.depthAll, PyData.depth, ih]
theorem shaped_strs {ss : List Str} (h : ∀ z ∈ ss, AscS z) : SeqAt.shaped (.list (ss.map .str)) = true := by
  have h1 := depthAll_strs ss
  refine Bool.and_eq_true_iff.mpr ⟨by simp only [PyData.canLay0, canAll_strs h], decide_eq_true ?_⟩
  simp only [PyData.depth]
  omega
theorem eqvAll_strs : ∀ (a b : List Str), PyData.eqvAll (a.map .str) (b.map .str) = decide (a = b)
  | [], [] => by simp [PyData.eqvAll]
  | [], _ :: _ => by simp [PyData.eqvAll]
  | _ :: _, [] => by simp [PyData.eqvAll]
  | x :: r, y :: t => by
    have ih := eqvAll_strs r t
    simp only [List.map_cons, PyData.eqvAll, PyData.eqv, ih]
    by_cases h : x = y <;> by_cases h2 : r = t <;> simp [h, h2]
theorem eqv_strs (a b : List Str) : PyData.eqv (.list (a.map .str)) (.list (b.map .str)) = decide (a = b) := by
  simp only [PyData.eqv, eqvAll_strs]
theorem dpAll_strs {K : PySem.W.Frag} {H : Hp} : ∀ ss : List Str, DpAll K H (ss.map V.str) (ss.map .str)
  | [] => .nil
  | _ :: r => .cons (.str _) (dpAll_strs r)
theorem dp_strs {K : PySem.W.Frag} {H : Hp} {p : Addr} {ss : List Str} (h : SqL K H p (ss.map V.str)) : Dp K H (.ref p) (.list (ss.map .str)) := .lst h (dpAll_strs ss)
/-! slices, items -/
theorem cutS_tx (l : List Nat) (lo hi : Option Int) : ∃ k, cutS (tx l) lo hi = tx k ∧ (∀ c ∈ k, c ∈ l) ∧ k.length ≤ l.length :=
  ⟨_, rfl, fun c hc => List.mem_of_mem_drop (List.mem_of_mem_take hc), by simp only [List.length_take, List.length_drop]; omega⟩
theorem cutS_one (l : List Nat) : cutS (tx l) (some 1) none = tx l.tail := by
  unfold cutS
  rw [show HT.sIx (tx l).length 0 (some 1) = min 1 (tx l).length from HT.sIx_nat (tx l).length 0 1, HT.sIx_none, tx_len]
  cases l with
  | nil => rfl
  | cons c r =>
    rw [show min 1 (c :: r).length = 1 by rw [List.length_cons]; omega]
    show tx (List.take ((c :: r).length - 1) r) = tx r
    rw [List.length_cons, Nat.add_sub_cancel, List.take_length]
theorem starts_one (l : List Nat) (s : Nat) : Txt.startswith (tx l) (tx [s]) = decide (l.head? = some s) := by
  unfold Txt.startswith
  rw [StrLaws.subAt_eq, tx_len, tx_len]
  cases l with
  | nil => simp
  | cons c r =>
    simp [Bool.beq_eq_decide_eq]
theorem tx_app (a b : List Nat) : tx a ++ tx b = tx (a ++ b) := TL.ext_tl (by rw [TL.tl_append])
end Pre

namespace K01
open PySem L2
def topS (i : Nat) : Stmt := PySem.Challenge.pw_tunehall_k01_names_numbers_words.main.body.getD i (.Pass ⟨0, 0, 0, 0⟩)
abbrev s_is_name : Stmt := topS 6
abbrev n_is_name : List Str := ["thing", "sign"]
theorem sc_is_name : FnScope n_is_name ["thing"] (defScope s_is_name) := ⟨rfl, rfl, rfl, by decide +kernel, rfl, by decide +kernel, by decide +kernel⟩
abbrev s_number_in : Stmt := topS 7
abbrev n_number_in : List Str := ["word", "figures", "sign"]
theorem sc_number_in : FnScope n_number_in ["word"] (defScope s_number_in) := ⟨rfl, rfl, rfl, by decide +kernel, rfl, by decide +kernel, by decide +kernel⟩
abbrev s_words_of : Stmt := topS 8
abbrev n_words_of : List Str := ["row", "told", "word"]
theorem sc_words_of : FnScope n_words_of ["row"] (defScope s_words_of) := ⟨rfl, rfl, rfl, by decide +kernel, rfl, by decide +kernel, by decide +kernel⟩
abbrev s__law_mixed : Stmt := topS 10
abbrev n__law_mixed : List Str := ["_law_cell", "_law_k", "_law_number_here"]
theorem sc__law_mixed : FnScope n__law_mixed ["_law_cell", "_law_k"] (defScope s__law_mixed) := ⟨rfl, rfl, rfl, by decide +kernel, rfl, by decide +kernel, by decide +kernel⟩
abbrev s__law_signs : Stmt := topS 11
abbrev n__law_signs : List Str := ["_law_some"]
theorem sc__law_signs : FnScope n__law_signs [] (defScope s__law_signs) := ⟨rfl, rfl, rfl, by decide +kernel, rfl, by decide +kernel, by decide +kernel⟩
abbrev s__law_is_name : Stmt := topS 12
abbrev n__law_is_name : List Str := ["_law_thing", "_law_bad", "_law_sign"]
theorem sc__law_is_name : FnScope n__law_is_name ["_law_thing"] (defScope s__law_is_name) := ⟨rfl, rfl, rfl, by decide +kernel, rfl, by decide +kernel, by decide +kernel⟩
abbrev s__law_number : Stmt := topS 13
abbrev n__law_number : List Str := ["_law_word_here", "_law_left", "_law_turn", "_law_sign", "_law_found"]
theorem sc__law_number : FnScope n__law_number ["_law_word_here"] (defScope s__law_number) := ⟨rfl, rfl, rfl, by decide +kernel, rfl, by decide +kernel, by decide +kernel⟩
abbrev s__law_name : Stmt := topS 14
abbrev n__law_name : List Str := ["_law_number_here", "_law_letters", "_law_size", "_law_word_here", "_law_k", "_law_at", "_law_told"]
theorem sc__law_name : FnScope n__law_name ["_law_number_here"] (defScope s__law_name) := ⟨rfl, rfl, rfl, by decide +kernel, rfl, by decide +kernel, by decide +kernel⟩
abbrev s__law_figures : Stmt := topS 15
abbrev n__law_figures : List Str := ["_law_number_here", "_law_size", "_law_word_here", "_law_head"]
theorem sc__law_figures : FnScope n__law_figures ["_law_number_here"] (defScope s__law_figures) := ⟨rfl, rfl, rfl, by decide +kernel, rfl, by decide +kernel, by decide +kernel⟩
abbrev s__law_word : Stmt := topS 16
abbrev n__law_word : List Str := ["_law_number_here"]
theorem sc__law_word : FnScope n__law_word ["_law_number_here"] (defScope s__law_word) := ⟨rfl, rfl, rfl, by decide +kernel, rfl, by decide +kernel, by decide +kernel⟩
abbrev s__law_words : Stmt := topS 17
abbrev n__law_words : List Str := ["_law_row", "_law_found", "_law_word_here", "_law_sign"]
theorem sc__law_words : FnScope n__law_words ["_law_row"] (defScope s__law_words) := ⟨rfl, rfl, rfl, by decide +kernel, rfl, by decide +kernel, by decide +kernel⟩
abbrev s__law_whole_is : Stmt := topS 18
abbrev n__law_whole_is : List Str := ["_law_found", "_law_due"]
theorem sc__law_whole_is : FnScope n__law_whole_is ["_law_found", "_law_due"] (defScope s__law_whole_is) := ⟨rfl, rfl, rfl, by decide +kernel, rfl, by decide +kernel, by decide +kernel⟩
abbrev s_law : Stmt := topS 19
abbrev n_law : List Str := ["_law_script", "_law_row", "_law_k", "_law_cell", "_law_number_here", "_law_word_here", "_law_odd", "_law_thing", "_law_found", "_law_turn"]
theorem sc_law : FnScope n_law ["_law_script"] (defScope s_law) := ⟨rfl, rfl, rfl, by decide +kernel, rfl, by decide +kernel, by decide +kernel⟩
structure Txt (K : PySem.W.Frag) (mg : Str → Option Value) where
  f_is_name : Addr
  fd_is_name : FuncData
  F_is_name : Fun K "is_name" "is_name" s_is_name f_is_name fd_is_name
  B_is_name : Binds K fd_is_name ["thing"] []
  G_is_name : mg "is_name" = some (.ref f_is_name)
  f_number_in : Addr
  fd_number_in : FuncData
  F_number_in : Fun K "number_in" "number_in" s_number_in f_number_in fd_number_in
  B_number_in : Binds K fd_number_in ["word"] []
  G_number_in : mg "number_in" = some (.ref f_number_in)
  f_words_of : Addr
  fd_words_of : FuncData
  F_words_of : Fun K "words_of" "words_of" s_words_of f_words_of fd_words_of
  B_words_of : Binds K fd_words_of ["row"] []
  G_words_of : mg "words_of" = some (.ref f_words_of)
  f__law_mixed : Addr
  fd__law_mixed : FuncData
  F__law_mixed : Fun K "_law_mixed" "_law_mixed" s__law_mixed f__law_mixed fd__law_mixed
  B__law_mixed : Binds K fd__law_mixed ["_law_cell", "_law_k"] []
  G__law_mixed : mg "_law_mixed" = some (.ref f__law_mixed)
  f__law_signs : Addr
  fd__law_signs : FuncData
  F__law_signs : Fun K "_law_signs" "_law_signs" s__law_signs f__law_signs fd__law_signs
  B__law_signs : Binds K fd__law_signs [] []
  G__law_signs : mg "_law_signs" = some (.ref f__law_signs)
  f__law_is_name : Addr
  fd__law_is_name : FuncData
  F__law_is_name : Fun K "_law_is_name" "_law_is_name" s__law_is_name f__law_is_name fd__law_is_name
  B__law_is_name : Binds K fd__law_is_name ["_law_thing"] []
  G__law_is_name : mg "_law_is_name" = some (.ref f__law_is_name)
  f__law_number : Addr
  fd__law_number : FuncData
  F__law_number : Fun K "_law_number" "_law_number" s__law_number f__law_number fd__law_number
  B__law_number : Binds K fd__law_number ["_law_word_here"] []
  G__law_number : mg "_law_number" = some (.ref f__law_number)
  f__law_name : Addr
  fd__law_name : FuncData
  F__law_name : Fun K "_law_name" "_law_name" s__law_name f__law_name fd__law_name
  B__law_name : Binds K fd__law_name ["_law_number_here"] []
  G__law_name : mg "_law_name" = some (.ref f__law_name)
  f__law_figures : Addr
  fd__law_figures : FuncData
  F__law_figures : Fun K "_law_figures" "_law_figures" s__law_figures f__law_figures fd__law_figures
  B__law_figures : Binds K fd__law_figures ["_law_number_here"] []
  G__law_figures : mg "_law_figures" = some (.ref f__law_figures)
  f__law_word : Addr
  fd__law_word : FuncData
  F__law_word : Fun K "_law_word" "_law_word" s__law_word f__law_word fd__law_word
  B__law_word : Binds K fd__law_word ["_law_number_here"] []
  G__law_word : mg "_law_word" = some (.ref f__law_word)
  f__law_words : Addr
  fd__law_words : FuncData
  F__law_words : Fun K "_law_words" "_law_words" s__law_words f__law_words fd__law_words
  B__law_words : Binds K fd__law_words ["_law_row"] []
  G__law_words : mg "_law_words" = some (.ref f__law_words)
  f__law_whole_is : Addr
  fd__law_whole_is : FuncData
  F__law_whole_is : Fun K "_law_whole_is" "_law_whole_is" s__law_whole_is f__law_whole_is fd__law_whole_is
  B__law_whole_is : Binds K fd__law_whole_is ["_law_found", "_law_due"] []
  G__law_whole_is : mg "_law_whole_is" = some (.ref f__law_whole_is)
  f_law : Addr
  fd_law : FuncData
  F_law : Fun K "law" "law" s_law f_law fd_law
  B_law : Binds K fd_law ["_law_script"] []
  G_law : mg "law" = some (.ref f_law)
  b_all : mg "all" = none
  b_bool : mg "bool" = none
  b_enumerate : mg "enumerate" = none
  b_int : mg "int" = none
  b_isinstance : mg "isinstance" = none
  b_len : mg "len" = none
  b_list : mg "list" = none
  b_min : mg "min" = none
  b_range : mg "range" = none
  b_str : mg "str" = none
  t_LETTERS : Tok
  g_LETTERS : mg "LETTERS" = some (.str "abcdefghijklmnopqrstuvwxyz" t_LETTERS)
  t_FIGURES : Tok
  g_FIGURES : mg "FIGURES" = some (.str "0123456789" t_FIGURES)
  a_ROW_WORDS : Addr
  g_ROW_WORDS : mg "ROW_WORDS" = some (.ref a_ROW_WORDS)
  k_ROW_WORDS : ∀ H : Hp, SqT K H a_ROW_WORDS [.str "tunes", .str "near", .str "station", .str "apart", .str "fix", .str "bar"]
  t_MOST_NAME_SIGNS : Tok
  g_MOST_NAME_SIGNS : mg "MOST_NAME_SIGNS" = some (.int 8 t_MOST_NAME_SIGNS)
  t_MOST_FIGURES : Tok
  g_MOST_FIGURES : mg "MOST_FIGURES" = some (.int 7 t_MOST_FIGURES)
end K01

namespace K01
open PySem PySem.Spec PyProof.Rows L2 Pre
local macro_rules | `(tactic| walk_at "wp") => `(tactic| simp [tSeq, tAsg, tOp, tVar, tC, rI, rI0, gName, tRet, L2.start, CMul, CDiv, CPow, tIfS, tNot, tOr, tAnd, tTest, tB, tChain, tCB, tCons, tNil, tIf, tSl, tPart, tNoPart, tM1, tM0, rEq, rNe, scal, tOrV, tAndV, tNotV, tNext, rIxS, rSlS, tUn, rU, wipe])
/-- a name by the program's look -/
def nameP (l : List Nat) : Bool := match l with
  | [] => false
  | c :: r => decide ((c :: r).length ≤ 8) && decide (c ∈ (Str.ofString "abcdefghijklmnopqrstuvwxyz").cps) && !(inV (.str (tx (c :: r))) [.str "tunes", .str "near", .str "station", .str "apart", .str "fix", .str "bar"])
      && (c :: r).all fun c => decide (c ∈ (Str.ofString "abcdefghijklmnopqrstuvwxyz").cps) || decide (c ∈ (Str.ofString "0123456789").cps)
theorem nameP_cons (c : Nat) (r : List Nat) : nameP (c :: r) = (decide ((c :: r).length ≤ 8) && decide (c ∈ (Str.ofString "abcdefghijklmnopqrstuvwxyz").cps) && !(inV (.str (tx (c :: r))) [.str "tunes", .str "near", .str "station", .str "apart", .str "fix", .str "bar"])
      && (c :: r).all fun c => decide (c ∈ (Str.ofString "abcdefghijklmnopqrstuvwxyz").cps) || decide (c ∈ (Str.ofString "0123456789").cps)) := rfl
section
variable {P : Program} {w : World} {K : PySem.W.Frag} {mg : Str → Option Value} {base : Heap}
def sp_is_name (K : PySem.W.Frag) : Sp := fun vs H Q _ => ∃ x, vs = [x] ∧
  ((∃ l : List Nat, x = .str (tx l) ∧ l.length ≤ 1000 ∧ ∀ H', Same H H' → Q (.bl (nameP l)) H') ∨ (∃ t, TyX K H x t ∧ PySem.W.kitOne K t (.type "str") = some false ∧ Q (.bl false) H))
theorem ok_is_name (T : Txt K mg) : FnOk P w K mg base CX0 1 T.f_is_name T.fd_is_name ["thing"] (sp_is_name K) := by
  refine T.F_is_name.ok sc_is_name (fun vs H Q E h => ?_) (fun cdv A outer s H vs Q E hr h => ?_)
  · obtain ⟨x, rfl, _⟩ := h
    rfl
  · obtain ⟨x, rfl, h⟩ := h
    refine ⟨_, (pss_cons (ps_if (PW.pt (pw_or (pt_not (pt_val (pe_callB call_isi (by rfl) T.b_isinstance (by decide +kernel) (pa_cons (pv 0) (pa_cons (pe_bltn (v := .ty "str") (by rfl) T.b_str (by decide +kernel) rfl) pa_nil))))) (pw_or1 (pt_not (pt_chain op_le op_le pe_int (pe_callB call_len_str (by rfl) T.b_len PySem.boot_len (pa_cons (pv 0) pa_nil)) (pe_glob (v := .int 8) (by rfl) T.g_MOST_NAME_SIGNS ⟨_, rfl⟩))))))
            (pss_one (ps_ret pe_bl))
            pss_nil)
          (pss_cons (ps_if (PW.pt (pw_or (pt_cmpR op_notIn_sign (pe_ix ix_str (pv 0) pe_int (fun _ _ => rfl)) (pe_glob (v := .str "abcdefghijklmnopqrstuvwxyz") (by rfl) T.g_LETTERS ⟨_, rfl⟩) (by with_unfolding_all rfl)) (pw_or1 (pt_cmpR op_in_seq (pv 0) (pe_glob (v := .ref T.a_ROW_WORDS) (by rfl) T.g_ROW_WORDS rfl) (by with_unfolding_all rfl)))))
            (pss_one (ps_ret pe_bl))
            pss_nil)
          (pss_one (ps_ret (pe_callB (cr_all rfl) (by rfl) T.b_all (by decide +kernel) (pa_cons (pe_lc (own := [("sign", 1)]) (g := gName 1) (tt := tYes) rfl sc_is_name.nd (pi_str (pv 0)) (blkOk_by (N := n_is_name) (sc := defScope s_is_name) (by decide +kernel)) (fun _ _ _ _ _ => pg_name (i := 1) sc_is_name.nd rfl (Or.inl rfl)) (fun _ _ _ _ _ => pts_nil) (fun _ _ _ _ _ => (pe_or (pe_cmpR op_in_sign (pv 1) (pe_glob (v := .str "abcdefghijklmnopqrstuvwxyz") (by rfl) T.g_LETTERS ⟨_, rfl⟩) (by with_unfolding_all rfl)) (pe_one (pe_cmpR op_in_sign (pv 1) (pe_glob (v := .str "0123456789") (by rfl) T.g_FIGURES ⟨_, rfl⟩) (by with_unfolding_all rfl)))))) pa_nil)))))), ?_⟩
    rcases h with ⟨l, rfl, hl, q⟩ | ⟨t, ty, kt, q⟩
    · refine ⟨_, rfl, _, _, _, _, true, rfl, .ty _, .base (.str _), kit_ty (by decide +kernel), _, rfl, ?_⟩
      have hz : (tx l).length ≤ sizeLine := by rw [tx_len]; exact sz (by omega)
      walk_at "wp"
      refine ⟨hz, ?_⟩
      rw [tx_len]
      cases l with
      | nil => exact q H (Same.refl H)
      | cons c r =>
        rw [if_pos (by rw [List.length_cons]; omega)]
        by_cases h8 : (c :: r).length ≤ 8
        · rw [if_pos (by omega)]
          refine ⟨hz, c, atI_zero, ?_⟩
          by_cases hc : c ∈ (Str.ofString "abcdefghijklmnopqrstuvwxyz").cps
          · refine .inl ⟨hc, T.a_ROW_WORDS, _, rfl, .inr (T.k_ROW_WORDS H), rfl, rfl, ?_⟩
            cases hv : inV (.str (tx (c :: r))) [.str "tunes", .str "near", .str "station", .str "apart", .str "fix", .str "bar"] with
            | false =>
              refine .inl ⟨rfl, ?_⟩
              refine lc_text (c :: r) (fun _ => true) (fun c => .bl (decide (c ∈ (Str.ofString "abcdefghijklmnopqrstuvwxyz").cps) || decide (c ∈ (Str.ofString "0123456789").cps))) (by omega) (fun R h => ⟨_, rfl, h⟩) (fun _ => rfl) (fun d _ H' R h => h) (fun d _ _ H' R h => ?_) (fun D H' _ s1 hD => ?_)
              · walk_at "wp"
                by_cases hd : d ∈ (Str.ofString "abcdefghijklmnopqrstuvwxyz").cps <;> simp [hd] at h ⊢ <;> exact h
              · refine ⟨D, (c :: r).map fun c => decide (c ∈ (Str.ofString "abcdefghijklmnopqrstuvwxyz").cps) || decide (c ∈ (Str.ofString "0123456789").cps), rfl, ?_, ?_⟩
                · refine SqL.of (hD.trans ?_)
                  rw [filt_true, List.map_map]
                  rfl
                · have h1 := q H' s1
                  have e : nameP (c :: r) = ((c :: r).map fun c => decide (c ∈ (Str.ofString "abcdefghijklmnopqrstuvwxyz").cps) || decide (c ∈ (Str.ofString "0123456789").cps)).all id := by
                    rw [nameP_cons]
                    rw [hv, decide_eq_true h8, decide_eq_true hc, List.all_map]
                    rfl
                  rw [e] at h1
                  exact h1
            | true =>
              refine .inr ⟨rfl, ?_⟩
              have h1 := q H (Same.refl H)
              have e : nameP (c :: r) = false := by
                rw [nameP_cons]
                rw [hv]
                simp
              rw [e] at h1
              exact h1
          · refine .inr ⟨hc, ?_⟩
            have h1 := q H (Same.refl H)
            have e : nameP (c :: r) = false := by
              rw [nameP_cons]
              rw [decide_eq_false hc]
              simp
            rw [e] at h1
            exact h1
        · rw [if_neg (by omega)]
          have h1 := q H (Same.refl H)
          have e : nameP (c :: r) = false := by
            rw [nameP_cons]
            rw [decide_eq_false h8]
            rfl
          rw [e] at h1
          exact h1
    · refine ⟨_, rfl, _, _, _, _, false, rfl, .ty _, ty, kt, _, rfl, ?_⟩
      exact q
end
end K01

namespace K01
open PySem PySem.Spec PyProof.Rows L2 Pre
local macro_rules | `(tactic| walk_at "wp") => `(tactic| simp [tSeq, tAsg, tOp, tVar, tC, rI, rI0, gName, tRet, L2.start, CMul, CDiv, CPow, tIfS, tNot, tOr, tAnd, tTest, tB, tChain, tCB, tCons, tNil, tIf, tSl, tPart, tNoPart, tM1, tM0, rEq, rNe, scal, tOrV, tAndV, tNotV, tNext, rIxS, rSlS, tUn, rU, wipe, -List.all_eq_true])
section
variable {P : Program} {w : World} {K : PySem.W.Frag} {mg : Str → Option Value} {base : Heap}
def optV : Option Int → V
  | none => .non
  | some i => .int i
def figB (c : Nat) : Bool := decide (c ∈ (Str.ofString "0123456789").cps)
theorem figB_iff (c : Nat) : figB c = true ↔ 48 ≤ c ∧ c ≤ 57 := by
  have e : (Str.ofString "0123456789").cps = #[48, 49, 50, 51, 52, 53, 54, 55, 56, 57] := by decide +kernel
  unfold figB
  rw [e]
  simp
  omega
theorem figs_digits {f : List Nat} (h : f.all figB = true) : NumText.AllDigits f := fun c hc => (figB_iff c).1 (List.all_eq_true.mp h c hc)
/-- the figures of a number's word -/
def figs (l : List Nat) : List Nat := if l.head? = some 45 then l.tail else l
def numP (l : List Nat) : Option Int :=
  if 1 ≤ (figs l).length ∧ (figs l).length ≤ 7 ∧ (figs l).all figB = true ∧ ¬ ((figs l).head? = some 48 ∧ l ≠ [48]) then
    some (if l.head? = some 45 then -((NumText.digitsVal (figs l) : Nat) : Int) else ((NumText.digitsVal (figs l) : Nat) : Int)) else none
theorem figs_len (l : List Nat) : (figs l).length ≤ l.length := by
  unfold figs
  split
  · simp
  · exact Nat.le_refl _
theorem numP_none {l : List Nat} (h : ¬ (1 ≤ (figs l).length ∧ (figs l).length ≤ 7 ∧ (figs l).all figB = true ∧ ¬ ((figs l).head? = some 48 ∧ l ≠ [48]))) : numP l = none := if_neg h
theorem numP_some {l : List Nat} (h : 1 ≤ (figs l).length ∧ (figs l).length ≤ 7 ∧ (figs l).all figB = true ∧ ¬ ((figs l).head? = some 48 ∧ l ≠ [48])) :
    numP l = some (if l.head? = some 45 then -((NumText.digitsVal (figs l) : Nat) : Int) else ((NumText.digitsVal (figs l) : Nat) : Int)) := if_pos h
theorem tx1 (c : Nat) : ({ cps := #[c] } : Str) = tx [c] := rfl
theorem idx_fig {c : Nat} (h : 48 ≤ c ∧ c ≤ 57) : Txt.index0 (Str.ofString "0123456789") (tx [c]) = some (c - 48) := by
  have key : ∀ j : Nat, j < 10 → Txt.index0 (Str.ofString "0123456789") (tx [48 + j]) = some j := by decide +kernel
  have e := key (c - 48) (by omega)
  rw [show 48 + (c - 48) = c by omega] at e
  exact e
theorem dv_app (l : List Nat) (c : Nat) : NumText.digitsVal (l ++ [c]) = NumText.digitsVal l * 10 + (c - 48) := by
  unfold NumText.digitsVal
  rw [List.foldl_append]
  rfl
theorem s_minus : Str.ofString "-" = tx [45] := by decide +kernel
theorem s_0 : Str.ofString "0" = tx [48] := by decide +kernel
theorem s_e : Str.ofString "" = tx [] := by decide +kernel
theorem int_of {l : List Nat} (hl : l.length ≤ 1000) (h1 : 1 ≤ (figs l).length) (hd : (figs l).all figB = true) :
    intText? (tx l) = some (if l.head? = some 45 then -((NumText.digitsVal (figs l) : Nat) : Int) else ((NumText.digitsVal (figs l) : Nat) : Int)) := by
  have hD := figs_digits hd
  have hz : (tx l).length ≤ 4300 := by rw [tx_len]; omega
  unfold figs at *
  by_cases hm : l.head? = some 45
  · simp only [if_pos hm] at *
    cases l with
    | nil => cases hm
    | cons c r =>
      have e : c = 45 := Option.some.inj hm
      subst e
      exact intText_neg (x := tx (45 :: r)) (cs := r) rfl hD (by intro z; rw [List.tail_cons, z] at h1; exact absurd h1 (by decide)) hz
  · simp only [if_neg hm] at *
    exact intText_digits (x := tx l) hD (by intro z; rw [show l = [] from z] at h1; exact absurd h1 (by decide)) hz
def sp_number_in : Sp := fun vs H Q _ => ∃ l : List Nat, vs = [.str (tx l)] ∧ l.length ≤ 1000 ∧ ∀ H', Same H H' → Q (optV (numP l)) H'
theorem ok_number_in (T : Txt K mg) : FnOk P w K mg base CX0 1 T.f_number_in T.fd_number_in ["word"] sp_number_in := by
  refine T.F_number_in.ok sc_number_in (fun vs H Q E h => ?_) (fun cdv A outer s H vs Q E hr h => ?_)
  · obtain ⟨x, rfl, _⟩ := h
    rfl
  · obtain ⟨l, rfl, hl, q⟩ := h
    refine ⟨_, (pss_cons (ps_if (pt_not (pt_val (pe_callB call_isi (by rfl) T.b_isinstance (by decide +kernel) (pa_cons (pv 0) (pa_cons (pe_bltn (v := .ty "str") (by rfl) T.b_str (by decide +kernel) rfl) pa_nil)))))
            (pss_one (ps_ret pe_non))
            pss_nil)
          (Evl.pss_cut (ps_set (i := 1) sc_number_in.nd rfl (.inl rfl) (pe_ifExp (pt_val (pe_m1 PySem.F.slot_str_startswith PySem.F.type_str_startswith mt_startswith (pv 0) pe_str)) (pe_slice sl_str (pv 0) (po_some pe_int) po_none) (pv 0)))
          (pss_cons (ps_if (pt_not (pt_chain op_le op_le pe_int (pe_callB call_len_str (by rfl) T.b_len PySem.boot_len (pa_cons (pv 1) pa_nil)) (pe_glob (v := .int 7) (by rfl) T.g_MOST_FIGURES ⟨_, rfl⟩)))
            (pss_one (ps_ret pe_non))
            pss_nil)
          (pss_cons (ps_if (pt_not (pt_val (pe_callB (cr_all rfl) (by rfl) T.b_all (by decide +kernel) (pa_cons (pe_lc (own := [("sign", 2)]) (g := gName 2) (tt := tYes) rfl sc_number_in.nd (pi_str (pv 1)) (blkOk_by (N := n_number_in) (sc := defScope s_number_in) (by decide +kernel)) (fun _ _ _ _ _ => pg_name (i := 2) sc_number_in.nd rfl (Or.inl rfl)) (fun _ _ _ _ _ => pts_nil) (fun _ _ _ _ _ => (pe_cmpR op_in_sign (pv 2) (pe_glob (v := .str "0123456789") (by rfl) T.g_FIGURES ⟨_, rfl⟩) (by with_unfolding_all rfl)))) pa_nil))))
            (pss_one (ps_ret pe_non))
            pss_nil)
          (pss_cons (ps_if (PW.pt (pw_and (pt_cmpR op_eq (pe_ix ix_str (pv 1) pe_int (fun _ _ => rfl)) pe_str (nomark _)) (pw_and1 (pt_cmpR op_ne (pv 0) pe_str (nomark _)))))
            (pss_one (ps_ret pe_non))
            pss_nil)
          (pss_one (ps_ret (pe_callTy call_int_str (by rfl) T.b_int (by decide +kernel) (pa_cons (pv 0) pa_nil))))))))), ?_⟩
    refine ⟨_, rfl, _, _, _, _, true, rfl, .ty _, .base (.str _), kit_ty (by decide +kernel), _, rfl, ?_⟩
    have hz : (tx l).length ≤ sizeLine := by rw [tx_len]; exact sz (by omega)
    refine ⟨fun σ' H' => H' = H ∧ σ' = [some (.str (tx l)), some (.str (tx (figs l))), none], ?_, ?_⟩
    · walk_at "wp"
      rw [s_minus, starts_one, cutS_one]
      unfold figs
      by_cases hm : l.head? = some 45
      · simp [hm, hz]
      · simp [hm]
    · rintro σ' H' ⟨rfl, rfl⟩
      have hfl := figs_len l
      have hzf : (tx (figs l)).length ≤ sizeLine := by rw [tx_len]; exact sz (by omega)
      have qn : ∀ H1, Same H' H1 → numP l = none → Q .non H1 := fun H1 s1 e => by
        have h1 := q H1 s1
        rw [e] at h1
        exact h1
      walk_at "wp"
      refine ⟨hzf, ?_⟩
      rw [tx_len]
      by_cases c1 : 1 ≤ (figs l).length
      · rw [if_pos (by omega)]
        by_cases c2 : (figs l).length ≤ 7
        · rw [if_pos (by omega)]
          refine lc_text (figs l) (fun _ => true) (fun c => .bl (figB c)) (by omega) (fun R h => ⟨_, rfl, h⟩) (fun _ => rfl) (fun d _ H' R h => h) (fun d _ _ H' R h => ?_) (fun D H1 _ s1 hD => ?_)
          · walk_at "wp"
            exact h
          · refine ⟨D, (figs l).map figB, rfl, SqL.of (hD.trans ?_), ?_⟩
            · rw [filt_true, List.map_map]
              rfl
            · have ea : (List.map figB (figs l)).all id = (figs l).all figB := by rw [List.all_map]; rfl
              rw [ea]
              cases c3 : (figs l).all figB with
              | false => exact .inl ⟨rfl, qn H1 s1 (numP_none (by rw [c3]; simp))⟩
              | true =>
                refine .inr ⟨rfl, hzf, ?_⟩
                have hi := int_of hl c1 c3
                cases ef : figs l with
                | nil => rw [ef] at c1; exact absurd c1 (by decide)
                | cons c r =>
                  refine ⟨c, atI_zero, ?_⟩
                  have yes : ¬ (c = 48 ∧ l ≠ [48]) → ∃ x, intText? (tx l) = some x ∧ (tx l).length ≤ 640 ∧ Q (.int x) H1 := fun hy => by
                    have en := numP_some (l := l) ⟨c1, c2, c3, by rw [ef]; simpa using hy⟩
                    have h1 := q H1 s1
                    rw [en] at h1
                    have h9 : l.length ≤ 8 := by
                      have h2 := c2
                      unfold figs at h2
                      split at h2
                      · rw [List.length_tail] at h2
                        omega
                      · omega
                    exact ⟨_, hi, by rw [tx_len]; omega, h1⟩
                  simp only [tx1, s_0, tx_inj, List.cons.injEq, and_true]
                  by_cases c4 : c = 48
                  · rw [if_pos (by rw [c4])]
                    by_cases c5 : l = [48]
                    · exact .inl ⟨c5, yes fun z => z.2 c5⟩
                    · exact .inr ⟨c5, qn H1 s1 (numP_none (by rw [ef]; simp [c4, c5]))⟩
                  · rw [if_neg c4]
                    exact yes fun z => c4 z.1
        · rw [if_neg (by omega)]
          exact qn _ (Same.refl _) (numP_none fun z => c2 z.2.1)
      · rw [if_neg (by omega)]
        exact qn _ (Same.refl _) (numP_none fun z => c1 z.1)
def sp__law_number : Sp := fun vs H Q _ => ∃ l : List Nat, vs = [.str (tx l)] ∧ l.length ≤ 1000 ∧ Asc l ∧ ∀ H', Same H H' → Q (optV (numP l)) H'
theorem ok__law_number (T : Txt K mg) : FnOk P w K mg base CX0 1 T.f__law_number T.fd__law_number ["_law_word_here"] sp__law_number := by
  refine T.F__law_number.ok sc__law_number (fun vs H Q E h => ?_) (fun cdv A outer s H vs Q E hr h => ?_)
  · obtain ⟨x, rfl, _⟩ := h
    rfl
  · obtain ⟨l, rfl, hl, asc, q⟩ := h
    refine ⟨_, (pss_cons (ps_set (i := 1) sc__law_number.nd rfl (.inl rfl) (pv 0))
          (pss_cons (ps_set (i := 2) sc__law_number.nd rfl (.inl rfl) pe_int)
          (Evl.pss_cut (ps_if (PW.pt (pw_and (pt_cmpR op_ne (pv 1) pe_str (nomark _)) (pw_and1 (pt_cmpR op_eq (pe_ix ix_str (pv 1) pe_int (fun _ _ => rfl)) pe_str (nomark _)))))
            (pss_cons (ps_set (i := 1) sc__law_number.nd rfl (.inl rfl) (pe_slice sl_str (pv 1) (po_some pe_int) po_none))
            (pss_one (ps_set (i := 2) sc__law_number.nd rfl (.inl rfl) (pe_un un_neg pe_int))))
            pss_nil)
          (Evl.pss_cut (ps_if (PW.pt (pw_or (pt_cmpR op_eq (pv 1) pe_str (nomark _)) (pw_or (pt_cmpR op_gt (pe_callB call_len_str (by rfl) T.b_len PySem.boot_len (pa_cons (pv 1) pa_nil)) pe_int (nomark _)) (pw_or1 (pt_cmpR (op_neD hr.units) (pe_lc (own := [("_law_sign", 3)]) (g := gName 3) rfl sc__law_number.nd (pi_str (pv 1)) (blkOk_by (N := n__law_number) (sc := defScope s__law_number) (by decide +kernel)) (fun _ _ _ _ _ => pg_name (i := 3) sc__law_number.nd rfl (Or.inl rfl)) (fun _ _ _ _ _ => pts_one (pt_cmpR op_notIn_sign (pv 3) pe_str (by with_unfolding_all rfl))) (fun _ _ _ _ _ => (pv 3))) (pe_lst pa_nil) (nomark _))))))
            (pss_one (ps_ret pe_non))
            pss_nil)
          (Evl.pss_cut (ps_if (PW.pt (pw_and (pt_cmpR op_eq (pe_ix ix_str (pv 1) pe_int (fun _ _ => rfl)) pe_str (nomark _)) (pw_and1 (PW.pt (pw_or (pt_cmpR op_gt (pe_callB call_len_str (by rfl) T.b_len PySem.boot_len (pa_cons (pv 1) pa_nil)) pe_int (nomark _)) (pw_or1 (pt_cmpR op_eq (pv 2) (pe_un un_neg pe_int) (nomark _))))))))
            (pss_one (ps_ret pe_non))
            pss_nil)
          (pss_cons (ps_set (i := 4) sc__law_number.nd rfl (.inl rfl) pe_int)
          (pss_cons (ps_for PassesOwn.never rfl (pi_str (pv 1)) (pg_name (i := 3) sc__law_number.nd rfl (Or.inl rfl))
            (pss_one (ps_set (i := 4) sc__law_number.nd rfl (.inl rfl) (pe_op op_add (pe_op op_mul pe_int (pv 4)) (pe_bmS PySem.F.plainAttrs_str PySem.F.slot_str_index PySem.F.type_str_index (mt_indexX rfl takesNo) pe_str (pa_cons (pv 3) pa_nil))))))
          (pss_one (ps_ret (pe_op op_mul (pv 2) (pv 4))))))))))), ?_⟩
    have hz : (tx l).length ≤ sizeLine := by rw [tx_len]; exact sz (by omega)
    refine ⟨_, rfl, ?_⟩
    refine ⟨fun σ' H' => H' = H ∧ σ' = [some (.str (tx l)), some (.str (tx (figs l))), some (.int (if l.head? = some 45 then -1 else 1)), none, none], ?_, ?_⟩
    · walk_at "wp"
      simp only [tx1, s_minus, s_e, tx_inj, cutS_one]
      cases l with
      | nil => exact .inl ⟨rfl, by simp [figs]⟩
      | cons c r =>
        refine .inr ⟨by simp, hz, c, atI_zero, ?_⟩
        unfold figs
        by_cases hm : c = 45
        · simp [hm] at *
          exact hz
        · simp [hm] at *
    · rintro σ' H' ⟨rfl, rfl⟩
      have hfl := figs_len l
      have hzf : (tx (figs l)).length ≤ sizeLine := by rw [tx_len]; exact sz (by omega)
      have qn : ∀ H1, Same H' H1 → numP l = none → Q .non H1 := fun H1 s1 e => by
        have h1 := q H1 s1
        rw [e] at h1
        exact h1
      refine ⟨fun σ' H1 => Same H' H1 ∧ figs l ≠ [] ∧ (figs l).length ≤ 7 ∧ (figs l).all figB = true ∧ σ' = [some (.str (tx l)), some (.str (tx (figs l))), some (.int (if l.head? = some 45 then -1 else 1)), none, none], ?_, ?_⟩
      · walk_at "wp"
        simp only [s_e, tx_inj, tx_len]
        by_cases c0 : figs l = []
        · rw [if_pos c0]
          exact qn _ (Same.refl _) (numP_none (by rw [c0]; simp))
        rw [if_neg c0]
        refine ⟨sz (by omega), ?_⟩
        by_cases c1 : 7 < (figs l).length
        · rw [if_pos (by omega)]
          exact qn _ (Same.refl _) (numP_none fun z => absurd z.2.1 (by omega))
        rw [if_neg (by omega)]
        refine lc_text (figs l) (fun c => !figB c) (fun c => .str (tx [c])) (by omega) (fun R h => ⟨_, rfl, h⟩) (fun _ => rfl) (fun d _ H' R h => ?_) (fun d _ _ H' R h => ?_) (fun D H1 nD s1 hD => ?_)
        · walk_at "wp"
          by_cases hd : d ∈ (Str.ofString "0123456789").cps <;> simp [figB, hd] at h ⊢ <;> exact h
        · walk_at "wp"
          exact h
        · refine ⟨Nat.zero_le _, fun p np => ?_⟩
          have hA : ∀ z ∈ ((figs l).filter fun c => !figB c).map (fun c => tx [c]), AscS z := fun z hz => by
            obtain ⟨c, hc, rfl⟩ := List.mem_map.mp hz
            intro d hd
            have e : d = c := by simpa using hd
            rw [e]
            have hm := (List.mem_filter.mp hc).1
            unfold figs at hm
            split at hm
            · exact asc _ (List.mem_of_mem_tail hm)
            · exact asc _ hm
          have hD' : H1 D = some (.lst ((((figs l).filter fun c => !figB c).map (fun c => tx [c])).map V.str)) := by
            rw [hD, List.map_map]
            rfl
          refine ⟨_, _, dp_strs (SqL.of ((same_new np) _ _ hD')), dp_strs (ss := []) (SqL.of upd_same), shaped_strs hA, shaped_strs (fun _ z => nomatch z), ?_⟩
          rw [eqv_strs]
          cases c3 : (figs l).all figB with
          | true =>
            have ee : ((figs l).filter fun c => !figB c) = [] := by
              rw [List.filter_eq_nil_iff]
              intro c hc
              simp [List.all_eq_true.mp c3 c hc]
            rw [ee]
            exact .inl ⟨by simp, s1.trans (same_new np), c0, by omega, rfl⟩
          | false =>
            have ee : ((figs l).filter fun c => !figB c) ≠ [] := fun z => by
              rw [List.filter_eq_nil_iff] at z
              have : (figs l).all figB = true := List.all_eq_true.mpr fun c hc => by simpa using z c hc
              rw [this] at c3
              cases c3
            have e2 : ¬ (((figs l).filter fun c => !figB c).map (fun c => tx [c]) = []) := fun z => ee (List.map_eq_nil_iff.mp z)
            rw [show decide (List.map (fun c => tx [c]) (List.filter (fun c => !figB c) (figs l)) = []) = false from decide_eq_false e2]
            exact .inr ⟨rfl, qn _ (s1.trans (same_new np)) (numP_none (by rw [c3]; simp))⟩
      · rintro σ1 H1 ⟨s1, c0, c2, c3, rfl⟩
        refine ⟨fun σ' H2 => H2 = H1 ∧ ¬ ((figs l).head? = some 48 ∧ l ≠ [48]) ∧ σ' = [some (.str (tx l)), some (.str (tx (figs l))), some (.int (if l.head? = some 45 then -1 else 1)), none, none], ?_, ?_⟩
        · walk_at "wp"
          refine ⟨hzf, ?_⟩
          cases ef : figs l with
          | nil => exact absurd ef c0
          | cons c r =>
            refine ⟨c, atI_zero, ?_⟩
            simp only [tx1, s_0, tx_inj, List.cons.injEq, and_true]
            have no : c = 48 → l ≠ [48] → Q .non H1 := fun h1 h2 => qn H1 s1 (numP_none fun z => z.2.2.2 ⟨by rw [ef, h1]; rfl, h2⟩)
            by_cases c4 : c = 48
            · rw [if_pos c4]
              rw [ef] at hzf
              refine ⟨hzf, ?_⟩
              rw [tx_len]
              by_cases c5 : 1 < (c :: r).length
              · rw [if_pos (by omega)]
                refine no c4 fun z => ?_
                rw [z] at ef
                have : c :: r = [48] := ef.symm
                rw [this] at c5
                exact absurd c5 (by decide)
              · rw [if_neg (by omega)]
                by_cases c6 : l.head? = some 45
                · rw [if_pos c6]
                  refine no c4 fun z => ?_
                  rw [z] at c6
                  cases c6
                · rw [if_neg c6]
                  intro _
                  unfold figs at ef
                  rw [if_neg c6] at ef
                  have : r = [] := by
                    cases r with
                    | nil => rfl
                    | cons a b => simp at c5
                  rw [ef, c4, this]
            · rw [if_neg c4]
              intro h
              exact absurd (Option.some.inj h) c4
        · rintro σ2 H2 ⟨rfl, c4, rfl⟩
          walk_at "wp"
          refine ⟨_, rfl, _, rfl, for_it walk_str (fun k σ' H' => H' = H2 ∧ ∃ v, σ' = [some (.str (tx l)), some (.str (tx (figs l))), some (.int (if l.head? = some 45 then -1 else 1)), v, some (.int ((NumText.digitsVal ((figs l).take k) : Nat) : Int))]) ⟨rfl, _, rfl⟩ (fun _ _ _ _ _ => trivial) (fun k x σ' H' H'' hk hP hY => ?_) (fun σ' H' hP => ?_)⟩
          · obtain ⟨rfl, c, hc, rfl⟩ := hY
            obtain ⟨rfl, v, rfl⟩ := hP
            have hc' : (figs l)[k]? = some c := by simpa using hc
            have hd := (figB_iff c).1 (List.all_eq_true.mp c3 c (List.mem_of_getElem? hc'))
            have e2 : (figs l).take (k + 1) = (figs l).take k ++ [c] := by
              rw [List.take_add_one, hc']
              rfl
            walk_at "wp"
            refine ⟨rfl, _, rfl, _, _, rfl, rfl, fun j hj => ?_, fun hj => ?_⟩
            · rw [tx1, idx_fig hd] at hj
              refine ⟨_, rfl, rfl, ?_⟩
              have ej : c - 48 = j := Option.some.inj hj
              rw [e2, dv_app]
              omega
            · rw [tx1, idx_fig hd] at hj
              cases hj
          · obtain ⟨rfl, v, rfl⟩ := hP
            have hq := q _ s1
            have c1 : 1 ≤ (figs l).length := List.length_pos_iff.mpr c0
            rw [numP_some ⟨c1, c2, c3, c4⟩] at hq
            walk_at "wp"
            refine ⟨.inl (by split <;> decide), ?_⟩
            by_cases hm : l.head? = some 45
            · rw [if_pos hm] at hq ⊢
              rw [Int.neg_one_mul]
              exact hq
            · rw [if_neg hm] at hq ⊢
              rw [Int.one_mul]
              exact hq
end
end K01

namespace K01
open PySem PySem.Spec PyProof.Rows L2 Pre
local macro_rules | `(tactic| walk_at "wp") => `(tactic| simp [tSeq, tAsg, tOp, tVar, tC, rI, rI0, gName, tRet, L2.start, CMul, CDiv, CPow, tIfS, tNot, tOr, tAnd, tTest, tB, tChain, tCB, tCons, tNil, tIf, tSl, tPart, tNoPart, tM1, tM0, rEq, rNe, scal, tOrV, tAndV, tNotV, tNext, rIxS, rSlS, tUn, rU, wipe, tBreak, -List.all_eq_true])
/-- the words of a row: the loop's own way -/
def wl : List Nat → List Nat → List (List Nat)
  | [], w => if w ≠ [] then [w] else []
  | c :: r, w => if c = 35 then (if w ≠ [] then [w] else []) else if c ≠ 32 then wl r (w ++ [c]) else if w ≠ [] then w :: wl r [] else wl r []
def ne (w : List Nat) : Bool := decide (w ≠ [])
def cut35 : List Nat → List Nat
  | [] => []
  | c :: r => if c = 35 then [] else c :: cut35 r
theorem cut35_len : ∀ l : List Nat, (cut35 l).length ≤ l.length
  | [] => Nat.le_refl _
  | c :: r => by
    unfold cut35
    split
    · simp
    · simpa using cut35_len r
theorem cut35_mem : ∀ {l : List Nat} {c : Nat}, c ∈ cut35 l → c ∈ l
  | [], _, h => h
  | d :: r, c, h => by
    unfold cut35 at h
    split at h
    · cases h
    · rcases List.mem_cons.mp h with e | h
      · rw [e]
        exact List.mem_cons_self
      · exact List.mem_cons_of_mem _ (cut35_mem h)
theorem wl_spl : ∀ (l w : List Nat), wl l w = (TL.spl [32] 0 w (cut35 l)).filter ne
  | [], w => by
    unfold wl cut35
    rw [TL.spl_nil]
    by_cases h : w = [] <;> simp [ne, h]
  | c :: r, w => by
    unfold wl cut35
    by_cases h : c = 35
    · rw [if_pos h, if_pos h, TL.spl_nil]
      by_cases h : w = [] <;> simp [ne, h]
    · rw [if_neg h, if_neg h]
      by_cases h2 : c = 32
      · subst h2
        have e : TL.spl [32] 0 w (32 :: cut35 r) = w :: TL.spl [32] 0 [] (cut35 r) := TL.spl_hit (S := [32]) (TL.pre_self [32] _)
        rw [if_neg (by simp), e, wl_spl r []]
        by_cases h3 : w = [] <;> simp [ne, h3]
      · rw [if_pos h2, TL.spl_miss (TL.pre_of_head [] _ h2), wl_spl r (w ++ [c])]
theorem part35 (l : List Nat) : (Txt.partition (tx l) (tx [35])).1 = tx (cut35 l) := by
  rw [TL.partition_par (tx l) (tx [35]) (by simp)]
  have key : ∀ (m acc : List Nat), (match TL.par [35] acc m with | some (a, _) => a | none => acc ++ m) = acc ++ cut35 m := fun m => by
    induction m with
    | nil => intro acc; rfl
    | cons c r ih =>
      intro acc
      unfold cut35
      by_cases h : c = 35
      · subst h
        rw [TL.par_hit (show TL.pre [35] (35 :: r) = true from TL.pre_self [35] r), if_pos rfl]
        simp
      · rw [TL.par_miss (TL.pre_of_head [] _ h), if_neg h]
        have e := ih (acc ++ [c])
        rw [List.append_assoc] at e
        simp only [List.append_assoc] at *
        exact e
  have k := key l []
  show (match TL.par [35] [] l with | some (a, b) => (tx a, tx [35], tx b) | none => (tx l, Str.empty, Str.empty)).1 = tx (cut35 l)
  cases h : TL.par [35] [] l with
  | none =>
    rw [h] at k
    simpa using congrArg tx k
  | some p =>
    obtain ⟨a, b⟩ := p
    rw [h] at k
    exact congrArg tx (by simpa using k)
theorem split32 (l : List Nat) : Txt.split (tx l) (tx [32]) = (TL.spl [32] 0 [] l).map tx := by
  refine TL.map_tl_inj ?_
  rw [TL.split_spl (tx l) (tx [32]) (by simp) (TL.kind_ok (by decide +kernel))]
  rw [List.map_map]
  show TL.spl [32] 0 [] l = _
  exact (List.map_id' (TL.spl [32] 0 [] l)).symm
theorem spl_len : ∀ (l w : List Nat), (TL.spl [32] 0 w l).length ≤ l.length + 1
  | [], w => by rw [TL.spl_nil]; simp
  | c :: r, w => by
    by_cases h2 : c = 32
    · subst h2
      have e : TL.spl [32] 0 w (32 :: r) = w :: TL.spl [32] 0 [] r := TL.spl_hit (S := [32]) (TL.pre_self [32] _)
      rw [e]
      have := spl_len r []
      simp only [List.length_cons]
      omega
    · rw [TL.spl_miss (TL.pre_of_head [] _ h2)]
      have := spl_len r (w ++ [c])
      simp only [List.length_cons]
      omega
theorem spl_size : ∀ (l w : List Nat), ∀ p ∈ TL.spl [32] 0 w l, p.length ≤ w.length + l.length
  | [], w => by rw [TL.spl_nil]; simp
  | c :: r, w => by
    by_cases h2 : c = 32
    · subst h2
      have e : TL.spl [32] 0 w (32 :: r) = w :: TL.spl [32] 0 [] r := TL.spl_hit (S := [32]) (TL.pre_self [32] _)
      rw [e]
      intro p hp
      rcases List.mem_cons.mp hp with e | hp
      · rw [e]; simp
      · have := spl_size r [] p hp
        simp only [List.length_cons, List.length_nil] at *
        omega
    · rw [TL.spl_miss (TL.pre_of_head [] _ h2)]
      intro p hp
      have := spl_size r (w ++ [c]) p hp
      simp only [List.length_append, List.length_cons, List.length_nil] at *
      omega
section
variable {P : Program} {w : World} {K : PySem.W.Frag} {mg : Str → Option Value} {base : Heap}
theorem s_hash : Str.ofString "#" = tx [35] := by decide +kernel
theorem s_sp : Str.ofString " " = tx [32] := by decide +kernel
theorem s_em : Str.ofString "" = tx [] := by decide +kernel
theorem tx_1 (c : Nat) : ({ cps := #[c] } : Str) = tx [c] := rfl
def neV : V → Bool
  | .str z => z.length != 0
  | _ => false
def sp_words_of : Sp := fun vs H Q _ => ∃ l : List Nat, vs = [.str (tx l)] ∧ l.length ≤ 5000 ∧ ∀ p H', Same H H' → H p = none → H' p = some (.lst (((wl l []).map tx).map V.str)) → Q (.ref p) H'
theorem ok_words_of (T : Txt K mg) : FnOk P w K mg base CX0 1 T.f_words_of T.fd_words_of ["row"] sp_words_of := by
  refine T.F_words_of.ok sc_words_of (fun vs H Q E h => ?_) (fun cdv A outer s H vs Q E hr h => ?_)
  · obtain ⟨x, rfl, _⟩ := h
    rfl
  · obtain ⟨l, rfl, hl, q⟩ := h
    refine ⟨_, (pss_cons (ps_set (i := 1) sc_words_of.nd rfl (.inl rfl) (pe_ix ix_tup (pe_partition (pv 0) pe_str) pe_int (fun _ _ => rfl)))
          (pss_one (ps_ret (pe_lc (own := [("word", 2)]) (g := gName 2) (tt := fun σ H Q => tVar 2 σ H fun x H' => ∃ k, TruV K x H' k ∧ Q k H') rfl sc_words_of.nd (pi_list (pe_split (pv 1) pe_str)) (blkOk_by (N := n_words_of) (sc := defScope s_words_of) (by decide +kernel)) (fun _ _ _ _ _ => pg_name (i := 2) sc_words_of.nd rfl (Or.inl rfl)) (fun _ _ _ _ _ => pts_one (pt_truth (pv 2) (fun _ => rfl))) (fun _ _ _ _ _ => (pv 2)))))), ?_⟩
    have hz : (tx l).length ≤ sizeLine := by rw [tx_len]; exact sz (by omega)
    refine ⟨_, rfl, ⟨_, rfl⟩, _, _, rfl, rfl, by decide, hz, fun t nt => ?_⟩
    refine ⟨_, _, _, _, rfl, rfl, SqT.of upd_same, atI_zero, ?_⟩
    have hc := cut35_len l
    rw [s_hash, part35]
    have hsp := spl_len (cut35 l) []
    have s0 : Same H (upd H t (.tup [.str (tx (cut35 l)), .str (Txt.partition (tx l) (tx [35])).2.1, .str (Txt.partition (tx l) (tx [35])).2.2])) := same_new nt
    dsimp only [gName, tRet, List.map, List.set, L2.start]
    refine lc_lst ((TL.spl [32] 0 [] (cut35 l)).map fun z => .str (tx z)) neV id (by rw [List.length_map]; omega) (fun R hR => ?_) (fun _ => rfl) (fun x hx H' R _ h => ?_) (fun x hx _ H' R _ h => ?_) (fun D H' nD s1 hD => ?_)
    · refine ⟨_, rfl, ⟨_, rfl⟩, _, _, rfl, rfl, by decide, ?_, fun p np => ?_⟩
      · rw [tx_len]
        exact sz (by omega)
      · refine hR p _ (same_new np) (SqL.of ?_)
        rw [upd_same, s_sp, split32, List.map_map]
        rfl
    · obtain ⟨z, hz, rfl⟩ := List.mem_map.mp hx
      have := spl_size _ _ z hz
      have hzz : (tx z).length ≤ sizeLine := by
        rw [tx_len]
        simp at this
        exact sz (by omega)
      refine ⟨_, rfl, _, ⟨hzz, rfl⟩, ?_⟩
      have e : ((((tx z).length : Nat) : Int) != 0) = neV (.str (tx z)) := by
        show ((((tx z).length : Nat) : Int) != 0) = ((tx z).length != 0)
        rw [tx_len]
        cases z with
        | nil => rfl
        | cons a b =>
          simp
          omega
      rw [e]
      exact h
    · exact ⟨_, rfl, h⟩
    · refine q D H' (s0.trans s1) (s0.free nD) (hD.trans ?_)
      rw [wl_spl, List.map_id, List.filter_map, List.map_map]
      congr 2
      show List.map (fun z => V.str (tx z)) (List.filter (neV ∘ fun z => V.str (tx z)) (TL.spl [32] 0 [] (cut35 l))) = _
      congr 1
      refine List.filter_congr fun z _ => ?_
      show ((tx z).length != 0) = ne z
      rw [tx_len]
      cases z <;> simp [ne]
def sp__law_words : Sp := fun vs H Q _ => ∃ l : List Nat, vs = [.str (tx l)] ∧ l.length ≤ 5000 ∧ ∀ p H', Same H H' → H p = none → H' p = some (.lst (((wl l []).map tx).map V.str)) → Q (.ref p) H'
theorem ok__law_words (T : Txt K mg) : FnOk P w K mg base CX0 1 T.f__law_words T.fd__law_words ["_law_row"] sp_words_of := by
  refine T.F__law_words.ok sc__law_words (fun vs H Q E h => ?_) (fun cdv A outer s H vs Q E hr h => ?_)
  · obtain ⟨x, rfl, _⟩ := h
    rfl
  · obtain ⟨l, rfl, hl, q⟩ := h
    refine ⟨_, (pss_cons (ps_set (i := 1) sc__law_words.nd rfl (.inl rfl) (pe_lst pa_nil))
          (pss_cons (ps_set (i := 2) sc__law_words.nd rfl (.inl rfl) pe_str)
          (Evl.pss_cut (ps_for PassesOwn.never rfl (pi_str (pv 0)) (pg_name (i := 3) sc__law_words.nd rfl (Or.inl rfl))
            (pss_cons (ps_if (pt_cmpR op_eq (pv 3) pe_str (nomark _))
              (pss_one ps_break)
              pss_nil)
            (pss_one (ps_if (pt_cmpR op_ne (pv 3) pe_str (nomark _))
              (pss_one (ps_set (i := 2) sc__law_words.nd rfl (.inl rfl) (pe_op op_add_str (pv 2) (pv 3))))
              (pss_one (ps_if (pt_cmpR op_ne (pv 2) pe_str (nomark _))
                (pss_cons (ps_expr (pe_bm PySem.F.plainAttrs_list PySem.F.slot_list_append PySem.F.type_list_append mt_append (pv 1) (pa_cons (pv 2) pa_nil)))
                (pss_one (ps_set (i := 2) sc__law_words.nd rfl (.inl rfl) pe_str)))
                pss_nil))))))
          (pss_one (ps_ret (pe_op op_cat (pv 1) (pe_op op_rep (pe_lst (pa_cons (pv 2) pa_nil)) (pe_callTy call_int1 (by rfl) T.b_int (by decide +kernel) (pa_cons (pe_cmpR op_ne (pv 2) pe_str (nomark _)) pa_nil))))))))), ?_⟩
    refine ⟨Nat.zero_le _, fun f nf => ?_⟩
    refine ⟨fun σ' H' => ∃ found wd v, σ' = [some (.str (tx l)), some (.ref f), some (.str (tx wd)), v] ∧ Same H H' ∧ H' f = some (.lst ((found.map tx).map V.str)) ∧ found ++ (if wd ≠ [] then [wd] else []) = wl l [] ∧ found.length ≤ 5000, ?_, ?_⟩
    · refine ⟨_, rfl, _, rfl, for_it walk_str (fun k σ' H' => ∃ found wd v, σ' = [some (.str (tx l)), some (.ref f), some (.str (tx wd)), v] ∧ Same H H' ∧ H' f = some (.lst ((found.map tx).map V.str)) ∧ found ++ wl (l.drop k) wd = wl l [] ∧ found.length ≤ k ∧ wd.length ≤ k) ⟨[], [], none, by rw [← s_em]; rfl, same_new nf, upd_same, rfl, Nat.le_refl _, Nat.le_refl _⟩ (fun _ _ _ _ _ => trivial) (fun k x σ' H' H'' hk hP hY => ?_) (fun σ' H' hP => ?_)⟩
      · obtain ⟨rfl, c, hc, rfl⟩ := hY
        obtain ⟨found, wd, v, rfl, s1, hf, hw, h1, h2⟩ := hP
        have hc' : l[k]? = some c := by simpa using hc
        have hkl : k < l.length := (List.getElem?_eq_some_iff.mp hc').1
        have ed : l.drop k = c :: l.drop (k + 1) := by
          rw [List.drop_eq_getElem_cons hkl]
          congr 1
          exact (List.getElem?_eq_some_iff.mp hc').2
        rw [ed] at hw
        walk_at "wp"
        simp only [tx_1, s_hash, s_sp, s_em, tx_inj, List.cons.injEq, and_true]
        by_cases c1 : c = 35
        · rw [if_pos c1]
          subst c1
          refine ⟨s1, found, by rw [hf, List.map_map], ?_, by omega⟩
          simpa [wl] using hw
        · rw [if_neg c1]
          by_cases c2 : c = 32
          · refine .inl ⟨c2, ?_⟩
            subst c2
            by_cases c3 : wd = []
            · refine .inl ⟨c3, s1, found, by rw [hf, List.map_map], ?_, by omega, by omega⟩
              subst c3
              simpa [wl] using hw
            · refine .inr ⟨c3, ?_⟩
              refine ⟨_, rfl, .inl ⟨rfl, _, SqL.of hf⟩, _, rfl, _, _, _, rfl, rfl, hf, ?_, ?_⟩
              · rw [List.length_map, List.length_map]
                exact szl (by omega)
              · refine ⟨found ++ [wd], [], ⟨_, rfl⟩, same_mut s1 nf, ?_, ?_, ?_, Nat.zero_le _⟩
                · rw [upd_same]
                  simp
                · rw [← hw]
                  simp [wl, c3]
                · rw [List.length_append, List.length_singleton]
                  omega
          · refine .inr ⟨c2, ?_, found, wd ++ [c], tx_app _ _, s1, by rw [hf, List.map_map], ?_, by omega, ?_⟩
            · rw [tx_len, tx_len]
              exact sz (by rw [List.length_singleton]; omega)
            · rw [← hw]
              simp [wl, c1, c2]
            · rw [List.length_append, List.length_singleton]
              omega
      · obtain ⟨found, wd, v, rfl, s1, hf, hw, h1, h2⟩ := hP
        have e : l.drop (tx l).cps.size = [] := by simp
        rw [e] at hw
        have e2 : (tx l).cps.size = l.length := by simp
        exact ⟨found, wd, v, rfl, s1, hf, hw, by omega⟩
    · rintro σ' H' ⟨found, wd, v, rfl, s1, hf, hw, h1⟩
      refine ⟨.ref f, rfl, ?_⟩
      refine ⟨_, rfl, by show 1 ≤ sizeLine; decide, fun p np => ?_⟩
      refine ⟨_, rfl, rfl, .inr ⟨_, rfl, ?_⟩⟩
      have npf : f ≠ p := ne_of_none hf np
      refine ⟨p, _, _, rfl, rfl, upd_same, ?_, ?_, ?_, fun p2 np2 => ?_⟩
      · split <;> decide
      · split <;> decide
      · exact sz (by split <;> simp)
      have nf2 : f ≠ p2 := fun z => by
        rw [z] at hf npf
        rw [upd_ne npf, hf] at np2
        cases np2
      refine ⟨f, p2, _, _, rfl, rfl, Eq.trans (upd_ne nf2) (Eq.trans (upd_ne npf) hf), upd_same, ?_, fun p3 np3 => ?_⟩
      · rw [List.length_map, List.length_map]
        refine sz ?_
        split <;> simp <;> omega
      · refine q p3 _ (((s1.trans (same_new np)).trans (same_new np2)).trans (same_new np3)) (((s1.trans (same_new np)).trans (same_new np2)).free np3) ?_
        rw [upd_same, ← hw]
        by_cases c3 : wd = []
        · subst c3
          simp [s_em]
        · have e : ¬ tx wd = tx [] := fun z => c3 (tx_inj.mp z)
          simp [s_em, c3, e]
end
end K01

namespace K01
open PySem PySem.Spec PyProof.Rows L2 Pre
local macro_rules | `(tactic| walk_at "wp") => `(tactic| simp [tSeq, tAsg, tOp, tVar, tC, rI, rI0, gName, tRet, L2.start, CMul, CDiv, CPow, tIfS, tNot, tOr, tAnd, tTest, tB, tChain, tCB, tCons, tNil, tIf, tSl, tPart, tNoPart, tM1, tM0, rEq, rNe, scal, tOrV, tAndV, tNotV, tNext, rIxS, rSlS, tUn, rU, wipe, tBreak, tTup, tLst, -List.all_eq_true])
def alnB (c : Nat) : Bool := decide (c ∈ (Str.ofString "abcdefghijklmnopqrstuvwxyz0123456789").cps)
def dgB (c : Nat) : Bool := decide (c ∈ (Str.ofString "0123456789").cps)
abbrev sevenW : List V := [.str "tunes", .str "near", .str "station", .str "apart", .str "fix", .str "bar", .str ""]
/-- a name by the law's look -/
def nameL : List Nat → Bool
  | [] => false
  | c :: r => !inV (.str (tx (c :: r))) sevenW && (c :: r).all alnB && decide ((c :: r).length ≤ 8) && !dgB c
theorem nameL_cons (c : Nat) (r : List Nat) : nameL (c :: r) = (!inV (.str (tx (c :: r))) sevenW && (c :: r).all alnB && decide ((c :: r).length ≤ 8) && !dgB c) := rfl
theorem inV_e : inV (.str (tx [])) sevenW = true := by decide +kernel
section
variable {P : Program} {w : World} {K : PySem.W.Frag} {mg : Str → Option Value} {base : Heap}
def sp__law_is_name (K : PySem.W.Frag) : Sp := fun vs H Q _ => ∃ x, vs = [x] ∧
  ((∃ l : List Nat, x = .str (tx l) ∧ l.length ≤ 1000 ∧ Asc l ∧ ∀ H', Same H H' → Q (.bl (nameL l)) H') ∨ (∃ t, TyX K H x t ∧ PySem.W.kitOne K t (.type "str") = some false ∧ Q (.bl false) H))
theorem ok__law_is_name (T : Txt K mg) : FnOk P w K mg base CX0 1 T.f__law_is_name T.fd__law_is_name ["_law_thing"] (sp__law_is_name K) := by
  refine T.F__law_is_name.ok sc__law_is_name (fun vs H Q E h => ?_) (fun cdv A outer s H vs Q E hr h => ?_)
  · obtain ⟨x, rfl, _⟩ := h
    rfl
  · obtain ⟨x, rfl, h⟩ := h
    refine ⟨_, (Evl.pss_cut (ps_if (PW.pt (pw_or (pt_not (pt_val (pe_callB call_isi (by rfl) T.b_isinstance (by decide +kernel) (pa_cons (pv 0) (pa_cons (pe_bltn (v := .ty "str") (by rfl) T.b_str (by decide +kernel) rfl) pa_nil))))) (pw_or1 (pt_cmpR op_in_seq (pv 0) (pe_tup (pa_cons pe_str (pa_cons pe_str (pa_cons pe_str (pa_cons pe_str (pa_cons pe_str (pa_cons pe_str (pa_cons pe_str pa_nil)))))))) (by with_unfolding_all rfl)))))
            (pss_one (ps_ret pe_bl))
            pss_nil)
          (Evl.pss_cut (ps_setLc (i := 1) (own := [("_law_sign", 2)]) (g := gName 2) rfl sc__law_is_name.nd rfl rfl (sw_true rfl rfl rfl (by decide +kernel)) (pi_str (pv 0)) (blkOk_by (N := n__law_is_name) (sc := defScope s__law_is_name) (by decide +kernel)) (fun _ _ _ _ _ => pg_name (i := 2) sc__law_is_name.nd rfl (Or.inl rfl)) (fun _ _ _ _ _ => pts_one (pt_cmpR op_notIn_sign (pv 2) pe_str (by with_unfolding_all rfl))) (fun _ _ _ _ _ => (pv 2)))
          (pss_one (ps_ret (pe_and (pe_cmpR (op_eqD hr.units) (pv 1) (pe_lst pa_nil) (nomark _)) (pe_and (pe_cmpR op_le (pe_callB call_len_str (by rfl) T.b_len PySem.boot_len (pa_cons (pv 0) pa_nil)) pe_int (nomark _)) (pe_one (pe_cmpR op_notIn_sign (pe_ix ix_str (pv 0) pe_int (fun _ _ => rfl)) pe_str (by with_unfolding_all rfl))))))))), ?_⟩
    rcases h with ⟨l, rfl, hl, asc, q⟩ | ⟨t, ty, kt, q⟩
    · have hz : (tx l).length ≤ sizeLine := by rw [tx_len]; exact sz (by omega)
      refine ⟨fun σ' H' => Same H H' ∧ inV (.str (tx l)) sevenW = false ∧ σ' = [some (.str (tx l)), none, none], ?_, ?_⟩
      · refine ⟨_, rfl, _, _, _, _, true, rfl, .ty _, .base (.str _), kit_ty (by decide +kernel), _, rfl, ?_⟩
        walk_at "wp"
        refine ⟨by decide, fun p np => ?_⟩
        refine ⟨p, sevenW, rfl, .inr (SqT.of upd_same), rfl, rfl, ?_⟩
        cases hv : inV (.str (tx l)) sevenW with
        | false => exact .inl ⟨rfl, same_new np, rfl⟩
        | true =>
          refine .inr ⟨rfl, ?_⟩
          have h1 := q _ (same_new (o := .tup sevenW) np)
          have e : nameL l = false := by
            cases l with
            | nil => rfl
            | cons c r => rw [nameL_cons, hv]; rfl
          rw [e] at h1
          exact h1
      · rintro σ' H' ⟨s1, hv, rfl⟩
        cases l with
        | nil => rw [inV_e] at hv; cases hv
        | cons c r =>
          refine ⟨fun σ' H2 => ∃ D, Same H H2 ∧ H2 D = some (.lst ((((c :: r).filter fun c => !alnB c).map (fun c => tx [c])).map V.str)) ∧ σ' = [some (.str (tx (c :: r))), some (.ref D), none], ?_, ?_⟩
          · dsimp only [tAsg]
            refine lc_text (c :: r) (fun c => !alnB c) (fun c => .str (tx [c])) (by omega) (fun R h => ⟨_, rfl, h⟩) (fun _ => rfl) (fun d _ H' R h => ?_) (fun d _ _ H' R h => ?_) (fun D H1 nD s2 hD => ?_)
            · walk_at "wp"
              by_cases hd : d ∈ (Str.ofString "abcdefghijklmnopqrstuvwxyz0123456789").cps <;> simp [alnB, hd] at h ⊢ <;> exact h
            · walk_at "wp"
              exact h
            · refine ⟨D, s1.trans s2, ?_, rfl⟩
              rw [hD, List.map_map]
              rfl
          · rintro σ' H2 ⟨D, s2, hD, rfl⟩
            have hA : ∀ z ∈ ((c :: r).filter fun c => !alnB c).map (fun c => tx [c]), AscS z := fun z hz => by
              obtain ⟨c', hc, rfl⟩ := List.mem_map.mp hz
              intro d hd
              have e : d = c' := by simpa using hd
              rw [e]
              exact asc _ (List.mem_filter.mp hc).1
            refine ⟨_, rfl, Nat.zero_le _, fun p np => ?_⟩
            refine ⟨_, _, dp_strs (SqL.of ((same_new np) _ _ hD)), dp_strs (ss := []) (SqL.of upd_same), shaped_strs hA, shaped_strs (fun _ z => nomatch z), ?_⟩
            rw [eqv_strs]
            have h1 := q _ (s2.trans (same_new (o := .lst []) np))
            rw [nameL_cons, hv] at h1
            cases c3 : (c :: r).all alnB with
            | true =>
              have ee : ((c :: r).filter fun c => !alnB c) = [] := by
                rw [List.filter_eq_nil_iff]
                intro c' hc
                simp [List.all_eq_true.mp c3 c' hc]
              rw [c3] at h1
              rw [ee]
              refine ⟨true, by simp, ?_⟩
              walk_at "wp"
              rw [tx_len] at hz ⊢
              refine ⟨hz, ?_⟩
              by_cases c4 : (c :: r).length ≤ 8
              · rw [if_pos (by omega)]
                refine ⟨hz, c, atI_zero, ?_⟩
                rw [decide_eq_true c4] at h1
                simpa [dgB] using h1
              · rw [if_neg (by omega)]
                rw [decide_eq_false c4] at h1
                simpa using h1
            | false =>
              have ee : ((c :: r).filter fun c => !alnB c) ≠ [] := fun z => by
                rw [List.filter_eq_nil_iff] at z
                have : (c :: r).all alnB = true := List.all_eq_true.mpr fun c' hc => by simpa using z c' hc
                rw [this] at c3
                cases c3
              have e2 : ¬ (((c :: r).filter fun c => !alnB c).map (fun c => tx [c]) = []) := fun z => ee (List.map_eq_nil_iff.mp z)
              rw [c3] at h1
              refine ⟨false, by rw [show decide (((c :: r).filter fun c => !alnB c).map (fun c => tx [c]) = []) = false from decide_eq_false e2], ?_⟩
              walk_at "wp"
              simpa using h1
    · refine ⟨fun _ _ => False, ?_, fun _ _ z => z.elim⟩
      refine ⟨_, rfl, _, _, _, _, false, rfl, .ty _, ty, kt, _, rfl, ?_⟩
      exact q
def optW : Option Int → V
  | none => .non
  | some i => .int i
def sp__law_whole_is : Sp := fun vs H Q _ => ∃ a : Option Int, vs = [optW a, optW a] ∧ Q (.bl true) H
theorem ok__law_whole_is (T : Txt K mg) : FnOk P w K mg base CX0 1 T.f__law_whole_is T.fd__law_whole_is ["_law_found", "_law_due"] sp__law_whole_is := by
  refine T.F__law_whole_is.ok sc__law_whole_is (fun vs H Q E h => ?_) (fun cdv A outer s H vs Q E hr h => ?_)
  · obtain ⟨x, rfl, _⟩ := h
    rfl
  · obtain ⟨a, rfl, q⟩ := h
    refine ⟨_, (pss_cons (ps_if (pt_cmpR op_isN (pv 1) pe_non (nomark _))
            (pss_one (ps_ret (pe_cmpR op_isN (pv 0) pe_non (nomark _))))
            pss_nil)
          (pss_one (ps_ret (pe_and (pe_callB call_isi (by rfl) T.b_isinstance (by decide +kernel) (pa_cons (pv 0) (pa_cons (pe_bltn (v := .ty "int") (by rfl) T.b_int (by decide +kernel) rfl) pa_nil))) (pe_and (pe_not (pe_callB call_isi (by rfl) T.b_isinstance (by decide +kernel) (pa_cons (pv 0) (pa_cons (pe_bltn (v := .ty "bool") (by rfl) T.b_bool (by decide +kernel) rfl) pa_nil)))) (pe_one (pe_cmpR op_eq (pv 0) (pv 1) (nomark _)))))))), ?_⟩
    cases a with
    | none =>
      walk_at "wp"
      simp [optW]
      exact q
    | some i =>
      walk_at "wp"
      simp [optW]
      refine ⟨_, _, _, _, true, rfl, .ty _, .base (.int _), kit_ty (by decide +kernel), ?_⟩
      simp
      refine ⟨_, _, _, _, false, rfl, .ty _, .base (.int _), kit_ty (by decide +kernel), ?_⟩
      simpa using q
def sp__law_signs : Sp := fun vs H Q _ => vs = [] ∧ Q (.str (Str.ofString " !\"#$&'()*+,-./0123456789:;<=>?@ABCDEFGHIJKLMNOPQRSTUVWXYZ[\\]^_`abcdefghijklmnopqrstuvwxyz{|}~")) H
theorem ok__law_signs (T : Txt K mg) : FnOk P w K mg base CX0 1 T.f__law_signs T.fd__law_signs [] sp__law_signs := by
  refine T.F__law_signs.ok sc__law_signs (fun vs H Q E h => ?_) (fun cdv A outer s H vs Q E hr h => ?_)
  · obtain ⟨rfl, _⟩ := h
    rfl
  · obtain ⟨rfl, q⟩ := h
    refine ⟨_, (pss_cons (ps_set (i := 0) sc__law_signs.nd rfl (.inl rfl) pe_str)
          (pss_one (ps_ret (pe_op op_add_str (pv 0) pe_str)))), ?_⟩
    walk_at "wp"
    refine ⟨by decide +kernel, ?_⟩
    exact q
def sp__law_mixed : Sp := fun vs H Q _ => ∃ (c k : Int), vs = [.int c, .int k] ∧ 0 ≤ k ∧ k ≤ 100 ∧ ∀ r : Int, 0 ≤ r → r < 2147483629 → Q (.int r) H
theorem ok__law_mixed (T : Txt K mg) : FnOk P w K mg base CX0 1 T.f__law_mixed T.fd__law_mixed ["_law_cell", "_law_k"] sp__law_mixed := by
  refine T.F__law_mixed.ok sc__law_mixed (fun vs H Q E h => ?_) (fun cdv A outer s H vs Q E hr h => ?_)
  · obtain ⟨c, k, rfl, _⟩ := h
    rfl
  · obtain ⟨c, k, rfl, k0, k1, q⟩ := h
    refine ⟨_, (pss_cons (ps_set (i := 2) sc__law_mixed.nd rfl (.inl rfl) (pe_op op_mod (pe_op op_mul (pe_op op_add (pe_op op_add (pe_op op_mod (pv 0) pe_int) (pe_op op_mul (pe_op op_mul pe_int (pv 1)) (pv 1))) pe_int) pe_int) pe_int))
          (pss_one (ps_ret (pe_op op_mod (pe_op op_mul (pv 2) (pe_op op_add pe_int (pe_op op_mul pe_int (pv 1)))) pe_int)))), ?_⟩
    walk_at "wp"
    refine ⟨.inl (by omega), .inr (by omega), ?_⟩
    exact q _ (Int.emod_nonneg _ (by decide)) (Int.emod_lt_of_pos _ (by decide))
end
end K01

namespace K01
open PySem PySem.Spec PyProof.Rows L2 Pre
local macro_rules | `(tactic| walk_at "wp") => `(tactic| simp [tSeq, tAsg, tOp, tVar, tC, rI, rI0, gName, tRet, L2.start, CMul, CDiv, CPow, tIfS, tNot, tOr, tAnd, tTest, tB, tChain, tCB, tCons, tNil, tIf, tSl, tPart, tNoPart, tM1, tM0, rEq, rNe, scal, tOrV, tAndV, tNotV, tNext, rIxS, rSlS, tUn, rU, wipe, tBreak, tTup, tLst, tCall, -List.all_eq_true])
def Okz (z : Str) : Prop := AscS z ∧ z.length ≤ 30
theorem okz_app {a b : Str} (ha : AscS a) (hb : AscS b) : AscS (a ++ b) := fun c hc => by
  have e : (a ++ b).cps.toList = a.cps.toList ++ b.cps.toList := TL.tl_append a b
  rw [e] at hc
  rcases List.mem_append.mp hc with h | h
  · exact ha c h
  · exact hb c h
theorem len_app (a b : Str) : (a ++ b).length = a.length + b.length := by
  rw [TL.len_tl, TL.tl_append, List.length_append, ← TL.len_tl, ← TL.len_tl]
theorem asc_cut {z : Str} (h : AscS z) (lo hi : Option Int) : AscS (cutS z lo hi) := fun c hc =>
  h c (List.mem_of_mem_drop (List.mem_of_mem_take hc))
theorem len_cut (z : Str) (lo hi : Option Int) : (cutS z lo hi).length ≤ z.length := by
  rw [TL.len_tl, TL.len_tl z]
  show ((z.cps.toList.drop _).take _).length ≤ z.cps.toList.length
  rw [List.length_take, List.length_drop]
  omega
theorem asc_one {c : Nat} (h : c < 128) : AscS ({ cps := #[c] } : Str) := fun d hd => by
  have e : d = c := by simpa using hd
  rw [e]
  exact h
theorem asc_all {s : String} (h : ((Str.ofString s).cps.toList.all fun c => decide (c < 128)) = true) : AscS (Str.ofString s) := fun c hc => of_decide_eq_true (List.all_eq_true.mp h c hc)
theorem len_one (c : Nat) : ({ cps := #[c] } : Str).length = 1 := rfl
section
variable {P : Program} {w : World} {K : PySem.W.Frag} {mg : Str → Option Value} {base : Heap}
def sp__law_name : Sp := fun vs H Q _ => ∃ n : Int, vs = [.int n] ∧ 0 ≤ n ∧ ∀ (H' : Hp) (z : Str), Same H H' → Okz z → Q (.str z) H'
theorem ok__law_name (T : Txt K mg) : FnOk P w K mg base CX0 2 T.f__law_name T.fd__law_name ["_law_number_here"] sp__law_name := by
  have G__law_mixed := ok__law_mixed (P := P) (w := w) (base := base) T
  have G__law_signs := ok__law_signs (P := P) (w := w) (base := base) T
  refine T.F__law_name.ok sc__law_name (fun vs H Q E h => ?_) (fun cdv A outer s H vs Q E hr h => ?_)
  · obtain ⟨x, rfl, _⟩ := h
    rfl
  · obtain ⟨n, rfl, hn, q⟩ := h
    refine ⟨_, (pss_cons (ps_set (i := 1) sc__law_name.nd rfl (.inl rfl) pe_str)
          (pss_cons (ps_set (i := 2) sc__law_name.nd rfl (.inl rfl) (pe_op op_add pe_int (pe_op op_mod (pv 0) pe_int)))
          (pss_cons (ps_set (i := 3) sc__law_name.nd rfl (.inl rfl) (pe_ix ix_str (pv 1) (pe_op op_mod (pe_op op_fdiv (pv 0) pe_int) pe_int) (fun _ _ => rfl)))
          (Evl.pss_cut (ps_for PassesOwn.never rfl (pi_range1 (by rfl) T.b_range (pa_cons (pe_op op_sub (pv 2) pe_int) pa_nil)) (pg_name (i := 4) sc__law_name.nd rfl (Or.inl rfl))
            (pss_one (ps_set (i := 3) sc__law_name.nd rfl (.inl rfl) (pe_op op_add_str (pv 3) (pe_ix ix_str (pe_op op_add_str (pv 1) pe_str) (pe_op op_mod (pe_op op_fdiv (pe_call G__law_mixed hr (by rfl) T.G__law_mixed T.F__law_mixed.kp T.B__law_mixed .nil pass0 (pa_cons (pv 0) (pa_cons (pv 4) pa_nil))) pe_int) pe_int) (fun _ _ => rfl))))))
          (pss_cons (ps_set (i := 5) sc__law_name.nd rfl (.inl rfl) (pe_op op_mod (pe_op op_fdiv (pv 0) pe_int) (pv 2)))
          (Evl.pss_cut (ps_if (pt_cmpR op_eq (pe_op op_mod (pe_op op_fdiv (pv 0) pe_int) pe_int) pe_int (nomark _))
            (pss_one (ps_ret (pe_op op_add_str (pe_op op_add_str (pe_slice sl_str (pv 3) po_none (po_some (pv 5))) (pe_ix ix_str (pe_call0 G__law_signs hr (by rfl) T.G__law_signs T.F__law_signs.kp T.B__law_signs .nil pass0) (pe_op op_mod (pe_op op_fdiv (pv 0) pe_int) pe_int) (fun _ _ => rfl))) (pe_slice sl_str (pv 3) (po_some (pe_op op_add (pv 5) pe_int)) po_none))))
            pss_nil)
          (Evl.pss_cut (ps_set (i := 6) sc__law_name.nd rfl (.inl rfl) (pe_ix ix_list (pe_lst (pa_cons pe_str (pa_cons pe_str (pa_cons pe_str (pa_cons pe_str (pa_cons pe_str (pa_cons pe_str pa_nil))))))) (pe_op op_mod (pe_op op_fdiv (pv 0) pe_int) pe_int) (fun _ _ => rfl)))
          (pss_one (ps_ret (pe_ix ix_list (pe_lst (pa_cons (pv 6) (pa_cons (pe_op op_add_str (pv 6) pe_str) (pa_cons (pe_slice sl_str (pv 6) (po_some pe_int) po_none) (pa_cons (pe_op op_add_str pe_str (pv 6)) (pa_cons (pe_upper (pv 6)) (pa_cons (pv 3) pa_nil))))))) (pe_callB (call_min2 rfl) (by rfl) T.b_min (by decide +kernel) (pa_cons pe_int (pa_cons (pe_op op_mod (pe_op op_fdiv (pv 0) pe_int) pe_int) pa_nil))) (fun _ _ => rfl))))))))))), ?_⟩
    have hle : (Str.ofString "abcdefghijklmnopqrstuvwxyz").cps.toList.length = 26 := by decide +kernel
    have hlA : AscS (Str.ofString "abcdefghijklmnopqrstuvwxyz") := asc_all (by decide +kernel)
    have hm : ∀ (i : Int) (m : Int), 0 < m → 0 ≤ i % m ∧ i % m < m := fun i m h => ⟨Int.emod_nonneg _ (by omega), Int.emod_lt_of_pos _ h⟩
    have item : ∀ (z : Str) (i : Int), AscS z → 0 ≤ i → i < z.cps.toList.length → ∃ c, atI z.cps.toList i = some c ∧ c < 128 := fun z i hz h0 h1 => by
      obtain ⟨c, e, hc⟩ := atI_lt h0 h1
      exact ⟨c, e, hz c hc⟩
    walk_at "wp"
    refine ⟨by decide +kernel, ?_⟩
    obtain ⟨c0, e0, a0⟩ := item (Str.ofString "abcdefghijklmnopqrstuvwxyz") (n / 9 % 26) hlA (hm _ 26 (by decide)).1 (by rw [hle]; exact (hm _ 26 (by decide)).2)
    refine ⟨c0, e0, ?_⟩
    have h9 := hm n 9 (by decide)
    refine ⟨fun σ' H' => H' = H ∧ ∃ wd v, AscS wd ∧ wd.length ≤ 10 ∧ σ' = [some (.int n), some (.str (Str.ofString "abcdefghijklmnopqrstuvwxyz")), some (.int (1 + n % 9)), some (.str wd), v, none, none], ?_, ?_⟩
    · refine ⟨_, rfl, _, _, rfl, rfl, _, rfl, by omega, by omega, for_it walk_range (fun k σ' H' => H' = H ∧ ∃ wd v, AscS wd ∧ wd.length = k + 1 ∧ σ' = [some (.int n), some (.str (Str.ofString "abcdefghijklmnopqrstuvwxyz")), some (.int (1 + n % 9)), some (.str wd), v, none, none]) ⟨rfl, _, _, asc_one a0, rfl, rfl⟩ (fun _ _ _ _ _ => trivial) (fun k x σ' H' H'' hk hP hY => ?_) (fun σ' H' hP => ?_)⟩
      · obtain ⟨rfl, rfl⟩ := hY
        obtain ⟨rfl, wd, v, hw, hl, rfl⟩ := hP
        walk_at "wp"
        refine ⟨by decide +kernel, n, (k : Int), by simp, by omega, by omega, fun r r0 r1 => ?_⟩
        have e36 : (Str.ofString "abcdefghijklmnopqrstuvwxyz" ++ Str.ofString "0123456789") = Str.ofString "abcdefghijklmnopqrstuvwxyz0123456789" := by decide +kernel
        have l36 : (Str.ofString "abcdefghijklmnopqrstuvwxyz0123456789").cps.toList.length = 36 := by decide +kernel
        obtain ⟨c, ec, ac⟩ := item (Str.ofString "abcdefghijklmnopqrstuvwxyz0123456789") (r / 5 % 36) (asc_all (by decide +kernel)) (hm _ 36 (by decide)).1 (by rw [l36]; exact (hm _ 36 (by decide)).2)
        simp
        rw [e36]
        refine ⟨by decide +kernel, c, ec, ?_, okz_app hw (asc_one ac), ?_⟩
        · rw [hl, len_one]
          exact sz (by omega)
        · rw [len_app, hl, len_one]
      · obtain ⟨rfl, wd, v, hw, hl, rfl⟩ := hP
        exact ⟨rfl, wd, v, hw, by omega, rfl⟩
    · rintro σ' H' ⟨rfl, wd, v, hw, hl, rfl⟩
      walk_at "wp"
      refine ⟨by omega, ?_⟩
      refine ⟨fun σ' H2 => H2 = H' ∧ ∃ v5, σ' = [some (.int n), some (.str (Str.ofString "abcdefghijklmnopqrstuvwxyz")), some (.int (1 + n % 9)), some (.str wd), v, v5, none], ?_, ?_⟩
      · walk_at "wp"
        intro _
        refine ⟨sz (by omega), rfl, ?_⟩
        have l94 : (Str.ofString " !\"#$&'()*+,-./0123456789:;<=>?@ABCDEFGHIJKLMNOPQRSTUVWXYZ[\\]^_`abcdefghijklmnopqrstuvwxyz{|}~").cps.toList.length = 94 := by decide +kernel
        obtain ⟨c, ec, ac⟩ := item (Str.ofString " !\"#$&'()*+,-./0123456789:;<=>?@ABCDEFGHIJKLMNOPQRSTUVWXYZ[\\]^_`abcdefghijklmnopqrstuvwxyz{|}~") (n / 12636 % 94) (asc_all (by decide +kernel)) (hm _ 94 (by decide)).1 (by rw [l94]; exact (hm _ 94 (by decide)).2)
        have k1 := len_cut wd none (some (n / 234 % (1 + n % 9)))
        have k2 := len_cut wd (some (n / 234 % (1 + n % 9) + 1)) none
        have k3 := len_one c
        refine ⟨_, rfl, by decide +kernel, c, ec, sz (by omega), sz (by omega), ?_, q _ _ (Same.refl _) ⟨okz_app (okz_app (asc_cut hw _ _) (asc_one ac)) (asc_cut hw _ _), ?_⟩⟩
        · rw [len_app]
          exact sz (by omega)
        · rw [len_app, len_app]
          omega
      · rintro σ2 H2 ⟨rfl, v5, rfl⟩
        refine ⟨fun σ' H3 => Same H2 H3 ∧ ∃ td, td ∈ [Str.ofString "tunes", Str.ofString "near", Str.ofString "station", Str.ofString "apart", Str.ofString "fix", Str.ofString "bar"] ∧ σ' = [some (.int n), some (.str (Str.ofString "abcdefghijklmnopqrstuvwxyz")), some (.int (1 + n % 9)), some (.str wd), v, v5, some (.str td)], ?_, ?_⟩
        · walk_at "wp"
          refine ⟨by decide, fun p np => ?_⟩
          obtain ⟨v, ev, hv⟩ := atI_lt (xs := [V.str (Str.ofString "tunes"), V.str (Str.ofString "near"), V.str (Str.ofString "station"), V.str (Str.ofString "apart"), V.str (Str.ofString "fix"), V.str (Str.ofString "bar")]) (hm (n / 12636) 6 (by decide)).1 (hm (n / 12636) 6 (by decide)).2
          refine ⟨p, _, _, v, rfl, rfl, SqL.of upd_same, ev, same_new np, ?_⟩
          simpa using hv
        · rintro σ3 H3 ⟨s3, td, ht, rfl⟩
          have a1 : td.length ≤ 10 ∧ AscS td ∧ AscS (Txt.upper td) ∧ (Txt.upper td).length ≤ 30 := by
            have key : ([Str.ofString "tunes", Str.ofString "near", Str.ofString "station", Str.ofString "apart", Str.ofString "fix", Str.ofString "bar"].all fun z => decide (z.length ≤ 10) && z.cps.toList.all (fun c => decide (c < 128)) && (Txt.upper z).cps.toList.all (fun c => decide (c < 128)) && decide ((Txt.upper z).length ≤ 30)) = true := by decide +kernel
            have k := List.all_eq_true.mp key td ht
            simp only [Bool.and_eq_true, decide_eq_true_eq] at k
            exact ⟨k.1.1.1, fun c hc => of_decide_eq_true (List.all_eq_true.mp k.1.1.2 c hc), fun c hc => of_decide_eq_true (List.all_eq_true.mp k.1.2 c hc), k.2⟩
          obtain ⟨a1, a2, a3, a4⟩ := a1
          have b1 : (Str.ofString "s").length = 1 := by decide +kernel
          have b2 : (Str.ofString "1").length = 1 := by decide +kernel
          have k2 := len_cut td (some 1) none
          walk_at "wp"
          refine ⟨sz (by omega), sz (by omega), sz (by omega), by omega, by decide, fun p np => ⟨_, _, ⟨rfl, rfl⟩, ?_⟩⟩
          have h30 := hm (n / 75816) 30 (by decide)
          obtain ⟨v, ev, hv⟩ := atI_lt (xs := [V.str td, V.str (td ++ Str.ofString "s"), V.str (cutS td (some 1) none), V.str (Str.ofString "1" ++ td), V.str (Txt.upper td), V.str wd]) (i := if n / 75816 % 30 < 5 then n / 75816 % 30 else 5) (by split <;> omega) (by show _ < (6 : Int); split <;> omega)
          refine ⟨p, _, _, v, rfl, rfl, SqL.of upd_same, ev, ?_⟩
          have s4 := s3.trans (same_new (o := .lst [V.str td, V.str (td ++ Str.ofString "s"), V.str (cutS td (some 1) none), V.str (Str.ofString "1" ++ td), V.str (Txt.upper td), V.str wd]) np)
          have as : AscS (Str.ofString "s") := asc_all (by decide +kernel)
          have a11 : AscS (Str.ofString "1") := asc_all (by decide +kernel)
          simp only [List.mem_cons, List.not_mem_nil, or_false] at hv
          rcases hv with rfl | rfl | rfl | rfl | rfl | rfl
          · exact q _ _ s4 ⟨a2, by omega⟩
          · exact q _ _ s4 ⟨okz_app a2 as, by rw [len_app]; omega⟩
          · exact q _ _ s4 ⟨asc_cut a2 _ _, by omega⟩
          · exact q _ _ s4 ⟨okz_app a11 a2, by rw [len_app]; omega⟩
          · exact q _ _ s4 ⟨a3, a4⟩
          · exact q _ _ s4 ⟨hw, by omega⟩
def sp__law_figures : Sp := fun vs H Q _ => ∃ n : Int, vs = [.int n] ∧ 0 ≤ n ∧ ∀ (H' : Hp) (z : Str), Same H H' → Okz z → Q (.str z) H'
theorem ok__law_figures (T : Txt K mg) : FnOk P w K mg base CX0 2 T.f__law_figures T.fd__law_figures ["_law_number_here"] sp__law_figures := by
  have G__law_signs := ok__law_signs (P := P) (w := w) (base := base) T
  refine T.F__law_figures.ok sc__law_figures (fun vs H Q E h => ?_) (fun cdv A outer s H vs Q E hr h => ?_)
  · obtain ⟨x, rfl, _⟩ := h
    rfl
  · obtain ⟨n, rfl, hn, q⟩ := h
    refine ⟨_, (Evl.pss_cut (ps_set (i := 1) sc__law_figures.nd rfl (.inl rfl) (pe_ix ix_list (pe_lst (pa_cons (pe_op op_add pe_int (pe_op op_mod (pv 0) pe_int)) (pa_cons (pe_op op_add pe_int (pe_op op_mod (pv 0) pe_int)) (pa_cons (pe_op op_mod (pv 0) pe_int) pa_nil)))) (pe_op op_mod (pe_op op_fdiv (pv 0) pe_int) pe_int) (fun _ _ => rfl)))
          (Evl.pss_cut (ps_set (i := 2) sc__law_figures.nd rfl (.inl rfl) (pe_slice sl_str (pe_callTy call_str_int (by rfl) T.b_str (by decide +kernel) (pa_cons (pe_op op_add (pe_op op_pow pe_int pe_int) (pe_op op_mod (pe_op op_mul (pv 0) (pe_op op_pow pe_int pe_int)) (pe_op op_pow pe_int pe_int))) pa_nil)) (po_some pe_int) (po_some (pe_op op_add pe_int (pv 1)))))
          (Evl.pss_cut (ps_set (i := 3) sc__law_figures.nd rfl (.inl rfl) (pe_ix ix_list (pe_lst (pa_cons pe_str (pa_cons pe_str (pa_cons pe_str (pa_cons pe_str (pa_cons pe_str (pa_cons pe_str (pa_cons pe_str pa_nil)))))))) (pe_op op_mod (pe_op op_fdiv (pv 0) pe_int) pe_int) (fun _ _ => rfl)))
          (Evl.pss_cut (ps_if (pt_cmpR op_eq (pe_op op_mod (pe_op op_fdiv (pv 0) pe_int) pe_int) pe_int (nomark _))
            (pss_one (ps_set (i := 2) sc__law_figures.nd rfl (.inl rfl) (pe_op op_add_str (pe_op op_add_str (pe_slice sl_str (pv 2) po_none (po_some pe_int)) (pe_ix ix_str (pe_call0 G__law_signs hr (by rfl) T.G__law_signs T.F__law_signs.kp T.B__law_signs .nil pass0) (pe_op op_mod (pe_op op_fdiv (pv 0) pe_int) pe_int) (fun _ _ => rfl))) (pe_slice sl_str (pv 2) (po_some pe_int) po_none))))
            pss_nil)
          (pss_one (ps_ret (pe_op op_add_str (pv 3) (pv 2)))))))), ?_⟩
    have hm : ∀ (i : Int) (m : Int), 0 < m → 0 ≤ i % m ∧ i % m < m := fun i m h => ⟨Int.emod_nonneg _ (by omega), Int.emod_lt_of_pos _ h⟩
    refine ⟨fun σ' H' => Same H H' ∧ ∃ i : Int, 0 ≤ i ∧ i ≤ 9 ∧ σ' = [some (.int n), some (.int i), none, none], ?_, ?_⟩
    · walk_at "wp"
      refine ⟨by decide, fun p np => ?_⟩
      have h3 := hm n 3 (by decide)
      have h9 := hm n 9 (by decide)
      obtain ⟨v, ev, hv⟩ := atI_lt (xs := [V.int (1 + n % 3), V.int (6 + n % 3), V.int (n % 9)]) (hm (n / 9) 3 (by decide)).1 (hm (n / 9) 3 (by decide)).2
      refine ⟨p, _, _, v, rfl, rfl, SqL.of upd_same, ev, same_new np, ?_⟩
      simp only [List.mem_cons, List.not_mem_nil, or_false] at hv
      rcases hv with rfl | rfl | rfl
      · exact ⟨_, by omega, by omega, rfl⟩
      · exact ⟨_, by omega, by omega, rfl⟩
      · exact ⟨_, by omega, by omega, rfl⟩
    rintro σ1 H1 ⟨s1, i, i0, i9, rfl⟩
    refine ⟨fun σ' H' => H' = H1 ∧ ∃ z, AscS z ∧ z.length ≤ 11 ∧ σ' = [some (.int n), some (.int i), some (.str z), none], ?_, ?_⟩
    · have h9 := hm (n * 2330089441) 1000000000 (by decide)
      have ex : ∃ m : Nat, (10000000000 : Int) + n * 2330089441 % 1000000000 = (m : Int) ∧ m < 10 ^ 11 := ⟨(10000000000 + n * 2330089441 % 1000000000).toNat, by omega, by omega⟩
      obtain ⟨m, em, hm11⟩ := ex
      walk_at "wp"
      rw [em]
      have hl := TL.numL_len (n := m) (k := 11) (by decide) hm11
      have ez : Str.ofString ((m : Int)).repr = tx (TL.numL m) := TL.ext_tl (TL.tl_num m)
      have hz : (Str.ofString ((m : Int)).repr).length ≤ 11 := by rw [ez, tx_len]; exact hl
      have az : AscS (Str.ofString ((m : Int)).repr) := by
        rw [ez]
        intro c hc
        have := TL.numL_digits m c hc
        omega
      refine ⟨?_, sz (by omega), asc_cut az _ _, Nat.le_trans (len_cut _ _ _) hz⟩
      rw [Int.natAbs_natCast]
      by_cases m0 : m = 0
      · rw [m0]
        decide
      · have : m.log2 < 64 := (Nat.log2_lt m0).mpr (Nat.lt_of_lt_of_le hm11 (by decide))
        omega
    rintro σ2 H2 ⟨rfl, z, az, lz, rfl⟩
    refine ⟨fun σ' H' => Same H H' ∧ ∃ hd, AscS hd ∧ hd.length ≤ 2 ∧ σ' = [some (.int n), some (.int i), some (.str z), some (.str hd)], ?_, ?_⟩
    · walk_at "wp"
      refine ⟨by decide, fun p np => ?_⟩
      obtain ⟨v, ev, hv⟩ := atI_lt (xs := [V.str (Str.ofString ""), V.str (Str.ofString ""), V.str (Str.ofString "-"), V.str (Str.ofString "0"), V.str (Str.ofString "-0"), V.str (Str.ofString "+"), V.str (Str.ofString "--")]) (hm (n / 27) 7 (by decide)).1 (hm (n / 27) 7 (by decide)).2
      refine ⟨p, _, _, v, rfl, rfl, SqL.of upd_same, ev, s1.trans (same_new np), ?_⟩
      simp only [List.mem_cons, List.not_mem_nil, or_false] at hv
      rcases hv with rfl | rfl | rfl | rfl | rfl | rfl | rfl <;> exact ⟨_, asc_all (by decide +kernel), by decide +kernel, rfl⟩
    rintro σ3 H3 ⟨s3, hd, ah, lh, rfl⟩
    refine ⟨fun σ' H' => Same H H' ∧ ∃ z, AscS z ∧ z.length ≤ 25 ∧ σ' = [some (.int n), some (.int i), some (.str z), some (.str hd)], ?_, ?_⟩
    · walk_at "wp"
      by_cases c1 : n / 189 % 9 = 1
      · rw [if_pos c1]
        refine ⟨sz (by omega), rfl, ?_⟩
        have l94 : (Str.ofString " !\"#$&'()*+,-./0123456789:;<=>?@ABCDEFGHIJKLMNOPQRSTUVWXYZ[\\]^_`abcdefghijklmnopqrstuvwxyz{|}~").cps.toList.length = 94 := by decide +kernel
        obtain ⟨c, ec, hc⟩ := atI_lt (xs := (Str.ofString " !\"#$&'()*+,-./0123456789:;<=>?@ABCDEFGHIJKLMNOPQRSTUVWXYZ[\\]^_`abcdefghijklmnopqrstuvwxyz{|}~").cps.toList) (i := n / 1701 % 94) (hm _ 94 (by decide)).1 (by rw [l94]; exact (hm _ 94 (by decide)).2)
        have ac : c < 128 := asc_all (by decide +kernel) c hc
        have k1 := len_cut z none (some 1)
        have k2 := len_cut z (some 1) none
        have k3 := len_one c
        refine ⟨_, rfl, by decide +kernel, c, ec, sz (by omega), sz (by omega), ?_, s3, okz_app (okz_app (asc_cut az _ _) (asc_one ac)) (asc_cut az _ _), ?_⟩
        · rw [len_app]
          exact sz (by omega)
        · rw [len_app, len_app]
          omega
      · rw [if_neg c1]
        exact ⟨s3, az, by omega⟩
    rintro σ4 H4 ⟨s4, z4, az4, lz4, rfl⟩
    walk_at "wp"
    refine ⟨sz (by omega), q _ _ s4 ⟨okz_app ah az4, by rw [len_app]; omega⟩⟩
end
end K01

namespace K01
open PySem PySem.Spec PyProof.Rows L2 Pre
local macro_rules | `(tactic| walk_at "wp") => `(tactic| simp [tSeq, tAsg, tOp, tVar, tC, rI, rI0, gName, tRet, L2.start, CMul, CDiv, CPow, tIfS, tNot, tOr, tAnd, tTest, tB, tChain, tCB, tCons, tNil, tIf, tSl, tPart, tNoPart, tM1, tM0, rEq, rNe, scal, tOrV, tAndV, tNotV, tNext, rIxS, rSlS, tUn, rU, wipe, tBreak, tTup, tLst, tCall, -List.all_eq_true])
theorem low_iff (c : Nat) : c ∈ (Str.ofString "abcdefghijklmnopqrstuvwxyz").cps ↔ 97 ≤ c ∧ c ≤ 122 := by
  have e : (Str.ofString "abcdefghijklmnopqrstuvwxyz").cps = #[97,98,99,100,101,102,103,104,105,106,107,108,109,110,111,112,113,114,115,116,117,118,119,120,121,122] := by decide +kernel
  rw [e]
  simp
  omega
theorem fig_iff (c : Nat) : c ∈ (Str.ofString "0123456789").cps ↔ 48 ≤ c ∧ c ≤ 57 := by
  have e : (Str.ofString "0123456789").cps = #[48, 49, 50, 51, 52, 53, 54, 55, 56, 57] := by decide +kernel
  rw [e]
  simp
  omega
theorem aln_iff (c : Nat) : c ∈ (Str.ofString "abcdefghijklmnopqrstuvwxyz0123456789").cps ↔ (97 ≤ c ∧ c ≤ 122) ∨ (48 ≤ c ∧ c ≤ 57) := by
  have e : (Str.ofString "abcdefghijklmnopqrstuvwxyz0123456789").cps = #[97,98,99,100,101,102,103,104,105,106,107,108,109,110,111,112,113,114,115,116,117,118,119,120,121,122,48, 49, 50, 51, 52, 53, 54, 55, 56, 57] := by decide +kernel
  rw [e]
  simp
  omega
theorem aln_eq (c : Nat) : alnB c = (decide (c ∈ (Str.ofString "abcdefghijklmnopqrstuvwxyz").cps) || decide (c ∈ (Str.ofString "0123456789").cps)) := by
  unfold alnB
  rw [← Bool.decide_or, decide_eq_decide, low_iff, fig_iff, aln_iff]
theorem seven_eq (c : Nat) (r : List Nat) : inV (.str (tx (c :: r))) sevenW = inV (.str (tx (c :: r))) [.str "tunes", .str "near", .str "station", .str "apart", .str "fix", .str "bar"] := by
  have e : (Str.ofString "" == tx (c :: r)) = false := by
    rw [show Str.ofString "" = tx [] by decide +kernel]
    exact beq_eq_false_iff_ne.mpr fun z => by
      have := tx_inj.mp z
      cases this
  simp only [inV, List.any_cons, List.any_nil, eqV, e, Bool.or_false]
/-- the program's look and the law's are one -/
theorem name_same : ∀ l : List Nat, nameP l = nameL l
  | [] => rfl
  | c :: r => by
    rw [nameP_cons, nameL_cons, seven_eq]
    have ea : ((c :: r).all fun c => decide (c ∈ (Str.ofString "abcdefghijklmnopqrstuvwxyz").cps) || decide (c ∈ (Str.ofString "0123456789").cps)) = (c :: r).all alnB := by
      congr 1
      funext d
      exact (aln_eq d).symm
    rw [ea]
    cases h : (c :: r).all alnB with
    | false => simp
    | true =>
      have hc : alnB c = true := List.all_eq_true.mp h c List.mem_cons_self
      have e : decide (c ∈ (Str.ofString "abcdefghijklmnopqrstuvwxyz").cps) = !dgB c := by
        unfold dgB
        rw [aln_eq] at hc
        by_cases h1 : c ∈ (Str.ofString "abcdefghijklmnopqrstuvwxyz").cps
        · have : ¬ c ∈ (Str.ofString "0123456789").cps := fun h2 => by
            rw [low_iff] at h1
            rw [fig_iff] at h2
            omega
          simp [h1, this]
        · simp only [h1, decide_false, Bool.false_or, decide_eq_true_eq] at hc
          simp [h1, hc]
      rw [e]
      cases inV (.str (tx (c :: r))) [.str "tunes", .str "near", .str "station", .str "apart", .str "fix", .str "bar"] <;> cases dgB c <;> simp
theorem wl_mem : ∀ (l w : List Nat), ∀ p ∈ wl l w, ∀ c ∈ p, c ∈ w ∨ c ∈ l
  | [], w, p, hp, c, hc => by
    unfold wl at hp
    split at hp
    · rw [List.mem_singleton.mp hp] at hc
      exact .inl hc
    · cases hp
  | d :: r, w, p, hp, c, hc => by
    unfold wl at hp
    split at hp
    · split at hp
      · rw [List.mem_singleton.mp hp] at hc
        exact .inl hc
      · cases hp
    · split at hp
      · rcases wl_mem r _ p hp c hc with h | h
        · rcases List.mem_append.mp h with h | h
          · exact .inl h
          · rw [List.mem_singleton.mp h]
            exact .inr List.mem_cons_self
        · exact .inr (List.mem_cons_of_mem _ h)
      · split at hp
        · rcases List.mem_cons.mp hp with e | hp
          · rw [e] at hc
            exact .inl hc
          · rcases wl_mem r _ p hp c hc with h | h
            · cases h
            · exact .inr (List.mem_cons_of_mem _ h)
        · rcases wl_mem r _ p hp c hc with h | h
          · cases h
          · exact .inr (List.mem_cons_of_mem _ h)
section
variable {P : Program} {w : World} {K : PySem.W.Frag} {mg : Str → Option Value} {base : Heap}
def sp__law_word : Sp := fun vs H Q _ => ∃ n : Int, vs = [.int n] ∧ 0 ≤ n ∧ ∀ (H' : Hp) (z : Str), Same H H' → Okz z → Q (.str z) H'
theorem ok__law_word (T : Txt K mg) : FnOk P w K mg base CX0 3 T.f__law_word T.fd__law_word ["_law_number_here"] sp__law_word := by
  have G__law_name := ok__law_name (P := P) (w := w) (base := base) T
  have G__law_figures := ok__law_figures (P := P) (w := w) (base := base) T
  refine T.F__law_word.ok sc__law_word (fun vs H Q E h => ?_) (fun cdv A outer s H vs Q E hr h => ?_)
  · obtain ⟨x, rfl, _⟩ := h
    rfl
  · obtain ⟨n, rfl, hn, q⟩ := h
    refine ⟨_, (pss_one (ps_ret (pe_ifExp (pt_cmpR op_eq (pe_op op_mod (pv 0) pe_int) pe_int (nomark _)) (pe_call G__law_name hr (by rfl) T.G__law_name T.F__law_name.kp T.B__law_name .nil pass0 (pa_cons (pe_op op_fdiv (pv 0) pe_int) pa_nil)) (pe_call G__law_figures hr (by rfl) T.G__law_figures T.F__law_figures.kp T.B__law_figures .nil pass0 (pa_cons (pe_op op_fdiv (pv 0) pe_int) pa_nil))))), ?_⟩
    walk_at "wp"
    by_cases c1 : n % 2 = 0
    · rw [if_pos c1]
      exact ⟨n / 2, rfl, by omega, q⟩
    · rw [if_neg c1]
      exact ⟨n / 2, rfl, by omega, q⟩
def Odd (K : PySem.W.Frag) (H : Hp) (v : V) : Prop := (∃ z, v = .str z ∧ Okz z) ∨ v = .non ∨ (∃ i, v = .int i) ∨ (∃ b, v = .bl b) ∨ (∃ a xs, v = .ref a ∧ H a = some (.lst xs)) ∨ (∃ a xs, v = .ref a ∧ H a = some (.tup xs)) ∨ (∃ a xs, v = .ref a ∧ H a = some (.dK xs))
theorem Odd.same {H H' : Hp} {v : V} (s : Same H H') (h : Odd K H v) : Odd K H' v := by
  rcases h with h | h | h | h | ⟨a, xs, e, h⟩ | ⟨a, xs, e, h⟩ | ⟨a, xs, e, h⟩
  · exact .inl h
  · exact .inr (.inl h)
  · exact .inr (.inr (.inl h))
  · exact .inr (.inr (.inr (.inl h)))
  · exact .inr (.inr (.inr (.inr (.inl ⟨a, xs, e, s _ _ h⟩))))
  · exact .inr (.inr (.inr (.inr (.inr (.inl ⟨a, xs, e, s _ _ h⟩)))))
  · exact .inr (.inr (.inr (.inr (.inr (.inr ⟨a, xs, e, s _ _ h⟩)))))
theorem Odd.thing {H : Hp} {v : V} (h : Odd K H v) : (∃ z, v = .str z ∧ Okz z) ∨ (∃ t, TyX K H v t ∧ PySem.W.kitOne K t (.type "str") = some false) := by
  rcases h with h | rfl | ⟨i, rfl⟩ | ⟨i, rfl⟩ | ⟨a, xs, rfl, h⟩ | ⟨a, xs, rfl, h⟩ | ⟨a, xs, rfl, h⟩
  · exact .inl h
  · exact .inr ⟨.type "NoneType", .base .non, kit_ty (by decide +kernel)⟩
  · exact .inr ⟨.type "int", .base (.int _), kit_ty (by decide +kernel)⟩
  · exact .inr ⟨.type "bool", .base (.bl _), kit_ty (by decide +kernel)⟩
  · exact .inr ⟨.type "list", .base (.lst h), kit_ty (by decide +kernel)⟩
  · exact .inr ⟨.type "tuple", .base (.tup h), kit_ty (by decide +kernel)⟩
  · exact .inr ⟨.type "dict", .base (.dK h), kit_ty (by decide +kernel)⟩
theorem ow (a : Option Int) : optV a = optW a := by cases a <;> rfl
def sp_law (K : PySem.W.Frag) : Sp := fun vs H Q _ => ∃ (a : Addr) (ns : List Int), vs = [.ref a] ∧ SqL K H a (ns.map V.int) ∧ ns.length ≤ 63 ∧ ∀ H', Q (.bl true) H'
theorem ok_law (T : Txt K mg) : FnOk P w K mg base CX0 4 T.f_law T.fd_law ["_law_script"] (sp_law K) := by
  have G__law_mixed := ok__law_mixed (P := P) (w := w) (base := base) T
  have G__law_word := ok__law_word (P := P) (w := w) (base := base) T
  have G_is_name := ok_is_name (P := P) (w := w) (base := base) T
  have G__law_is_name := ok__law_is_name (P := P) (w := w) (base := base) T
  have G_number_in := ok_number_in (P := P) (w := w) (base := base) T
  have G__law_number := ok__law_number (P := P) (w := w) (base := base) T
  have G__law_whole_is := ok__law_whole_is (P := P) (w := w) (base := base) T
  have G_words_of := ok_words_of (P := P) (w := w) (base := base) T
  have G__law_words := ok__law_words (P := P) (w := w) (base := base) T
  refine T.F_law.ok sc_law (fun vs H Q E h => ?_) (fun cdv A outer s H vs Q E hr h => ?_)
  · obtain ⟨a, ns, rfl, _⟩ := h
    rfl
  · obtain ⟨a, ns, rfl, hS, hlen, q⟩ := h
    refine ⟨_, (pss_cons (ps_set (i := 1) sc_law.nd rfl (.inl rfl) pe_str)
          (Evl.pss_cut (ps_for PassesOwn.never rfl (pi_enum (by rfl) T.b_enumerate (pa_cons (pe_op op_cat (pe_slice sl_list (pv 0) po_none (po_some pe_int)) (pe_lst (pa_cons pe_int pa_nil))) pa_nil)) (pg_tup rfl (pgs_cons (pg_name (i := 2) sc_law.nd rfl (Or.inl rfl)) (pgs_cons (pg_name (i := 3) sc_law.nd rfl (Or.inl rfl)) pgs_nil)))
            (pss_cons (ps_set (i := 4) sc_law.nd rfl (.inl rfl) (pe_call G__law_mixed (hr.mono (by decide)) (by rfl) T.G__law_mixed T.F__law_mixed.kp T.B__law_mixed .nil pass0 (pa_cons (pv 3) (pa_cons (pe_op op_mod (pv 2) pe_int) pa_nil))))
            (pss_cons (ps_set (i := 5) sc_law.nd rfl (.inl rfl) (pe_call G__law_word hr (by rfl) T.G__law_word T.F__law_word.kp T.B__law_word .nil pass0 (pa_cons (pe_op op_fdiv (pv 4) pe_int) pa_nil)))
            (Evl.pss_cut (ps_set (i := 6) sc_law.nd rfl (.inl rfl) (pe_ix ix_list (pe_lst (pa_cons pe_non (pa_cons pe_int (pa_cons pe_bl (pa_cons (pe_lst (pa_cons pe_str pa_nil)) (pa_cons (pe_tup (pa_cons pe_str pa_nil)) (pa_cons pe_dnewK (pa_cons pe_str (pa_cons pe_str (pa_cons pe_str (pa_cons pe_str (pa_cons pe_str (pa_cons pe_str pa_nil))))))))))))) (pe_op op_mod (pe_op op_fdiv (pv 4) pe_int) pe_int) (fun _ _ => rfl)))
            (Evl.pss_cut (ps_for PassesOwn.never rfl (pi_tup (pe_tup (pa_cons (pv 5) (pa_cons (pv 6) pa_nil)))) (pg_name (i := 7) sc_law.nd rfl (Or.inl rfl))
              (pss_cons (ps_set (i := 8) sc_law.nd rfl (.inl rfl) (pe_call G_is_name (hr.mono (by decide)) (by rfl) T.G_is_name T.F_is_name.kp T.B_is_name .nil pass0 (pa_cons (pv 7) pa_nil)))
              (pss_one (ps_if (PW.pt (pw_or (pt_not (pt_val (pe_callB call_isi (by rfl) T.b_isinstance (by decide +kernel) (pa_cons (pv 8) (pa_cons (pe_bltn (v := .ty "bool") (by rfl) T.b_bool (by decide +kernel) rfl) pa_nil))))) (pw_or1 (pt_cmpR op_ne (pv 8) (pe_call G__law_is_name (hr.mono (by decide)) (by rfl) T.G__law_is_name T.F__law_is_name.kp T.B__law_is_name .nil pass0 (pa_cons (pv 7) pa_nil)) (nomark _)))))
                (pss_one (ps_ret pe_bl))
                pss_nil))))
            (Evl.pss_cut (ps_if (pt_not (pt_val (pe_call G__law_whole_is (hr.mono (by decide)) (by rfl) T.G__law_whole_is T.F__law_whole_is.kp T.B__law_whole_is .nil pass0 (pa_cons (pe_call G_number_in (hr.mono (by decide)) (by rfl) T.G_number_in T.F_number_in.kp T.B_number_in .nil pass0 (pa_cons (pv 5) pa_nil)) (pa_cons (pe_call G__law_number (hr.mono (by decide)) (by rfl) T.G__law_number T.F__law_number.kp T.B__law_number .nil pass0 (pa_cons (pv 5) pa_nil)) pa_nil)))))
              (pss_one (ps_ret pe_bl))
              pss_nil)
            (Evl.pss_cut (ps_if (pt_not (pt_val (pe_call G__law_whole_is (hr.mono (by decide)) (by rfl) T.G__law_whole_is T.F__law_whole_is.kp T.B__law_whole_is .nil pass0 (pa_cons (pe_call G_number_in (hr.mono (by decide)) (by rfl) T.G_number_in T.F_number_in.kp T.B_number_in .nil pass0 (pa_cons (pe_ix ix_list (pe_lst (pa_cons pe_str (pa_cons pe_str (pa_cons pe_str (pa_cons pe_str pa_nil))))) (pe_op op_mod (pv 4) pe_int) (fun _ _ => rfl)) pa_nil)) (pa_cons (pe_ix ix_list (pe_lst (pa_cons pe_non (pa_cons pe_non (pa_cons pe_int (pa_cons pe_non pa_nil))))) (pe_op op_mod (pv 4) pe_int) (fun _ _ => rfl)) pa_nil)))))
              (pss_one (ps_ret pe_bl))
              pss_nil)
            (pss_one (ps_if (pt_cmpR op_lt (pv 2) pe_int (nomark _))
              (pss_one (ps_set (i := 1) sc_law.nd rfl (.inl rfl) (pe_op op_add_str (pe_op op_add_str (pv 1) (pe_ix ix_list (pe_lst (pa_cons pe_str (pa_cons pe_str (pa_cons pe_str (pa_cons pe_str pa_nil))))) (pe_callB (call_min2 rfl) (by rfl) T.b_min (by decide +kernel) (pa_cons pe_int (pa_cons (pe_op op_mod (pe_op op_fdiv (pv 4) pe_int) pe_int) pa_nil))) (fun _ _ => rfl))) (pv 5))))
              pss_nil)))))))))
          (pss_cons (ps_for PassesOwn.never rfl (pi_range1 (by rfl) T.b_range (pa_cons pe_int pa_nil)) (pg_name (i := 9) sc_law.nd rfl (Or.inl rfl))
            (pss_cons (ps_set (i := 8) sc_law.nd rfl (.inl rfl) (pe_call G_words_of (hr.mono (by decide)) (by rfl) T.G_words_of T.F_words_of.kp T.B_words_of .nil pass0 (pa_cons (pv 1) pa_nil)))
            (pss_cons (ps_if (PW.pt (pw_or (pt_not (pt_val (pe_callB call_isi (by rfl) T.b_isinstance (by decide +kernel) (pa_cons (pv 8) (pa_cons (pe_bltn (v := .ty "list") (by rfl) T.b_list (by decide +kernel) rfl) pa_nil))))) (pw_or1 (pt_cmpR (op_neD hr.units) (pv 8) (pe_call G__law_words (hr.mono (by decide)) (by rfl) T.G__law_words T.F__law_words.kp T.B__law_words .nil pass0 (pa_cons (pv 1) pa_nil)) (nomark _)))))
              (pss_one (ps_ret pe_bl))
              pss_nil)
            (pss_one (ps_expr (pe_bm PySem.F.plainAttrs_list PySem.F.slot_list_append PySem.F.type_list_append mt_append (pv 8) (pa_cons pe_str pa_nil)))))))
          (pss_one (ps_ret pe_bl))))), ?_⟩
    have hm : ∀ (i : Int) (m : Int), 0 < m → 0 ≤ i % m ∧ i % m < m := fun i m h => ⟨Int.emod_nonneg _ (by omega), Int.emod_lt_of_pos _ h⟩
    -- the list that is walked
    refine ⟨fun σ' H' => ∃ row v2 v3 v4 v5 v6 v7 v8 v9, σ' = [some (.ref a), some (.str row), v2, v3, v4, v5, v6, v7, v8, v9] ∧ Same H H' ∧ AscS row ∧ row.length ≤ 4000, ?_, ?_⟩
    · refine ⟨.ref a, rfl, 63, rfl, a, _, rfl, hS, fun p1 n1 => ?_⟩
      refine ⟨by show 1 ≤ sizeLine; decide, fun p2 n2 => ?_⟩
      have n12 : p1 ≠ p2 := fun z => by
        rw [← z, upd_same] at n2
        cases n2
      have hcl := cutV_length (ns.map V.int) none (some 63)
      rw [List.length_map] at hcl
      refine ⟨p1, p2, _, _, rfl, rfl, Eq.trans (upd_ne n12) upd_same, upd_same, ?_, fun p3 n3 => ?_⟩
      · simp only [List.length_singleton]
        exact sz (by omega)
      have s3 := ((same_new (o := .lst (cutV (ns.map V.int) none (some 63))) n1).trans (same_new (o := .lst [.int 8]) n2)).trans (same_new (o := .lst (cutV (ns.map V.int) none (some 63) ++ [.int 8])) n3)
      have hxs : ∀ x ∈ cutV (ns.map V.int) none (some 63) ++ [.int 8], ∃ c, x = V.int c := fun x hx => by
        rcases List.mem_append.mp hx with h | h
        · have h2 : x ∈ ns.map V.int := List.mem_of_mem_drop (List.mem_of_mem_take h)
          obtain ⟨c, _, e⟩ := List.mem_map.mp h2
          exact ⟨c, e.symm⟩
        · exact ⟨8, List.mem_singleton.mp h⟩
      have hxl : (cutV (ns.map V.int) none (some 63) ++ [V.int 8]).length ≤ 64 := by
        rw [List.length_append, List.length_singleton]
        omega
      generalize hX : cutV (ns.map V.int) none (some 63) ++ [V.int 8] = xs at *
      generalize hH3 : upd (upd (upd H p1 (.lst (cutV (ns.map V.int) none (some 63)))) p2 (.lst [.int 8])) p3 (.lst xs) = H3 at *
      have h3 : H3 p3 = some (.lst xs) := by rw [← hH3, upd_same]
      refine ⟨p3, xs, rfl, SqL.of h3, for_it (walk_enum (xs := xs)) (fun k σ' H' => ∃ row v2 v3 v4 v5 v6 v7 v8 v9, σ' = [some (.ref a), some (.str row), v2, v3, v4, v5, v6, v7, v8, v9] ∧ Same H3 H' ∧ AscS row ∧ row.length ≤ 40 * k) ?_ ?_ (fun k x σ' H4 H5 hk hP hY => ?_) (fun σ' H' hP => ?_)⟩
      · exact ⟨_, _, _, _, _, _, _, _, _, rfl, Same.refl _, asc_all (by decide +kernel), by decide +kernel⟩
      · rintro i σ H' _ ⟨_, _, _, _, _, _, _, _, _, _, s, _⟩
        exact s.seq (SqL.of h3)
      · obtain ⟨row, v2, v3, v4, v5, v6, v7, v8, v9, rfl, s4, ar, lr⟩ := hP
        obtain ⟨t, x, y, rfl, nt, rfl, ex, ey⟩ := hY
        obtain rfl := Option.some.inj ex
        obtain ⟨c, rfl⟩ := hxs y (List.mem_of_getElem? ey)
        have s5 : Same H3 (upd H4 t (.tup [.int (k : Int), .int c])) := s4.trans (same_new nt)
        refine ⟨t, _, rfl, SqT.of upd_same, rfl, _, _, rfl, _, _, rfl, rfl, ?_⟩
        have h7 := hm k 7 (by decide)
        generalize hH5 : upd H4 t (.tup [.int (k : Int), .int c]) = H5 at *
        -- number, word
        refine ⟨_, rfl, _, rfl, _, _, rfl, rfl, (by decide : (0 : Int) < 7), ?_⟩
        refine ⟨c, (k : Int) % 7, rfl, h7.1, by omega, fun r r0 r1 => ?_⟩
        refine ⟨_, rfl, _, _, rfl, rfl, ⟨by decide, by decide⟩, r / 3, rfl, by omega, fun H6 z s6 oz => ?_⟩
        -- odd
        refine ⟨fun σ' H' => Same H6 H' ∧ ∃ v, Odd K H' v ∧ σ' = [some (.ref a), some (.str row), some (.int (k : Int)), some (.int c), some (.int r), some (.str z), some v, v7, v8, v9], ?_, ?_⟩
        · refine ⟨by show 1 ≤ sizeLine; decide, fun l1 nl1 => ?_⟩
          refine ⟨by show 1 ≤ sizeLine; decide, fun t1 nt1 => ?_⟩
          refine fun d1 nd1 => ?_
          refine ⟨by show 12 ≤ sizeLine; decide, fun p np => ?_⟩
          have sa := same_new (o := .tup [.str (Str.ofString "a")]) nt1
          have sb := same_new (o := .dK []) nd1
          have sc := same_new (o := .lst [.non, .int 5, .bl true, .ref l1, .ref t1, .ref d1, .str (Str.ofString ""), .str (Str.ofString "a b"), .str (Str.ofString " a"), .str (Str.ofString "a "), .str (Str.ofString "9"), .str (Str.ofString "a\n")]) np
          obtain ⟨v, ev, hv⟩ := atI_lt (xs := [V.non, .int 5, .bl true, .ref l1, .ref t1, .ref d1, .str (Str.ofString ""), .str (Str.ofString "a b"), .str (Str.ofString " a"), .str (Str.ofString "a "), .str (Str.ofString "9"), .str (Str.ofString "a\n")]) (hm (r / 3) 12 (by decide)).1 (hm (r / 3) 12 (by decide)).2
          refine ⟨_, rfl, _, _, rfl, rfl, ⟨by decide, by decide⟩, _, _, rfl, rfl, (by decide : (0 : Int) < 12), ?_⟩
          refine ⟨p, _, _, v, rfl, rfl, SqL.of upd_same, ev, ?_⟩
          refine ⟨(((same_new nl1).trans sa).trans sb).trans sc, v, ?_, rfl⟩
          have gl := (sa.trans sb).trans sc l1 _ upd_same
          have gt := sb.trans sc t1 _ upd_same
          have gd := sc d1 _ upd_same
          simp only [List.mem_cons, List.not_mem_nil, or_false] at hv
          rcases hv with rfl | rfl | rfl | rfl | rfl | rfl | rfl | rfl | rfl | rfl | rfl | rfl
          · exact .inr (.inl rfl)
          · exact .inr (.inr (.inl ⟨_, rfl⟩))
          · exact .inr (.inr (.inr (.inl ⟨_, rfl⟩)))
          · exact .inr (.inr (.inr (.inr (.inl ⟨_, _, rfl, gl⟩))))
          · exact .inr (.inr (.inr (.inr (.inr (.inl ⟨_, _, rfl, gt⟩)))))
          · exact .inr (.inr (.inr (.inr (.inr (.inr ⟨_, _, rfl, gd⟩)))))
          all_goals exact .inl ⟨_, rfl, asc_all (by decide +kernel), by decide +kernel⟩
        · rintro σ7 H7 ⟨s7, v, ov, rfl⟩
          -- the two things
          refine ⟨fun σ' H' => Same H7 H' ∧ ∃ w7 w8, σ' = [some (.ref a), some (.str row), some (.int (k : Int)), some (.int c), some (.int r), some (.str z), some v, w7, w8, v9], ?_, ?_⟩
          · refine ⟨_, rfl, _, rfl, by show 2 ≤ sizeLine; decide, fun tq ntq => ?_⟩
            refine ⟨tq, rfl, ⟨_, SqT.of upd_same⟩, for_it (walk_tup (xs := [V.str z, v])) (fun i σ' H' => Same (upd H7 tq (.tup [V.str z, v])) H' ∧ ∃ w7 w8, σ' = [some (.ref a), some (.str row), some (.int (k : Int)), some (.int c), some (.int r), some (.str z), some v, w7, w8, v9]) ⟨Same.refl _, _, _, rfl⟩ ?_ (fun i x σ' H8 H9 hi hP hY => ?_) (fun σ' H' hP => ?_)⟩
            · rintro i σ' H' _ ⟨s8, _⟩
              exact SqT.of (s8 _ _ upd_same)
            · obtain ⟨s8, w7, w8, rfl⟩ := hP
              obtain ⟨rfl, hx⟩ := hY
              have hx2 := List.mem_of_getElem? hx
              simp only [List.mem_cons, List.not_mem_nil, or_false] at hx2
              have ox : Odd K H9 x := by
                rcases hx2 with rfl | rfl
                · exact .inl ⟨z, rfl, oz⟩
                · exact ov.same ((same_new ntq).trans s8)
              have ends : ∀ H' w8', Same H9 H' → Same (upd H7 tq (.tup [V.str z, v])) H' ∧ ∃ w7 w8, ([some (.ref a), some (.str row), some (.int (k : Int)), some (.int c), some (.int r), some (.str z), some v, some x, some w8', v9] : L2.St) = [some (.ref a), some (.str row), some (.int (k : Int)), some (.int c), some (.int r), some (.str z), some v, w7, w8, v9] := fun H' w8' s' => ⟨s8.trans s', _, _, rfl⟩
              rcases ox.thing with ⟨z', rfl, oz'⟩ | ⟨ty, hty, kt⟩
              · obtain ⟨l, rfl⟩ : ∃ l, z' = tx l := ⟨_, (tx_of z').symm⟩
                have ll : l.length ≤ 1000 := by
                  have := oz'.2
                  rw [tx_len] at this
                  omega
                refine ⟨_, rfl, _, rfl, .inl ⟨l, rfl, ll, fun Ha sa => ?_⟩⟩
                refine ⟨_, rfl, _, _, _, _, true, rfl, .ty _, .base (.bl _), kit_ty (by decide +kernel), _, rfl, ?_⟩
                refine iteF ?_
                refine ⟨_, rfl, _, rfl, _, rfl, .inl ⟨l, rfl, ll, oz'.1, fun Hb sb => ?_⟩⟩
                refine ⟨rfl, _, rfl, ?_⟩
                exact iteNS (by rw [name_same]) (ends _ _ (sa.trans sb))
              · refine ⟨_, rfl, _, rfl, .inr ⟨ty, hty, kt, ?_⟩⟩
                refine ⟨_, rfl, _, _, _, _, true, rfl, .ty _, .base (.bl _), kit_ty (by decide +kernel), _, rfl, ?_⟩
                refine iteF ?_
                refine ⟨_, rfl, _, rfl, _, rfl, .inr ⟨ty, hty, kt, ?_⟩⟩
                refine ⟨rfl, _, rfl, ?_⟩
                exact iteNS rfl (ends _ _ (Same.refl _))
            · obtain ⟨s8, w7, w8, rfl⟩ := hP
              exact ⟨(same_new ntq).trans s8, w7, w8, rfl⟩
          · rintro σ8 H8 ⟨s8, w7, w8, rfl⟩
            obtain ⟨l, rfl⟩ : ∃ l, z = tx l := ⟨_, (tx_of z).symm⟩
            have ll : l.length ≤ 1000 := by
              have := oz.2
              rw [tx_len] at this
              omega
            refine ⟨fun σ' H' => Same H8 H' ∧ σ' = [some (.ref a), some (.str row), some (.int (k : Int)), some (.int c), some (.int r), some (.str (tx l)), some v, w7, w8, v9], ?_, ?_⟩
            · refine ⟨_, rfl, l, rfl, ll, fun Ha sa => ?_⟩
              refine ⟨_, rfl, l, rfl, ll, oz.1, fun Hb sb => ?_⟩
              refine ⟨numP l, by rw [← ow]; rfl, _, rfl, ?_⟩
              exact iteF ⟨sa.trans sb, rfl⟩
            · rintro σ9 H9 ⟨s9, rfl⟩
              refine ⟨fun σ' H' => Same H9 H' ∧ σ' = [some (.ref a), some (.str row), some (.int (k : Int)), some (.int c), some (.int r), some (.str (tx l)), some v, w7, w8, v9], ?_, ?_⟩
              · refine ⟨by show 4 ≤ sizeLine; decide, fun p np => ?_⟩
                have h4 := hm r 4 (by decide)
                obtain ⟨j, hj⟩ : ∃ j : Nat, r % 4 = (j : Int) := ⟨(r % 4).toNat, by omega⟩
                have hj4 : j < 4 := by omega
                have e1 : ∃ y : List Nat, atI [V.str (Str.ofString ""), .str (Str.ofString "-"), .str (Str.ofString "0"), .str (Str.ofString "-0")] (r % 4) = some (.str (tx y)) ∧ y.length ≤ 1000 ∧ atI [V.non, .non, .int 0, .non] (r % 4) = some (optV (numP y)) := by
                  rw [hj]
                  have cs : j = 0 ∨ j = 1 ∨ j = 2 ∨ j = 3 := by omega
                  rcases cs with rfl | rfl | rfl | rfl
                  · exact ⟨[], by rw [atI_nat (j := 0) rfl, s_e], by decide, atI_nat (j := 0) rfl⟩
                  · exact ⟨[45], by rw [atI_nat (j := 1) rfl, s_minus], by decide, atI_nat (j := 1) rfl⟩
                  · exact ⟨[48], by rw [atI_nat (j := 2) rfl, s_0], by decide, by rw [show numP [48] = some 0 by decide +kernel]; exact atI_nat (j := 2) rfl⟩
                  · exact ⟨[45, 48], by rw [atI_nat (j := 3) rfl, show Str.ofString "-0" = tx [45, 48] by decide +kernel], by decide, by rw [show numP [45, 48] = none by decide +kernel]; exact atI_nat (j := 3) rfl⟩
                obtain ⟨y, e1, e2, e3⟩ := e1
                refine ⟨_, rfl, _, _, rfl, rfl, (by decide : (0 : Int) < 4), p, _, _, _, rfl, rfl, SqL.of upd_same, e1, ?_⟩
                refine ⟨y, rfl, e2, fun Ha sa => ?_⟩
                refine ⟨by show 4 ≤ sizeLine; decide, fun p2 np2 => ?_⟩
                refine ⟨_, rfl, _, _, rfl, rfl, (by decide : (0 : Int) < 4), p2, _, _, _, rfl, rfl, SqL.of upd_same, e3, ?_⟩
                refine ⟨numP y, by rw [← ow]; rfl, _, rfl, ?_⟩
                exact iteF ⟨((same_new np).trans sa).trans (same_new np2), rfl⟩
              · rintro σ10 H10 ⟨s10, rfl⟩
                have sall : Same H3 H10 := ((((s5.trans s6).trans s7).trans s8).trans s9).trans s10
                refine ⟨_, rfl, _, _, rfl, rfl, _, rfl, ite2 (fun h12 => ?_) (fun _ => ?_)⟩
                · refine ⟨_, rfl, by show 4 ≤ sizeLine; decide, fun p np => ?_⟩
                  have h9 := hm (r / 5) 9 (by decide)
                  obtain ⟨u, eu, hu⟩ := atI_lt (xs := [V.str (Str.ofString " "), .str (Str.ofString "  "), .str (Str.ofString ""), .str (Str.ofString " # ")]) (i := if r / 5 % 9 < 3 then r / 5 % 9 else 3) (by split <;> omega) (by show _ < (4 : Int); split <;> omega)
                  have hu2 : ∃ b, u = V.str b ∧ AscS b ∧ b.length ≤ 3 := by
                    simp only [List.mem_cons, List.not_mem_nil, or_false] at hu
                    rcases hu with rfl | rfl | rfl | rfl <;> exact ⟨_, rfl, asc_all (by decide +kernel), by decide +kernel⟩
                  obtain ⟨b, rfl, ab, lb⟩ := hu2
                  have lz := oz.2
                  have hk64 : k < 64 := by omega
                  refine ⟨_, rfl, _, _, rfl, rfl, ⟨by decide, by decide⟩, _, _, rfl, rfl, (by decide : (0 : Int) < 9), _, _, rfl, ?_⟩
                  refine ⟨p, _, _, _, rfl, rfl, SqL.of upd_same, eu, ?_⟩
                  refine ⟨_, _, rfl, rfl, sz (by omega), ?_⟩
                  refine ⟨_, rfl, _, _, rfl, rfl, ?_, ?_⟩
                  · rw [len_app]
                    exact sz (by omega)
                  · refine ⟨_, _, _, _, _, _, _, _, _, rfl, sall.trans (same_new np), okz_app (okz_app ar ab) oz.1, ?_⟩
                    rw [len_app, len_app]
                    omega
                · exact ⟨_, _, _, _, _, _, _, _, _, rfl, sall, ar, by omega⟩
      · obtain ⟨row, v2, v3, v4, v5, v6, v7, v8, v9, rfl, s4, ar, lr⟩ := hP
        exact ⟨row, v2, v3, v4, v5, v6, v7, v8, v9, rfl, s3.trans s4, ar, by omega⟩
    · rintro σ' H' ⟨row, v2, v3, v4, v5, v6, v7, v8, v9, rfl, s1, ar, lr⟩
      obtain ⟨l, rfl⟩ : ∃ l, row = tx l := ⟨_, (tx_of row).symm⟩
      have ll : l.length ≤ 5000 := by
        rw [tx_len] at lr
        omega
      refine ⟨_, rfl, by decide, by decide, for_it walk_range (fun i σ' H' => ∃ v2 v3 v4 v5 v6 v7 v8 v9, σ' = [some (.ref a), some (.str (tx l)), v2, v3, v4, v5, v6, v7, v8, v9]) ⟨_, _, _, _, _, _, _, _, rfl⟩ (fun _ _ _ _ _ => trivial) (fun i x σ' H8 H9 hi hP hY => ?_) (fun σ' H' hP => ?_)⟩
      · obtain ⟨v2, v3, v4, v5, v6, v7, v8, v9, rfl⟩ := hP
        obtain ⟨rfl, rfl⟩ := hY
        refine ⟨_, rfl, l, rfl, ll, fun p Ha sa np hp => ?_⟩
        refine ⟨_, rfl, _, _, _, _, true, rfl, .ty _, .base (.lst hp), kit_ty (by decide +kernel), _, rfl, ?_⟩
        refine iteF ?_
        refine ⟨_, rfl, _, rfl, l, rfl, ll, fun p2 Hb sb np2 hp2 => ?_⟩
        have hA : ∀ z ∈ (wl l []).map tx, AscS z := fun z hz => by
          obtain ⟨w', hw, rfl⟩ := List.mem_map.mp hz
          intro d hd
          rcases wl_mem l [] w' hw d hd with h | h
          · cases h
          · exact ar d h
        refine ⟨_, _, dp_strs (SqL.of (sb _ _ hp)), dp_strs (SqL.of hp2), shaped_strs hA, shaped_strs hA, _, rfl, ?_⟩
        rw [eqv_strs, decide_eq_true rfl]
        refine iteF ?_
        refine ⟨_, rfl, .inl ⟨rfl, _, SqL.of (sb _ _ hp)⟩, p, _, _, rfl, rfl, sb _ _ hp, ?_, ?_⟩
        · rw [List.length_map, List.length_map, wl_spl]
          have k1 := List.length_filter_le ne (TL.spl [32] 0 [] (cut35 l))
          have k2 := spl_len (cut35 l) []
          have k3 := cut35_len l
          exact szl (by omega)
        · exact ⟨_, _, _, _, _, _, _, _, rfl⟩
      · obtain ⟨v2, v3, v4, v5, v6, v7, v8, v9, rfl⟩ := hP
        exact q _
end
end K01

namespace K01
open PySem PySem.Spec PyProof.Rows L2 Pre
theorem all_mk {l : PySem.W.OpenLaw} {w : World} {K : PySem.W.Frag} {h : Heap} {mg : Str → Option Value} {fa f1 f2 f3 f4 f5 f6 f7 f8 f9 f10 f11 f12 f13 : Addr} (X : K.In h) (G : h.Ns mainGlobals mg) (hfa : mg "law" = some (.ref fa))
    {od1 an1 od2 an2 od3 an3 od4 an4 od5 an5 od6 an6 od7 an7 od8 an8 od9 an9 od10 an10 od11 an11 od12 an12 od13 an13 : Option Addr} {sl1 sl2 sl3 sl4 sl5 sl6 sl7 sl8 sl9 sl10 sl11 sl12 sl13 : Array (Option Value)} {oc1 kV1 dc1 pm1 cd1 ct1 oc2 kV2 dc2 pm2 cd2 ct2 oc3 kV3 dc3 pm3 cd3 ct3 oc4 kV4 dc4 pm4 cd4 ct4 oc5 kV5 dc5 pm5 cd5 ct5 oc6 kV6 dc6 pm6 cd6 ct6 oc7 kV7 dc7 pm7 cd7 ct7 oc8 kV8 dc8 pm8 cd8 ct8 oc9 kV9 dc9 pm9 cd9 ct9 oc10 kV10 dc10 pm10 cd10 ct10 oc11 kV11 dc11 pm11 cd11 ct11 oc12 kV12 dc12 pm12 cd12 ct12 oc13 kV13 dc13 pm13 cd13 ct13 : Value}
    (a1 : PySem.W.nsIn K mainGlobals "is_name" = some (some (.ref f1))) (l1 : K.lookup f1 = some ⟨oc1, od1, .func (PySem.W.fnOf "is_name" "is_name" (defArgs s_is_name) (defBody s_is_name) (defScope s_is_name) .none kV1 dc1 pm1 an1 cd1 ct1), sl1⟩) (c1 : PySem.W.codeIn K cd1 "is_name" = true) (k1 : PySem.W.keepIn K (.ref f1) = true)
    (a2 : PySem.W.nsIn K mainGlobals "number_in" = some (some (.ref f2))) (l2 : K.lookup f2 = some ⟨oc2, od2, .func (PySem.W.fnOf "number_in" "number_in" (defArgs s_number_in) (defBody s_number_in) (defScope s_number_in) .none kV2 dc2 pm2 an2 cd2 ct2), sl2⟩) (c2 : PySem.W.codeIn K cd2 "number_in" = true) (k2 : PySem.W.keepIn K (.ref f2) = true)
    (a3 : PySem.W.nsIn K mainGlobals "words_of" = some (some (.ref f3))) (l3 : K.lookup f3 = some ⟨oc3, od3, .func (PySem.W.fnOf "words_of" "words_of" (defArgs s_words_of) (defBody s_words_of) (defScope s_words_of) .none kV3 dc3 pm3 an3 cd3 ct3), sl3⟩) (c3 : PySem.W.codeIn K cd3 "words_of" = true) (k3 : PySem.W.keepIn K (.ref f3) = true)
    (a4 : PySem.W.nsIn K mainGlobals "_law_mixed" = some (some (.ref f4))) (l4 : K.lookup f4 = some ⟨oc4, od4, .func (PySem.W.fnOf "_law_mixed" "_law_mixed" (defArgs s__law_mixed) (defBody s__law_mixed) (defScope s__law_mixed) .none kV4 dc4 pm4 an4 cd4 ct4), sl4⟩) (c4 : PySem.W.codeIn K cd4 "_law_mixed" = true) (k4 : PySem.W.keepIn K (.ref f4) = true)
    (a5 : PySem.W.nsIn K mainGlobals "_law_signs" = some (some (.ref f5))) (l5 : K.lookup f5 = some ⟨oc5, od5, .func (PySem.W.fnOf "_law_signs" "_law_signs" (defArgs s__law_signs) (defBody s__law_signs) (defScope s__law_signs) .none kV5 dc5 pm5 an5 cd5 ct5), sl5⟩) (c5 : PySem.W.codeIn K cd5 "_law_signs" = true) (k5 : PySem.W.keepIn K (.ref f5) = true)
    (a6 : PySem.W.nsIn K mainGlobals "_law_is_name" = some (some (.ref f6))) (l6 : K.lookup f6 = some ⟨oc6, od6, .func (PySem.W.fnOf "_law_is_name" "_law_is_name" (defArgs s__law_is_name) (defBody s__law_is_name) (defScope s__law_is_name) .none kV6 dc6 pm6 an6 cd6 ct6), sl6⟩) (c6 : PySem.W.codeIn K cd6 "_law_is_name" = true) (k6 : PySem.W.keepIn K (.ref f6) = true)
    (a7 : PySem.W.nsIn K mainGlobals "_law_number" = some (some (.ref f7))) (l7 : K.lookup f7 = some ⟨oc7, od7, .func (PySem.W.fnOf "_law_number" "_law_number" (defArgs s__law_number) (defBody s__law_number) (defScope s__law_number) .none kV7 dc7 pm7 an7 cd7 ct7), sl7⟩) (c7 : PySem.W.codeIn K cd7 "_law_number" = true) (k7 : PySem.W.keepIn K (.ref f7) = true)
    (a8 : PySem.W.nsIn K mainGlobals "_law_name" = some (some (.ref f8))) (l8 : K.lookup f8 = some ⟨oc8, od8, .func (PySem.W.fnOf "_law_name" "_law_name" (defArgs s__law_name) (defBody s__law_name) (defScope s__law_name) .none kV8 dc8 pm8 an8 cd8 ct8), sl8⟩) (c8 : PySem.W.codeIn K cd8 "_law_name" = true) (k8 : PySem.W.keepIn K (.ref f8) = true)
    (a9 : PySem.W.nsIn K mainGlobals "_law_figures" = some (some (.ref f9))) (l9 : K.lookup f9 = some ⟨oc9, od9, .func (PySem.W.fnOf "_law_figures" "_law_figures" (defArgs s__law_figures) (defBody s__law_figures) (defScope s__law_figures) .none kV9 dc9 pm9 an9 cd9 ct9), sl9⟩) (c9 : PySem.W.codeIn K cd9 "_law_figures" = true) (k9 : PySem.W.keepIn K (.ref f9) = true)
    (a10 : PySem.W.nsIn K mainGlobals "_law_word" = some (some (.ref f10))) (l10 : K.lookup f10 = some ⟨oc10, od10, .func (PySem.W.fnOf "_law_word" "_law_word" (defArgs s__law_word) (defBody s__law_word) (defScope s__law_word) .none kV10 dc10 pm10 an10 cd10 ct10), sl10⟩) (c10 : PySem.W.codeIn K cd10 "_law_word" = true) (k10 : PySem.W.keepIn K (.ref f10) = true)
    (a11 : PySem.W.nsIn K mainGlobals "_law_words" = some (some (.ref f11))) (l11 : K.lookup f11 = some ⟨oc11, od11, .func (PySem.W.fnOf "_law_words" "_law_words" (defArgs s__law_words) (defBody s__law_words) (defScope s__law_words) .none kV11 dc11 pm11 an11 cd11 ct11), sl11⟩) (c11 : PySem.W.codeIn K cd11 "_law_words" = true) (k11 : PySem.W.keepIn K (.ref f11) = true)
    (a12 : PySem.W.nsIn K mainGlobals "_law_whole_is" = some (some (.ref f12))) (l12 : K.lookup f12 = some ⟨oc12, od12, .func (PySem.W.fnOf "_law_whole_is" "_law_whole_is" (defArgs s__law_whole_is) (defBody s__law_whole_is) (defScope s__law_whole_is) .none kV12 dc12 pm12 an12 cd12 ct12), sl12⟩) (c12 : PySem.W.codeIn K cd12 "_law_whole_is" = true) (k12 : PySem.W.keepIn K (.ref f12) = true)
    (a13 : PySem.W.nsIn K mainGlobals "law" = some (some (.ref f13))) (l13 : K.lookup f13 = some ⟨oc13, od13, .func (PySem.W.fnOf "law" "law" (defArgs s_law) (defBody s_law) (defScope s_law) .none kV13 dc13 pm13 an13 cd13 ct13), sl13⟩) (c13 : PySem.W.codeIn K cd13 "law" = true) (k13 : PySem.W.keepIn K (.ref f13) = true)
    (z_all : PySem.W.nsIn K mainGlobals "all" = some none)
    (z_bool : PySem.W.nsIn K mainGlobals "bool" = some none)
    (z_enumerate : PySem.W.nsIn K mainGlobals "enumerate" = some none)
    (z_int : PySem.W.nsIn K mainGlobals "int" = some none)
    (z_isinstance : PySem.W.nsIn K mainGlobals "isinstance" = some none)
    (z_len : PySem.W.nsIn K mainGlobals "len" = some none)
    (z_list : PySem.W.nsIn K mainGlobals "list" = some none)
    (z_min : PySem.W.nsIn K mainGlobals "min" = some none)
    (z_range : PySem.W.nsIn K mainGlobals "range" = some none)
    (z_str : PySem.W.nsIn K mainGlobals "str" = some none)
    {t_LETTERS : Tok} (g_LETTERS : PySem.W.nsIn K mainGlobals "LETTERS" = some (some (.str "abcdefghijklmnopqrstuvwxyz" t_LETTERS)))
    {t_FIGURES : Tok} (g_FIGURES : PySem.W.nsIn K mainGlobals "FIGURES" = some (some (.str "0123456789" t_FIGURES)))
    {a_ROW_WORDS : Addr} (g_ROW_WORDS : PySem.W.nsIn K mainGlobals "ROW_WORDS" = some (some (.ref a_ROW_WORDS))) {d_ROW_WORDS : Option Addr} {n_ROW_WORDS : Nat} {s_ROW_WORDS : Array (Option Value)} {t_ROW_WORDS_0 t_ROW_WORDS_1 t_ROW_WORDS_2 t_ROW_WORDS_3 t_ROW_WORDS_4 t_ROW_WORDS_5 : Tok} (l_ROW_WORDS : K.lookup a_ROW_WORDS = some ⟨.type "tuple", d_ROW_WORDS, .seq #[.str "tunes" t_ROW_WORDS_0, .str "near" t_ROW_WORDS_1, .str "station" t_ROW_WORDS_2, .str "apart" t_ROW_WORDS_3, .str "fix" t_ROW_WORDS_4, .str "bar" t_ROW_WORDS_5] n_ROW_WORDS, s_ROW_WORDS⟩)
    {t_MOST_NAME_SIGNS : Tok} (g_MOST_NAME_SIGNS : PySem.W.nsIn K mainGlobals "MOST_NAME_SIGNS" = some (some (.int 8 t_MOST_NAME_SIGNS)))
    {t_MOST_FIGURES : Tok} (g_MOST_FIGURES : PySem.W.nsIn K mainGlobals "MOST_FIGURES" = some (some (.int 7 t_MOST_FIGURES)))
    : ∃ fd : FuncData, (∀ (s : Shared) (v : Value), BindsTo s fd ⟨[v], []⟩ [("_law_script", v)]) ∧ ∀ base : Heap, K.In base → base.Ns mainGlobals mg → FnOk l.prog w K mg base CX0 4 fa fd ["_law_script"] (sp_law K) := by
  have e := hfa.symm.trans (PySem.W.mg_of X G a13)
  cases e
  have F1 := fun_mk (st := s_is_name) l1 c1 k1
  have b1 := F1.binds (ps := ["thing"]) fun _ _ _ _ _ _ us hl => match us, hl with | [_], _ => rfl
  have F2 := fun_mk (st := s_number_in) l2 c2 k2
  have b2 := F2.binds (ps := ["word"]) fun _ _ _ _ _ _ us hl => match us, hl with | [_], _ => rfl
  have F3 := fun_mk (st := s_words_of) l3 c3 k3
  have b3 := F3.binds (ps := ["row"]) fun _ _ _ _ _ _ us hl => match us, hl with | [_], _ => rfl
  have F4 := fun_mk (st := s__law_mixed) l4 c4 k4
  have b4 := F4.binds (ps := ["_law_cell", "_law_k"]) fun _ _ _ _ _ _ us hl => match us, hl with | [_, _], _ => rfl
  have F5 := fun_mk (st := s__law_signs) l5 c5 k5
  have b5 := F5.binds (ps := []) fun _ _ _ _ _ _ us hl => match us, hl with | [], _ => rfl
  have F6 := fun_mk (st := s__law_is_name) l6 c6 k6
  have b6 := F6.binds (ps := ["_law_thing"]) fun _ _ _ _ _ _ us hl => match us, hl with | [_], _ => rfl
  have F7 := fun_mk (st := s__law_number) l7 c7 k7
  have b7 := F7.binds (ps := ["_law_word_here"]) fun _ _ _ _ _ _ us hl => match us, hl with | [_], _ => rfl
  have F8 := fun_mk (st := s__law_name) l8 c8 k8
  have b8 := F8.binds (ps := ["_law_number_here"]) fun _ _ _ _ _ _ us hl => match us, hl with | [_], _ => rfl
  have F9 := fun_mk (st := s__law_figures) l9 c9 k9
  have b9 := F9.binds (ps := ["_law_number_here"]) fun _ _ _ _ _ _ us hl => match us, hl with | [_], _ => rfl
  have F10 := fun_mk (st := s__law_word) l10 c10 k10
  have b10 := F10.binds (ps := ["_law_number_here"]) fun _ _ _ _ _ _ us hl => match us, hl with | [_], _ => rfl
  have F11 := fun_mk (st := s__law_words) l11 c11 k11
  have b11 := F11.binds (ps := ["_law_row"]) fun _ _ _ _ _ _ us hl => match us, hl with | [_], _ => rfl
  have F12 := fun_mk (st := s__law_whole_is) l12 c12 k12
  have b12 := F12.binds (ps := ["_law_found", "_law_due"]) fun _ _ _ _ _ _ us hl => match us, hl with | [_, _], _ => rfl
  have F13 := fun_mk (st := s_law) l13 c13 k13
  have b13 := F13.binds (ps := ["_law_script"]) fun _ _ _ _ _ _ us hl => match us, hl with | [_], _ => rfl
  exact ⟨_, fun s v => .of_eq rfl, fun base _ _ => ok_law (T := { t_LETTERS := t_LETTERS, g_LETTERS := PySem.W.mg_of X G g_LETTERS, t_FIGURES := t_FIGURES, g_FIGURES := PySem.W.mg_of X G g_FIGURES, a_ROW_WORDS := a_ROW_WORDS, g_ROW_WORDS := PySem.W.mg_of X G g_ROW_WORDS, k_ROW_WORDS := fun _ => .inr ⟨_, _, _, l_ROW_WORDS, rfl, rfl, (by show 6 ≤ sizeLine; decide), (.cons ⟨_, rfl⟩ (.cons ⟨_, rfl⟩ (.cons ⟨_, rfl⟩ (.cons ⟨_, rfl⟩ (.cons ⟨_, rfl⟩ (.cons ⟨_, rfl⟩ .nil))))))⟩, t_MOST_NAME_SIGNS := t_MOST_NAME_SIGNS, g_MOST_NAME_SIGNS := PySem.W.mg_of X G g_MOST_NAME_SIGNS, t_MOST_FIGURES := t_MOST_FIGURES, g_MOST_FIGURES := PySem.W.mg_of X G g_MOST_FIGURES, f_is_name := _, fd_is_name := _, F_is_name := F1, B_is_name := b1, G_is_name := PySem.W.mg_of X G a1, f_number_in := _, fd_number_in := _, F_number_in := F2, B_number_in := b2, G_number_in := PySem.W.mg_of X G a2, f_words_of := _, fd_words_of := _, F_words_of := F3, B_words_of := b3, G_words_of := PySem.W.mg_of X G a3, f__law_mixed := _, fd__law_mixed := _, F__law_mixed := F4, B__law_mixed := b4, G__law_mixed := PySem.W.mg_of X G a4, f__law_signs := _, fd__law_signs := _, F__law_signs := F5, B__law_signs := b5, G__law_signs := PySem.W.mg_of X G a5, f__law_is_name := _, fd__law_is_name := _, F__law_is_name := F6, B__law_is_name := b6, G__law_is_name := PySem.W.mg_of X G a6, f__law_number := _, fd__law_number := _, F__law_number := F7, B__law_number := b7, G__law_number := PySem.W.mg_of X G a7, f__law_name := _, fd__law_name := _, F__law_name := F8, B__law_name := b8, G__law_name := PySem.W.mg_of X G a8, f__law_figures := _, fd__law_figures := _, F__law_figures := F9, B__law_figures := b9, G__law_figures := PySem.W.mg_of X G a9, f__law_word := _, fd__law_word := _, F__law_word := F10, B__law_word := b10, G__law_word := PySem.W.mg_of X G a10, f__law_words := _, fd__law_words := _, F__law_words := F11, B__law_words := b11, G__law_words := PySem.W.mg_of X G a11, f__law_whole_is := _, fd__law_whole_is := _, F__law_whole_is := F12, B__law_whole_is := b12, G__law_whole_is := PySem.W.mg_of X G a12, f_law := _, fd_law := _, F_law := F13, B_law := b13, G_law := PySem.W.mg_of X G a13, b_all := PySem.W.mg_none_of X G z_all, b_bool := PySem.W.mg_none_of X G z_bool, b_enumerate := PySem.W.mg_none_of X G z_enumerate, b_int := PySem.W.mg_none_of X G z_int, b_isinstance := PySem.W.mg_none_of X G z_isinstance, b_len := PySem.W.mg_none_of X G z_len, b_list := PySem.W.mg_none_of X G z_list, b_min := PySem.W.mg_none_of X G z_min, b_range := PySem.W.mg_none_of X G z_range, b_str := PySem.W.mg_none_of X G z_str })⟩
end K01
open PySem PySem.W PyProof.Rows
set_option maxHeartbeats 0 in
theorem PySem.Challenge.cw_tunehall_k01_names_numbers_words_holds : PySem.Challenge.rw_tunehall_k01_names_numbers_words.Holds := by
  w_on; o_law; k_head; (case hw => w_witness2)
  k_fill
  refine L2.walk_of (l := PySem.Challenge.rw_tunehall_k01_names_numbers_words) (n := 63) (k := 4) (x := "_law_script") (CX := fun _ => L2.CX0) (sp := fun w => K01.sp_law _) rfl (by decide) rfl ⟨rfl, by decide, by decide⟩ (fun w h Y => PySem.W.kIn_of Y) ?F (fun _ _ a ns hl _ hS => ⟨a, ns, rfl, hS, hl, fun _ => rfl⟩) (fun _ _ _ _ _ h => h)
  case F =>
    intro w mg fa h KX G hmg
    refine' K01.all_mk KX G hmg ?a1 ?l1 ?c1 ?k1 ?a2 ?l2 ?c2 ?k2 ?a3 ?l3 ?c3 ?k3 ?a4 ?l4 ?c4 ?k4 ?a5 ?l5 ?c5 ?k5 ?a6 ?l6 ?c6 ?k6 ?a7 ?l7 ?c7 ?k7 ?a8 ?l8 ?c8 ?k8 ?a9 ?l9 ?c9 ?k9 ?a10 ?l10 ?c10 ?k10 ?a11 ?l11 ?c11 ?k11 ?a12 ?l12 ?c12 ?k12 ?a13 ?l13 ?c13 ?k13 ?z_all ?z_bool ?z_enumerate ?z_int ?z_isinstance ?z_len ?z_list ?z_min ?z_range ?z_str ?g_LETTERS ?g_FIGURES ?g_ROW_WORDS ?l_ROW_WORDS ?g_MOST_NAME_SIGNS ?g_MOST_FIGURES
    (case a1 => k_is); (case l1 => k_is); (case c1 => k_is); (case k1 => k_is); (case a2 => k_is); (case l2 => k_is); (case c2 => k_is); (case k2 => k_is); (case a3 => k_is); (case l3 => k_is); (case c3 => k_is); (case k3 => k_is); (case a4 => k_is); (case l4 => k_is); (case c4 => k_is); (case k4 => k_is); (case a5 => k_is); (case l5 => k_is); (case c5 => k_is); (case k5 => k_is); (case a6 => k_is); (case l6 => k_is); (case c6 => k_is); (case k6 => k_is); (case a7 => k_is); (case l7 => k_is); (case c7 => k_is); (case k7 => k_is); (case a8 => k_is); (case l8 => k_is); (case c8 => k_is); (case k8 => k_is); (case a9 => k_is); (case l9 => k_is); (case c9 => k_is); (case k9 => k_is); (case a10 => k_is); (case l10 => k_is); (case c10 => k_is); (case k10 => k_is); (case a11 => k_is); (case l11 => k_is); (case c11 => k_is); (case k11 => k_is); (case a12 => k_is); (case l12 => k_is); (case c12 => k_is); (case k12 => k_is); (case a13 => k_is); (case l13 => k_is); (case c13 => k_is); (case k13 => k_is); (case z_all => k_is); (case z_bool => k_is); (case z_enumerate => k_is); (case z_int => k_is); (case z_isinstance => k_is); (case z_len => k_is); (case z_list => k_is); (case z_min => k_is); (case z_range => k_is); (case z_str => k_is); (case g_LETTERS => k_is); (case g_FIGURES => k_is); (case g_ROW_WORDS => k_is); (case l_ROW_WORDS => k_is); (case g_MOST_NAME_SIGNS => k_is); (case g_MOST_FIGURES => k_is)

