import PyProof.Rows.All
import Wide.All
import OpenK.AllK
import Wide.FinOn
import HandS.ForMost
import HandS.Flow
import HandS.Wide
import HandS.Gcd
import HandS.IsInst
import HandS.Zip
import HandS.Ends
import HandS.Walk
import KE.KMathGC
import Flt.RightSqrt
import HandS.Style
import PyProof.ReprBulk
import PyProof.Rows.StrJoinMade
import HandS.WideBits
import HandS.Iter
import HandS.TupAny
import HandS.RaiseMore
import PySem.Challenge.RW_firstterms_k34_terms_of_divisor_pieces
set_option Elab.async false
set_option maxRecDepth 100000
namespace Ft
open PySem L2

/-! ### general: what a def may be called for -/
structure Cal (P : Program) (w : World) (K : PySem.W.Frag) (mg : Str → Option Value) (base : Heap) (k : Nat) (x : Str) (sp : Sp) : Prop where
  ex : ∃ (f : Addr) (fd : FuncData) (ps : List Str), FnOk P w K mg base CX0 k f fd ps sp ∧ mg x = some (.ref f) ∧ PySem.W.keepIn K (.ref f) = true ∧ Binds K fd ps []
/-- a def of the top: its text stands, its name leads to it, its arguments bind -/
structure Df (K : PySem.W.Frag) (mg : Str → Option Value) (x : Str) (st : Stmt) (ps : List Str) : Prop where
  ex : ∃ (f : Addr) (fd : FuncData), Fun K x x st f fd ∧ mg x = some (.ref f) ∧ Binds K fd ps []
section
variable {X : Cx} {k j : Nat} {x : Str} {sp : Sp} {p pos : Pos} {e : Expr} {es : List Expr} {t : TA}
theorem pe_c (c : Cal X.prog X.w X.K X.mg X.base k x sp) (hr : Room j X.A) (hk : k ≤ j) (hg : Gl X x) (ha : PA X (e :: es) t)
    (hdb : (x == ("__debug__" : Str)) = false := by decide) (he : starEach (e :: es) X.env = (false, eval e X.env) :: starEach es X.env := by rfl) (hpl : (backTo pos (starEach es X.env)).any (·.1) = false := by rfl) :
    PE X (.Call (.Name x p) (e :: es) [] pos) (tCall sp [] E0 t) := by
  obtain ⟨f, fd, ps, F, hm, kp, b⟩ := c.ex
  exact pe_call F (hr.mono hk) hg hm kp b .nil pass0 ha hdb he hpl
end
/-- what may be called for by keywords alone, in this order -/
structure CalK (P : Program) (w : World) (K : PySem.W.Frag) (mg : Str → Option Value) (base : Heap) (k : Nat) (x : Str) (ks : List Str) (gV : List V → List V → List V) (sp : Sp) : Prop where
  ex : ∃ (f : Addr) (fd : FuncData) (ps : List Str) (g : List Value → List Value → List Value), FnOk P w K mg base CX0 k f fd ps sp ∧ mg x = some (.ref f) ∧ PySem.W.keepIn K (.ref f) = true ∧ KBinds K fd ps ks g gV
section
variable {X : Cx} {k j : Nat} {x : Str} {ks : List Str} {gV : List V → List V → List V} {sp : Sp} {p pos : Pos} {kws : List Keyword} {tk : TA}
theorem pe_k0 (c : CalK X.prog X.w X.K X.mg X.base k x ks gV sp) (hr : Room j X.A) (hk : k ≤ j) (hg : Gl X x) (hkw : PK X kws tk)
    (hall : (backToKw pos (keywordEach kws X.env)).all (·.1.isSome) = true := by rfl) (hks : (backToKw pos (keywordEach kws X.env)).filterMap (·.1) = ks := by rfl) (hdb : (x == ("__debug__" : Str)) = false := by decide)
    (hpl : ((backTo pos (starEach [] X.env)).any (·.1) || (backToKw pos (keywordEach kws X.env)).any (·.1.isNone)) = false := by rfl) :
    PE X (.Call (.Name x p) [] kws pos) (tCallK sp gV E0 tNil tk) := by
  obtain ⟨f, fd, ps, g, F, hm, kp, b⟩ := c.ex
  refine ⟨fun pins s σ H Q I h => wpAny_Call_Name_kw (ld_glob I hg hm ?_ hdb)⟩
  refine PySem.W.callWith_KW0 (h₀ := X.base) I.ok.mod.kin kp hall (thn (hkw.run pos pins s σ H _ I h) fun ws s2 ⟨zs, H2, I2, rz, q2⟩ => ⟨I2.kIn, ?_⟩) hpl
  rw [hks]
  exact run_fnk F (hr.mono hk) b pass0 I2 .nil rz q2
end
section
variable {X : Cx}
theorem pe_ty {x : Str} {n : String} {pos : Pos} (hg : Gl X x) (hm : X.mg x = none) (hv : bootBuiltins x = some (.type n)) (hn : x ≠ "__name__" := by decide) (hd : (x == ("__debug__" : Str)) = false := by decide) : PE X (.Name x pos) (tC (.ty n)) := pe_bltn hg hm hv rfl hn hd
end
theorem kit_int_int {K : PySem.W.Frag} : PySem.W.kitOne K (.type "int") (.type "int") = some true := kit_ty (by decide +kernel)
theorem kit_int_bool {K : PySem.W.Frag} : PySem.W.kitOne K (.type "int") (.type "bool") = some false := kit_ty (by decide +kernel)
theorem ifD {c A B : Prop} [Decidable c] (h1 : c → A) (h2 : ¬ c → B) : if decide c = true then A else B := by
  by_cases h : c
  · rw [decide_eq_true h]; exact iteT (h1 h)
  · rw [decide_eq_false h]; exact iteF (h2 h)
theorem ifI {i j : Int} {A B : Prop} (h1 : i = j → A) (h2 : i ≠ j → B) : if decide (V.int i = V.int j) = true then A else B :=
  ifD (fun h => h1 (V.int.inj h)) fun h => h2 fun e => h (congrArg V.int e)
theorem ifN {c A B : Prop} [Decidable c] (h1 : ¬ c → A) (h2 : c → B) : if (!decide c) = true then A else B := by
  by_cases h : c
  · rw [decide_eq_true h]; exact iteF (h2 h)
  · rw [decide_eq_false h]; exact iteT (h1 h)
theorem ifNI {i j : Int} {A B : Prop} (h1 : i ≠ j → A) (h2 : i = j → B) : if (!decide (V.int i = V.int j)) = true then A else B :=
  ifN (fun h => h1 fun e => h (congrArg V.int e)) fun h => h2 (V.int.inj h)
/-- what follows, said once for all ways that lead there -/
theorem tSeq_join {a b : TS} {D : Ends} {σ : L2.St} {H : Hp} (J : L2.St → Hp → Prop) (h1 : ∀ N : L2.St → Hp → Prop, (∀ σ H, J σ H → N σ H) → a { D with nx := N } σ H) (h2 : ∀ σ H, J σ H → b D σ H) : tSeq a b D σ H := h1 (b D) h2
/-- while, by an invariant and a measure -/
theorem while_go {c : TT} {tb : TS} {D : Ends} {σ : L2.St} {H : Hp} (Pv : L2.St → Hp → Prop) (μ : L2.St → Hp → Nat) (h0 : Pv σ H)
    (hs : ∀ σ H, Pv σ H → c σ H fun b H1 => if b = true then ∃ N : L2.St → Hp → Prop, (∀ σ' H', N σ' H' → ∃ m', m' < μ σ H ∧ m' = μ σ' H' ∧ Pv σ' H') ∧ tb { D with nx := N, ct := N, bk := D.nx } σ H1 else D.nx σ H1) :
    tWhile c tb D σ H := by
  refine ⟨fun m σ H => m = μ σ H ∧ Pv σ H, ⟨_, rfl, h0⟩, ?_⟩
  rintro m σ H ⟨rfl, p⟩
  exact hs σ H p
/-- math.isqrt below 2 ^ 64 -/
def rIsqrt : List V → Hp → VK → Prop := fun vs H Q => ∃ a : Int, vs = [.int a] ∧ 0 ≤ a ∧ a < 2 ^ 64 ∧ Q (.int ((Float64.isqrt a.toNat : Nat) : Int)) H
theorem cr_isqrt {X : Cx} : CallR X (.builtin "math.isqrt") rIsqrt := by
  intro pins s σ H vs us Q I r h
  obtain ⟨a, rfl, h0, h1, q⟩ := h
  obtain ⟨u, rfl, t, rfl⟩ := vals1 r
  exact PySem.W.mg_isqrt h0 h1 ⟨.int _, H, I.tok _, ⟨_, rfl⟩, q⟩
/-- the built-ins of the text -/
structure Bi (mg : Str → Option Value) : Prop where
  abs : mg "abs" = none
  all : mg "all" = none
  bool : mg "bool" = none
  comb : mg "comb" = some (.builtin "math.comb")
  dict : mg "dict" = none
  enumerate : mg "enumerate" = none
  gcd : mg "gcd" = some (.builtin "math.gcd")
  int : mg "int" = none
  int_ : mg "int" = none
  isinstance : mg "isinstance" = none
  isqrt : mg "isqrt" = some (.builtin "math.isqrt")
  len : mg "len" = none
  len_ : mg "len" = none
  list : mg "list" = none
  max : mg "max" = none
  max_ : mg "max" = none
  min : mg "min" = none
  min_ : mg "min" = none
  range : mg "range" = none
  repr : mg "repr" = none
  reversed : mg "reversed" = none
  sum : mg "sum" = none
  tuple : mg "tuple" = none
/-- math.comb of ints from 0 to 18000 -/
def rComb : List V → Hp → VK → Prop := fun vs H Q => ∃ a b : Int, vs = [.int a, .int b] ∧ 0 ≤ a ∧ 0 ≤ b ∧ a ≤ 18000 ∧ Q (.int (PySem.W.mcComb a b)) H
theorem cr_comb {X : Cx} : CallR X (.builtin "math.comb") rComb := by
  intro pins s σ H vs us Q I r h
  obtain ⟨a, b, rfl, h0, h1, h2, q⟩ := h
  obtain ⟨t, u, rfl⟩ := Vals.int2 r
  exact PySem.W.mc_comb h0 h1 (by omega) (.inr h2) fun _ => ⟨.int _, H, I.tok _, ⟨_, rfl⟩, q⟩
end Ft

namespace Ft
open PySem L2
def top (i : Nat) : Stmt := PySem.Challenge.pw_firstterms_k34_terms_of_divisor_pieces.main.body.getD i (.Pass ⟨0, 0, 0, 0⟩)
abbrev s_is_integer : Stmt := top 9
abbrev N_is_integer : List Str := ["thing"]
theorem sc_is_integer : FnScope N_is_integer ["thing"] (defScope s_is_integer) := ⟨rfl, rfl, rfl, by decide +kernel, rfl, by decide +kernel, by decide +kernel⟩
abbrev s_is_from : Stmt := top 10
abbrev N_is_from : List Str := ["thing", "least"]
theorem sc_is_from : FnScope N_is_from ["thing", "least"] (defScope s_is_from) := ⟨rfl, rfl, rfl, by decide +kernel, rfl, by decide +kernel, by decide +kernel⟩
abbrev s_is_between : Stmt := top 11
abbrev N_is_between : List Str := ["thing", "least", "most"]
theorem sc_is_between : FnScope N_is_between ["thing", "least", "most"] (defScope s_is_between) := ⟨rfl, rfl, rfl, by decide +kernel, rfl, by decide +kernel, by decide +kernel⟩
abbrev s_check_from : Stmt := top 12
abbrev N_check_from : List Str := ["thing", "least"]
theorem sc_check_from : FnScope N_check_from ["thing", "least"] (defScope s_check_from) := ⟨rfl, rfl, rfl, by decide +kernel, rfl, by decide +kernel, by decide +kernel⟩
abbrev s_check_between : Stmt := top 13
abbrev N_check_between : List Str := ["thing", "least", "most"]
theorem sc_check_between : FnScope N_check_between ["thing", "least", "most"] (defScope s_check_between) := ⟨rfl, rfl, rfl, by decide +kernel, rfl, by decide +kernel, by decide +kernel⟩
abbrev s_check_count : Stmt := top 14
abbrev N_check_count : List Str := ["many"]
theorem sc_check_count : FnScope N_check_count ["many"] (defScope s_check_count) := ⟨rfl, rfl, rfl, by decide +kernel, rfl, by decide +kernel, by decide +kernel⟩
abbrev s_lowest_terms : Stmt := top 16
abbrev N_lowest_terms : List Str := ["top", "bottom", "common"]
theorem sc_lowest_terms : FnScope N_lowest_terms ["top", "bottom"] (defScope s_lowest_terms) := ⟨rfl, rfl, rfl, by decide +kernel, rfl, by decide +kernel, by decide +kernel⟩
abbrev s_number_sum : Stmt := top 17
abbrev N_number_sum : List Str := ["one", "other"]
theorem sc_number_sum : FnScope N_number_sum ["one", "other"] (defScope s_number_sum) := ⟨rfl, rfl, rfl, by decide +kernel, rfl, by decide +kernel, by decide +kernel⟩
abbrev s_number_product : Stmt := top 18
abbrev N_number_product : List Str := ["one", "other"]
theorem sc_number_product : FnScope N_number_product ["one", "other"] (defScope s_number_product) := ⟨rfl, rfl, rfl, by decide +kernel, rfl, by decide +kernel, by decide +kernel⟩
abbrev s_raised : Stmt := top 19
abbrev N_raised : List Str := ["base", "exponent", "result", "square"]
theorem sc_raised : FnScope N_raised ["base", "exponent"] (defScope s_raised) := ⟨rfl, rfl, rfl, by decide +kernel, rfl, by decide +kernel, by decide +kernel⟩
abbrev s_is_sign : Stmt := top 21
abbrev N_is_sign : List Str := ["thing"]
theorem sc_is_sign : FnScope N_is_sign ["thing"] (defScope s_is_sign) := ⟨rfl, rfl, rfl, by decide +kernel, rfl, by decide +kernel, by decide +kernel⟩
abbrev s_check_sign : Stmt := top 22
abbrev N_check_sign : List Str := ["sign"]
theorem sc_check_sign : FnScope N_check_sign ["sign"] (defScope s_check_sign) := ⟨rfl, rfl, rfl, by decide +kernel, rfl, by decide +kernel, by decide +kernel⟩
abbrev s_value_at : Stmt := top 23
abbrev N_value_at : List Str := ["sign", "n", "rest", "value"]
theorem sc_value_at : FnScope N_value_at ["sign", "n"] (defScope s_value_at) := ⟨rfl, rfl, rfl, by decide +kernel, rfl, by decide +kernel, by decide +kernel⟩
abbrev s_value_at_two : Stmt := top 24
abbrev N_value_at_two : List Str := ["sign"]
theorem sc_value_at_two : FnScope N_value_at_two ["sign"] (defScope s_value_at_two) := ⟨rfl, rfl, rfl, by decide +kernel, rfl, by decide +kernel, by decide +kernel⟩
abbrev s_value_at_odd : Stmt := top 25
abbrev N_value_at_odd : List Str := ["top", "bottom", "value"]
theorem sc_value_at_odd : FnScope N_value_at_odd ["top", "bottom"] (defScope s_value_at_odd) := ⟨rfl, rfl, rfl, by decide +kernel, rfl, by decide +kernel, by decide +kernel⟩
abbrev s_any_sign_of : Stmt := top 26
abbrev N_any_sign_of : List Str := ["m", "bare"]
theorem sc_any_sign_of : FnScope N_any_sign_of ["m"] (defScope s_any_sign_of) := ⟨rfl, rfl, rfl, by decide +kernel, rfl, by decide +kernel, by decide +kernel⟩
abbrev s_without_squares : Stmt := top 27
abbrev N_without_squares : List Str := ["m", "rest", "bare", "p", "root"]
theorem sc_without_squares : FnScope N_without_squares ["m"] (defScope s_without_squares) := ⟨rfl, rfl, rfl, by decide +kernel, rfl, by decide +kernel, by decide +kernel⟩
abbrev s_joined_sign : Stmt := top 28
abbrev N_joined_sign : List Str := ["one", "other"]
theorem sc_joined_sign : FnScope N_joined_sign ["one", "other"] (defScope s_joined_sign) := ⟨rfl, rfl, rfl, by decide +kernel, rfl, by decide +kernel, by decide +kernel⟩
abbrev s_is_beginning : Stmt := top 30
abbrev N_is_beginning : List Str := ["thing", "bottom", "tops", "top"]
theorem sc_is_beginning : FnScope N_is_beginning ["thing"] (defScope s_is_beginning) := ⟨rfl, rfl, rfl, by decide +kernel, rfl, by decide +kernel, by decide +kernel⟩
abbrev s_check_beginning : Stmt := top 31
abbrev N_check_beginning : List Str := ["beginning"]
theorem sc_check_beginning : FnScope N_check_beginning ["beginning"] (defScope s_check_beginning) := ⟨rfl, rfl, rfl, by decide +kernel, rfl, by decide +kernel, by decide +kernel⟩
abbrev s_lowered : Stmt := top 32
abbrev N_lowered : List Str := ["bottom", "tops", "common", "top"]
theorem sc_lowered : FnScope N_lowered ["bottom", "tops"] (defScope s_lowered) := ⟨rfl, rfl, rfl, by decide +kernel, rfl, by decide +kernel, by decide +kernel⟩
abbrev s_term_at : Stmt := top 33
abbrev N_term_at : List Str := ["beginning", "n", "bottom", "tops"]
theorem sc_term_at : FnScope N_term_at ["beginning", "n"] (defScope s_term_at) := ⟨rfl, rfl, rfl, by decide +kernel, rfl, by decide +kernel, by decide +kernel⟩
abbrev s_bernoulli : Stmt := top 35
abbrev N_bernoulli : List Str := ["k", "sign", "size", "total", "i", "plain", "top"]
theorem sc_bernoulli : FnScope N_bernoulli ["k", "sign"] (defScope s_bernoulli) := ⟨rfl, rfl, rfl, by decide +kernel, rfl, by decide +kernel, by decide +kernel⟩
abbrev s_plain_numbers : Stmt := top 36
abbrev N_plain_numbers : List Str := ["k", "numbers", "n", "total", "i", "plain"]
theorem sc_plain_numbers : FnScope N_plain_numbers ["k"] (defScope s_plain_numbers) := ⟨rfl, rfl, rfl, by decide +kernel, rfl, by decide +kernel, by decide +kernel⟩
abbrev s_power_sum : Stmt := top 37
abbrev N_power_sum : List Str := ["sign", "e", "total", "a"]
theorem sc_power_sum : FnScope N_power_sum ["sign", "e"] (defScope s_power_sum) := ⟨rfl, rfl, rfl, by decide +kernel, rfl, by decide +kernel, by decide +kernel⟩
abbrev s_is_told : Stmt := top 39
abbrev N_is_told : List Str := ["thing", "word", "many"]
theorem sc_is_told : FnScope N_is_told ["thing", "word", "many"] (defScope s_is_told) := ⟨rfl, rfl, rfl, by decide +kernel, rfl, by decide +kernel, by decide +kernel⟩
abbrev s_is_divisor_piece : Stmt := top 41
abbrev N_is_divisor_piece : List Str := ["thing", "_", "k", "one", "other", "t"]
theorem sc_is_divisor_piece : FnScope N_is_divisor_piece ["thing"] (defScope s_is_divisor_piece) := ⟨rfl, rfl, rfl, by decide +kernel, rfl, by decide +kernel, by decide +kernel⟩
abbrev s_is_plain : Stmt := top 42
abbrev N_is_plain : List Str := ["divisor_piece"]
theorem sc_is_plain : FnScope N_is_plain ["divisor_piece"] (defScope s_is_plain) := ⟨rfl, rfl, rfl, by decide +kernel, rfl, by decide +kernel, by decide +kernel⟩
abbrev s_check_divisor_piece : Stmt := top 43
abbrev N_check_divisor_piece : List Str := ["divisor_piece"]
theorem sc_check_divisor_piece : FnScope N_check_divisor_piece ["divisor_piece"] (defScope s_check_divisor_piece) := ⟨rfl, rfl, rfl, by decide +kernel, rfl, by decide +kernel, by decide +kernel⟩
abbrev s_sum_level : Stmt := top 44
abbrev N_sum_level : List Str := ["divisor_piece", "_", "k", "one", "other", "t"]
theorem sc_sum_level : FnScope N_sum_level ["divisor_piece"] (defScope s_sum_level) := ⟨rfl, rfl, rfl, by decide +kernel, rfl, by decide +kernel, by decide +kernel⟩
abbrev s_sum_sign : Stmt := top 45
abbrev N_sum_sign : List Str := ["divisor_piece"]
theorem sc_sum_sign : FnScope N_sum_sign ["divisor_piece"] (defScope s_sum_sign) := ⟨rfl, rfl, rfl, by decide +kernel, rfl, by decide +kernel, by decide +kernel⟩
abbrev s_sum_first : Stmt := top 46
abbrev N_sum_first : List Str := ["divisor_piece", "_", "k", "one", "other", "t"]
theorem sc_sum_first : FnScope N_sum_first ["divisor_piece"] (defScope s_sum_first) := ⟨rfl, rfl, rfl, by decide +kernel, rfl, by decide +kernel, by decide +kernel⟩
abbrev s_sum_terms : Stmt := top 47
abbrev N_sum_terms : List Str := ["divisor_piece", "many", "bottom", "tops"]
theorem sc_sum_terms : FnScope N_sum_terms ["divisor_piece", "many"] (defScope s_sum_terms) := ⟨rfl, rfl, rfl, by decide +kernel, rfl, by decide +kernel, by decide +kernel⟩
abbrev s_sum_row : Stmt := top 48
abbrev N_sum_row : List Str := ["divisor_piece", "many", "_", "k", "one", "other", "t", "top", "bottom", "sums", "n", "later", "term"]
theorem sc_sum_row : FnScope N_sum_row ["divisor_piece", "many"] (defScope s_sum_row) := ⟨rfl, rfl, rfl, by decide +kernel, rfl, by decide +kernel, by decide +kernel⟩
abbrev s_divisor_sums : Stmt := top 49
abbrev N_divisor_sums : List Str := ["k", "one", "other", "many", "sums", "d", "factor", "n"]
theorem sc_divisor_sums : FnScope N_divisor_sums ["k", "one", "other", "many"] (defScope s_divisor_sums) := ⟨rfl, rfl, rfl, by decide +kernel, rfl, by decide +kernel, by decide +kernel⟩
abbrev s_divisors : Stmt := top 51
abbrev N_divisors : List Str := ["n", "d", "low", "high"]
theorem sc_divisors : FnScope N_divisors ["n"] (defScope s_divisors) := ⟨rfl, rfl, rfl, by decide +kernel, rfl, by decide +kernel, by decide +kernel⟩
abbrev s_divisor_sum : Stmt := top 52
abbrev N_divisor_sum : List Str := ["n", "k", "one", "other", "total", "d"]
theorem sc_divisor_sum : FnScope N_divisor_sum ["n", "k", "one", "other"] (defScope s_divisor_sum) := ⟨rfl, rfl, rfl, by decide +kernel, rfl, by decide +kernel, by decide +kernel⟩
abbrev s__law_deck : Stmt := top 54
abbrev N__law_deck : List Str := ["_law_script", "_law_mixed", "_law_cell"]
theorem sc__law_deck : FnScope N__law_deck ["_law_script"] (defScope s__law_deck) := ⟨rfl, rfl, rfl, by decide +kernel, rfl, by decide +kernel, by decide +kernel⟩
abbrev s__law_draw : Stmt := top 55
abbrev N__law_draw : List Str := ["_law_deck_here", "_law_below", "_law_figure", "_law_cell"]
theorem sc__law_draw : FnScope N__law_draw ["_law_deck_here", "_law_below"] (defScope s__law_draw) := ⟨rfl, rfl, rfl, by decide +kernel, rfl, by decide +kernel, by decide +kernel⟩
abbrev s__law_pick : Stmt := top 56
abbrev N__law_pick : List Str := ["_law_deck_here", "_law_some"]
theorem sc__law_pick : FnScope N__law_pick ["_law_deck_here", "_law_some"] (defScope s__law_pick) := ⟨rfl, rfl, rfl, by decide +kernel, rfl, by decide +kernel, by decide +kernel⟩
abbrev s__law_gcd : Stmt := top 57
abbrev N__law_gcd : List Str := ["_law_one", "_law_other"]
theorem sc__law_gcd : FnScope N__law_gcd ["_law_one", "_law_other"] (defScope s__law_gcd) := ⟨rfl, rfl, rfl, by decide +kernel, rfl, by decide +kernel, by decide +kernel⟩
abbrev s__law_lowest : Stmt := top 58
abbrev N__law_lowest : List Str := ["_law_top", "_law_bottom", "_law_common"]
theorem sc__law_lowest : FnScope N__law_lowest ["_law_top", "_law_bottom"] (defScope s__law_lowest) := ⟨rfl, rfl, rfl, by decide +kernel, rfl, by decide +kernel, by decide +kernel⟩
abbrev s__law_plus : Stmt := top 59
abbrev N__law_plus : List Str := ["_law_one", "_law_other"]
theorem sc__law_plus : FnScope N__law_plus ["_law_one", "_law_other"] (defScope s__law_plus) := ⟨rfl, rfl, rfl, by decide +kernel, rfl, by decide +kernel, by decide +kernel⟩
abbrev s__law_by : Stmt := top 60
abbrev N__law_by : List Str := ["_law_one", "_law_other"]
theorem sc__law_by : FnScope N__law_by ["_law_one", "_law_other"] (defScope s__law_by) := ⟨rfl, rfl, rfl, by decide +kernel, rfl, by decide +kernel, by decide +kernel⟩
abbrev s__law_prime_value : Stmt := top 61
abbrev N__law_prime_value : List Str := ["_law_sign", "_law_p", "_law_x"]
theorem sc__law_prime_value : FnScope N__law_prime_value ["_law_sign", "_law_p"] (defScope s__law_prime_value) := ⟨rfl, rfl, rfl, by decide +kernel, rfl, by decide +kernel, by decide +kernel⟩
abbrev s__law_values : Stmt := top 62
abbrev N__law_values : List Str := ["_law_sign", "_law_many", "_law_found", "_law_primes", "_law_n", "_law_d", "_law_p"]
theorem sc__law_values : FnScope N__law_values ["_law_sign", "_law_many"] (defScope s__law_values) := ⟨rfl, rfl, rfl, by decide +kernel, rfl, by decide +kernel, by decide +kernel⟩
abbrev s__law_sign_of : Stmt := top 63
abbrev N__law_sign_of : List Str := ["_law_m", "_law_part", "_law_d"]
theorem sc__law_sign_of : FnScope N__law_sign_of ["_law_m"] (defScope s__law_sign_of) := ⟨rfl, rfl, rfl, by decide +kernel, rfl, by decide +kernel, by decide +kernel⟩
abbrev s__law_power : Stmt := top 64
abbrev N__law_power : List Str := ["_law_base", "_law_often", "_law_found", "_law_go"]
theorem sc__law_power : FnScope N__law_power ["_law_base", "_law_often"] (defScope s__law_power) := ⟨rfl, rfl, rfl, by decide +kernel, rfl, by decide +kernel, by decide +kernel⟩
abbrev s__law_choose : Stmt := top 65
abbrev N__law_choose : List Str := ["_law_n", "_law_k", "_law_found", "_law_i"]
theorem sc__law_choose : FnScope N__law_choose ["_law_n", "_law_k"] (defScope s__law_choose) := ⟨rfl, rfl, rfl, by decide +kernel, rfl, by decide +kernel, by decide +kernel⟩
abbrev s__law_small_bernoulli : Stmt := top 66
abbrev N__law_small_bernoulli : List Str := ["_law_k", "_law_found", "_law_n", "_law_total", "_law_i", "_law_number"]
theorem sc__law_small_bernoulli : FnScope N__law_small_bernoulli ["_law_k"] (defScope s__law_small_bernoulli) := ⟨rfl, rfl, rfl, by decide +kernel, rfl, by decide +kernel, by decide +kernel⟩
abbrev s__law_bernoulli : Stmt := top 67
abbrev N__law_bernoulli : List Str := ["_law_k", "_law_sign", "_law_f", "_law_total", "_law_values_here", "_law_i", "_law_number", "_law_a", "_law_powers"]
theorem sc__law_bernoulli : FnScope N__law_bernoulli ["_law_k", "_law_sign"] (defScope s__law_bernoulli) := ⟨rfl, rfl, rfl, by decide +kernel, rfl, by decide +kernel, by decide +kernel⟩
abbrev s__law_sum_first : Stmt := top 68
abbrev N__law_sum_first : List Str := ["_law_piece", "_law_word", "_law_k", "_law_one", "_law_other", "_law_t"]
theorem sc__law_sum_first : FnScope N__law_sum_first ["_law_piece"] (defScope s__law_sum_first) := ⟨rfl, rfl, rfl, by decide +kernel, rfl, by decide +kernel, by decide +kernel⟩
abbrev s__law_divisor_sums : Stmt := top 69
abbrev N__law_divisor_sums : List Str := ["_law_k", "_law_one", "_law_other", "_law_many", "_law_left", "_law_right", "_law_found", "_law_d", "_law_worth", "_law_e"]
theorem sc__law_divisor_sums : FnScope N__law_divisor_sums ["_law_k", "_law_one", "_law_other", "_law_many"] (defScope s__law_divisor_sums) := ⟨rfl, rfl, rfl, by decide +kernel, rfl, by decide +kernel, by decide +kernel⟩
abbrev s__law_sum_terms : Stmt := top 70
abbrev N__law_sum_terms : List Str := ["_law_piece", "_law_many", "_law_word", "_law_k", "_law_one", "_law_other", "_law_t", "_law_sums", "_law_tops", "_law_first", "_law_n", "_law_x"]
theorem sc__law_sum_terms : FnScope N__law_sum_terms ["_law_piece", "_law_many"] (defScope s__law_sum_terms) := ⟨rfl, rfl, rfl, by decide +kernel, rfl, by decide +kernel, by decide +kernel⟩
abbrev s__law_sum_piece : Stmt := top 71
abbrev N__law_sum_piece : List Str := ["_law_deck_here", "_law_most", "_law_signs", "_law_sign", "_law_one", "_law_other", "_law_k", "_law_t"]
theorem sc__law_sum_piece : FnScope N__law_sum_piece ["_law_deck_here", "_law_most"] (defScope s__law_sum_piece) := ⟨rfl, rfl, rfl, by decide +kernel, rfl, by decide +kernel, by decide +kernel⟩
abbrev s__law_is_piece_told : Stmt := top 72
abbrev N__law_is_piece_told : List Str := ["_law_deck_here", "_law_piece", "_law_word", "_law_k", "_law_one", "_law_other", "_law_t", "_law_many", "_law_due", "_law_told", "_law_less", "_law_n", "_law_total", "_law_x"]
theorem sc__law_is_piece_told : FnScope N__law_is_piece_told ["_law_deck_here", "_law_piece"] (defScope s__law_is_piece_told) := ⟨rfl, rfl, rfl, by decide +kernel, rfl, by decide +kernel, by decide +kernel⟩
abbrev s_law : Stmt := top 73
abbrev N_law : List Str := ["_law_script", "_law_deck_here", "_law_go", "_law_piece"]
theorem sc_law : FnScope N_law ["_law_script"] (defScope s_law) := ⟨rfl, rfl, rfl, by decide +kernel, rfl, by decide +kernel, by decide +kernel⟩
end Ft

namespace Ft
open PySem L2

/-! ### the mirror of the program's defs -/
def valueTwo (s : Int) : Int := if s % 2 = 0 then 0 else if s % 8 = 1 then 1 else -1
/-- a sign as an int: true is 1 -/
def sg (v : Bool) : Int := if v = true then 1 else -1
def halve (b : Nat) : Nat → Nat → Bool → Nat × Bool
  | 0, t, v => (t, v)
  | f + 1, t, v => if t % 2 = 0 then halve b f (t / 2) (if b % 8 = 3 ∨ b % 8 = 5 then !v else v) else (t, v)
def jac : Nat → Nat → Nat → Bool → Nat × Bool
  | 0, _, b, v => (b, v)
  | f + 1, t, b, v => if t = 0 then (b, v) else
    let r := halve b t t v
    jac f (b % r.1) r.1 (if r.1 % 4 = 3 ∧ b % 4 = 3 then !r.2 else r.2)
def valueOdd (top : Int) (b : Nat) : Int :=
  let r := jac b (top % (b : Int)).toNat b true
  if r.1 = 1 then sg r.2 else 0
def twos (z : Int) : Nat → Nat → Int → Nat × Int
  | 0, r, v => (r, v)
  | f + 1, r, v => if r % 2 = 0 then twos z f (r / 2) (v * z) else (r, v)
def valueRest (s : Int) (r : Nat) : Int :=
  if r = 0 then (if s = 1 then 1 else 0) else
    let q := twos (valueTwo s) r r 1
    q.2 * valueOdd s q.1
def valueAt (s n : Int) : Int := valueRest s (n % (s.natAbs : Int)).toNat
def sqs (p : Nat) : Nat → Nat → Nat
  | 0, r => r
  | f + 1, r => if r % (p * p) = 0 then sqs p f (r / (p * p)) else r
def wsq : Nat → Nat → Int → Nat → Nat × Int
  | 0, r, b, _ => (r, b)
  | f + 1, r, b, p => if p * p * p ≤ r then
      let r1 := sqs p r r
      if r1 % p = 0 then wsq f (r1 / p) (b * p) (p + 1) else wsq f r1 b (p + 1)
    else (r, b)
def without (m : Int) : Int :=
  let q := wsq m.natAbs m.natAbs (if 0 < m then 1 else -1) 2
  if Float64.isqrt q.1 * Float64.isqrt q.1 = q.1 then q.2 else q.2 * q.1
def anySign (m : Int) : Int := if without m % 4 = 1 then without m else 4 * without m
def isSign (n : Int) : Bool := decide (-400 ≤ n) && (decide (n ≤ 400) && (decide (n ≠ 0) && decide (anySign n = n)))

/-! ### promises -/
def sp1 (C : Int → Prop) (g : Int → V) : Sp := fun vs H Q _ => ∃ n, vs = [.int n] ∧ C n ∧ Q (g n) H
def sp2 (C : Int → Int → Prop) (g : Int → Int → V) : Sp := fun vs H Q _ => ∃ m n, vs = [.int m, .int n] ∧ C m n ∧ Q (g m n) H
def sp3 (C : Int → Int → Int → Prop) (g : Int → Int → Int → V) : Sp := fun vs H Q _ => ∃ l m n, vs = [.int l, .int m, .int n] ∧ C l m n ∧ Q (g l m n) H
theorem sp1_len {C g} : ∀ vs H Q E, sp1 C g vs H Q E → vs.length = 1 := fun _ _ _ _ ⟨_, e, _⟩ => by rw [e]; rfl
theorem sp2_len {C g} : ∀ vs H Q E, sp2 C g vs H Q E → vs.length = 2 := fun _ _ _ _ ⟨_, _, e, _⟩ => by rw [e]; rfl
theorem sp3_len {C g} : ∀ vs H Q E, sp3 C g vs H Q E → vs.length = 3 := fun _ _ _ _ ⟨_, _, _, e, _⟩ => by rw [e]; rfl
def sp_is_integer : Sp := sp1 (fun _ => True) fun _ => .bl true
def sp_is_between : Sp := sp3 (fun _ _ _ => True) fun n a b => .bl (decide (a ≤ n) && decide (n ≤ b))
def sp_check_integer : Sp := sp1 (fun _ => True) fun _ => .non
def sp_is_sign : Sp := sp1 (fun _ => True) fun n => .bl (isSign n)
def sp_check_sign : Sp := sp1 (fun n => isSign n = true) fun _ => .non
def sp_value_at_two : Sp := sp1 (fun _ => True) fun n => .int (valueTwo n)
def sp_value_at_odd : Sp := sp2 (fun _ b => 0 < b) fun t b => .int (valueOdd t b.toNat)
def sp_value_at : Sp := sp2 (fun s _ => s ≠ 0) fun s n => .int (valueAt s n)
def sp_sign_at : Sp := sp2 (fun s _ => isSign s = true) fun s n => .int (valueAt s n)
def sp_without_squares : Sp := sp1 (fun m => m ≠ 0 ∧ m.natAbs ≤ 160000) fun m => .int (without m)
def sp_any_sign_of : Sp := sp1 (fun m => m ≠ 0 ∧ m.natAbs ≤ 160000) fun m => .int (anySign m)
def sp_joined_sign : Sp := sp2 (fun a b => isSign a = true ∧ isSign b = true) fun a b => .int (anySign (a * b))

section
variable {P : Program} {w : World} {K : PySem.W.Frag} {mg : Str → Option Value} {base : Heap}
theorem ok_is_integer (D : Df K mg "is_integer" s_is_integer ["thing"]) (B : Bi mg)  : Cal P w K mg base 1 "is_integer" sp_is_integer := by
  obtain ⟨f, fd, F, m, b⟩ := D.ex
  have sc := sc_is_integer
  refine ⟨f, fd, _, F.ok sc sp1_len (fun cdv A outer s H vs Q E hr h => ?_), m, F.kp, b⟩
  obtain ⟨n, rfl, _, q⟩ := h
  have hu := hu_of hr
  refine ⟨_, (pss_one (ps_ret (pe_and (pe_callB call_isi (by rfl) B.isinstance (by decide +kernel) (pa_cons (pv 0) (pa_cons (pe_ty (n := "int") (by rfl) B.int_ (by decide +kernel)) pa_nil))) (pe_one (pe_not (pe_callB call_isi (by rfl) B.isinstance (by decide +kernel) (pa_cons (pv 0) (pa_cons (pe_ty (n := "bool") (by rfl) B.bool (by decide +kernel)) pa_nil)))))))), ?_⟩
  refine ⟨_, rfl, _, _, _, _, true, rfl, .ty _, .base (.int n), kit_int_int, true, rfl, iteT ?_⟩
  refine ⟨_, rfl, _, _, _, _, false, rfl, .ty _, .base (.int n), kit_int_bool, false, rfl, ?_⟩
  exact q
theorem ok_is_between (D : Df K mg "is_between" s_is_between ["thing", "least", "most"]) (c_is_integer : Cal P w K mg base 1 "is_integer" sp_is_integer) : Cal P w K mg base 2 "is_between" sp_is_between := by
  obtain ⟨f, fd, F, m, b⟩ := D.ex
  have sc := sc_is_between
  refine ⟨f, fd, _, F.ok sc sp3_len (fun cdv A outer s H vs Q E hr h => ?_), m, F.kp, b⟩
  obtain ⟨n, lo, hi, rfl, _, q⟩ := h
  have hu := hu_of hr
  refine ⟨_, (pss_one (ps_ret (pe_and (pe_c c_is_integer hr (by decide) (by rfl) (pa_cons (pv 0) pa_nil)) (pe_one (pe_chain op_le op_le (pv 1) (pv 0) (pv 2)))))), ?_⟩
  refine ⟨_, rfl, n, rfl, trivial, true, rfl, iteT ?_⟩
  refine ⟨_, rfl, _, rfl, lo, n, rfl, rfl, _, rfl, ?_⟩
  refine ifD (fun h => ?_) fun h => ?_
  · refine ⟨_, rfl, n, hi, rfl, rfl, ?_⟩
    simp only [decide_eq_true h, Bool.true_and] at q
    exact q
  · simp only [decide_eq_false h, Bool.false_and] at q
    exact q
theorem ok_value_at_two (D : Df K mg "value_at_two" s_value_at_two ["sign"]) : Cal P w K mg base 1 "value_at_two" sp_value_at_two := by
  obtain ⟨f, fd, F, m, b⟩ := D.ex
  have sc := sc_value_at_two
  refine ⟨f, fd, _, F.ok sc sp1_len (fun cdv A outer s H vs Q E hr h => ?_), m, F.kp, b⟩
  obtain ⟨n, rfl, _, q⟩ := h
  refine ⟨_, (pss_cons (ps_if (pt_cmpR op_eq (pe_op op_mod (pv 0) pe_int) pe_int (nomark _))
      (pss_one (ps_ret pe_int))
      pss_nil)
      (pss_one (ps_ret (pe_ifExp (pt_cmpR op_eq (pe_op op_mod (pv 0) pe_int) pe_int (nomark _)) pe_int (pe_un un_neg pe_int))))), ?_⟩
  replace q : Q (.int (valueTwo n)) H := q
  unfold valueTwo at q
  refine ⟨_, rfl, _, _, rfl, rfl, (by show (0 : Int) < 2; decide), rfl, _, rfl, ifI (fun e => ?_) fun e => ?_⟩
  · rw [if_pos e] at q; exact q
  · rw [if_neg e] at q
    refine ⟨_, rfl, _, _, rfl, rfl, (by show (0 : Int) < 8; decide), rfl, _, rfl, ifI (fun e2 => ?_) fun e2 => ?_⟩
    · rw [if_pos e2] at q; exact q
    · rw [if_neg e2] at q; exact ⟨_, rfl, q⟩
end
end Ft

namespace Ft
open PySem L2
theorem sg_not (v : Bool) : -(sg v) = sg (!v) := by cases v <;> decide
theorem sg_true : sg true = 1 := by decide
/-- the int in slot i, as a measure -/
def m0 (i : Nat) (σ : L2.St) : Nat := match σ[i]? with
  | some (some (.int z)) => z.toNat
  | _ => 0
theorem st3 {a b c a' b' c' : Int} (h1 : a = a') (h2 : b = b') (h3 : c = c') : [some (V.int a), some (V.int b), some (V.int c)] = [some (V.int a'), some (V.int b'), some (V.int c')] := by rw [h1, h2, h3]
theorem halve_go {b f t : Nat} {v : Bool} (h : t % 2 = 0) : halve b (f + 1) t v = halve b f (t / 2) (if b % 8 = 3 ∨ b % 8 = 5 then !v else v) := by
  show (if t % 2 = 0 then _ else _) = _
  rw [if_pos h]
theorem halve_stop {b f t : Nat} {v : Bool} (h : ¬ t % 2 = 0) : halve b f t v = (t, v) := by
  cases f with
  | zero => rfl
  | succ f => show (if t % 2 = 0 then _ else _) = _; rw [if_neg h]
theorem jac_stop {b f : Nat} {v : Bool} : jac f 0 b v = (b, v) := by
  cases f with
  | zero => rfl
  | succ f => show (if (0:Nat) = 0 then _ else _) = _; rw [if_pos rfl]
theorem jac_go {b f t t' : Nat} {v v' : Bool} (h : t ≠ 0) (e : halve b t t v = (t', v')) : jac (f + 1) t b v = jac f (b % t') t' (if t' % 4 = 3 ∧ b % 4 = 3 then !v' else v') := by
  show (if t = 0 then _ else _) = _
  rw [if_neg h]
  dsimp only
  rw [e]

section
variable {P : Program} {w : World} {K : PySem.W.Frag} {mg : Str → Option Value} {base : Heap}
theorem ok_value_at_odd (D : Df K mg "value_at_odd" s_value_at_odd ["top", "bottom"]) : Cal P w K mg base 1 "value_at_odd" sp_value_at_odd := by
  obtain ⟨f, fd, F, m, b⟩ := D.ex
  have sc := sc_value_at_odd
  refine ⟨f, fd, _, F.ok sc sp2_len (fun cdv A outer s H vs Q E hr h => ?_), m, F.kp, b⟩
  obtain ⟨t, b0, rfl, hb, q⟩ := h
  replace hb : 0 < b0 := hb
  replace q : Q (.int (valueOdd t b0.toNat)) H := q
  refine ⟨_, (pss_cons (ps_set (i := 2) sc.nd rfl (Or.inl rfl) pe_int)
      (pss_cons (ps_set (i := 0) sc.nd rfl (Or.inl rfl) (pe_op op_mod (pv 0) (pv 1)))
      (pss_cons (ps_while PassesOwn.never (pt_cmpR op_ne (pv 0) pe_int (nomark _))
      (pss_cons (ps_while PassesOwn.never (pt_cmpR op_eq (pe_op op_mod (pv 0) pe_int) pe_int (nomark _))
        (pss_cons (ps_set (i := 0) sc.nd rfl (Or.inl rfl) (pe_op op_fdivW (pv 0) pe_int))
          (pss_one (ps_if (PW.pt (pw_or (pt_cmpR op_eq (pe_op op_mod (pv 1) pe_int) pe_int (nomark _)) (pw_or1 (pt_cmpR op_eq (pe_op op_mod (pv 1) pe_int) pe_int (nomark _)))))
          (pss_one (ps_set (i := 2) sc.nd rfl (Or.inl rfl) (pe_un un_neg (pv 2))))
          pss_nil))))
        (pss_cons (ps_if (PW.pt (pw_and (pt_cmpR op_eq (pe_op op_mod (pv 0) pe_int) pe_int (nomark _)) (pw_and1 (pt_cmpR op_eq (pe_op op_mod (pv 1) pe_int) pe_int (nomark _)))))
        (pss_one (ps_set (i := 2) sc.nd rfl (Or.inl rfl) (pe_un un_neg (pv 2))))
        pss_nil)
        (pss_one (ps_par (i := 0) (j := 1) (by rfl) sc.nd rfl rfl (by decide) rfl rfl (pa_cons (pe_op op_mod (pv 1) (pv 0)) (pa_cons (pv 0) pa_nil)) (by rfl))))))
      (pss_one (ps_ret (pe_ifExp (pt_cmpR op_eq (pv 1) pe_int (nomark _)) (pv 2) pe_int)))))), ?_⟩
  obtain ⟨n0, rfl⟩ : ∃ n : Nat, b0 = n := ⟨b0.toNat, by omega⟩
  have hn : 0 < n0 := by omega
  have hm := Int.emod_nonneg t (b := (n0 : Int)) (by omega)
  have hl := Int.emod_lt_of_pos t hb
  obtain ⟨t0, ht0⟩ : ∃ n : Nat, t % (n0 : Int) = n := ⟨(t % (n0 : Int)).toNat, by omega⟩
  have qe : valueOdd t n0 = if (jac n0 t0 n0 true).1 = 1 then sg (jac n0 t0 n0 true).2 else 0 := by
    unfold valueOdd
    rw [ht0]
    rfl
  rw [Int.toNat_natCast, qe] at q
  refine ⟨_, rfl, _, rfl, _, _, rfl, rfl, hb, ?_⟩
  refine while_go (fun σ H' => H = H' ∧ ∃ (f tn bn : Nat) (v : Bool), σ = [some (.int (tn : Nat)), some (.int (bn : Nat)), some (.int (sg v))] ∧ 0 < bn ∧ tn ≤ f ∧ jac f tn bn v = jac n0 t0 n0 true) (fun σ _ => m0 0 σ)
    ⟨rfl, n0, t0, n0, true, st3 ht0 rfl rfl, hn, by omega, rfl⟩ ?_
  rintro σ _ ⟨rfl, f, tn, bn, v, rfl, hbn, hf, hj⟩
  refine ⟨_, rfl, rfl, _, rfl, ifNI (fun hne => ?_) fun he => ?_⟩
  · have htn : tn ≠ 0 := by omega
    obtain ⟨f', rfl⟩ : ∃ n, f = n + 1 := ⟨f - 1, by omega⟩
    refine ⟨fun σ' H' => H = H' ∧ ∃ (f tn' bn : Nat) (v : Bool), σ' = [some (.int (tn' : Nat)), some (.int (bn : Nat)), some (.int (sg v))] ∧ 0 < bn ∧ tn' ≤ f ∧ jac f tn' bn v = jac n0 t0 n0 true ∧ tn' < tn, ?_, ?_⟩
    · rintro σ' _ ⟨rfl, f2, tn', bn', v', rfl, h1, h2, h3, h4⟩
      exact ⟨_, (by show ((tn' : Int)).toNat < ((tn : Int)).toNat; omega), rfl, rfl, f2, tn', bn', v', rfl, h1, h2, h3⟩
    refine while_go (fun σ H' => H = H' ∧ ∃ (g tm : Nat) (u : Bool), σ = [some (.int (tm : Nat)), some (.int (bn : Nat)), some (.int (sg u))] ∧ 0 < tm ∧ tm ≤ g ∧ tm ≤ tn ∧ halve bn g tm u = halve bn tn tn v) (fun σ _ => m0 0 σ)
      ⟨rfl, tn, tn, v, rfl, by omega, Nat.le_refl _, Nat.le_refl _, rfl⟩ ?_
    rintro σ _ ⟨rfl, g, tm, u, rfl, h1, h2, h2b, h3⟩
    refine ⟨_, rfl, _, _, rfl, rfl, (by show (0 : Int) < 2; decide), rfl, _, rfl, ifI (fun e => ?_) fun e => ?_⟩
    · have e' : tm % 2 = 0 := by omega
      obtain ⟨g', rfl⟩ : ∃ n, g = n + 1 := ⟨g - 1, by omega⟩
      rw [halve_go e'] at h3
      refine ⟨fun σ' H' => H = H' ∧ ∃ (g tm' : Nat) (u : Bool), σ' = [some (.int (tm' : Nat)), some (.int (bn : Nat)), some (.int (sg u))] ∧ 0 < tm' ∧ tm' ≤ g ∧ tm' ≤ tn ∧ halve bn g tm' u = halve bn tn tn v ∧ tm' < tm, ?_, ?_⟩
      · rintro σ' _ ⟨rfl, f2, tn', v', rfl, h1, h2, h2b, h3, h4⟩
        exact ⟨_, (by show ((tn' : Int)).toNat < ((tm : Int)).toNat; omega), rfl, rfl, f2, tn', v', rfl, h1, h2, h2b, h3⟩
      refine ⟨_, rfl, _, _, rfl, rfl, ⟨by decide, by decide⟩, ?_⟩
      have ed : (tm : Int) / 2 = ((tm / 2 : Nat) : Int) := by omega
      refine ⟨_, rfl, _, _, rfl, rfl, (by show (0 : Int) < 8; decide), rfl, _, rfl, ifI (fun e3 => ?_) fun e3 => ?_⟩
      · have c : bn % 8 = 3 ∨ bn % 8 = 5 := by omega
        rw [if_pos c] at h3
        refine iteT ?_
        refine ⟨_, rfl, _, rfl, ?_⟩
        exact ⟨rfl, g', tm / 2, !u, st3 ed rfl (sg_not u), by omega, by omega, by omega, h3, by omega⟩
      · refine ⟨_, rfl, _, _, rfl, rfl, (by show (0 : Int) < 8; decide), rfl, _, rfl, ifI (fun e5 => ?_) fun e5 => ?_⟩
        · have c : bn % 8 = 3 ∨ bn % 8 = 5 := by omega
          rw [if_pos c] at h3
          refine ⟨_, rfl, _, rfl, ?_⟩
          exact ⟨rfl, g', tm / 2, !u, st3 ed rfl (sg_not u), by omega, by omega, by omega, h3, by omega⟩
        · have c : ¬ (bn % 8 = 3 ∨ bn % 8 = 5) := by omega
          rw [if_neg c] at h3
          exact ⟨rfl, g', tm / 2, u, st3 ed rfl rfl, by omega, by omega, by omega, h3, by omega⟩
    · have e' : ¬ tm % 2 = 0 := by omega
      rw [halve_stop e'] at h3
      have hg := jac_go (f := f') (b := bn) htn h3.symm
      rw [hj] at hg
      have hmod : bn % tm < tm := Nat.mod_lt _ h1
      have em : (bn : Int) % (tm : Int) = ((bn % tm : Nat) : Int) := by omega
      refine ⟨_, rfl, _, _, rfl, rfl, (by show (0 : Int) < 4; decide), rfl, _, rfl, ifI (fun e3 => ?_) fun e3 => ?_⟩
      · refine ⟨_, rfl, _, _, rfl, rfl, (by show (0 : Int) < 4; decide), rfl, _, rfl, ifI (fun e4 => ?_) fun e4 => ?_⟩
        · have c : tm % 4 = 3 ∧ bn % 4 = 3 := by omega
          rw [if_pos c] at hg
          refine ⟨_, rfl, _, rfl, ?_⟩
          refine ⟨_, rfl, _, rfl, _, _, rfl, rfl, (by show (0 : Int) < (tm : Int); omega), _, rfl, _, _, rfl, ?_⟩
          exact ⟨rfl, f', _, tm, !u, st3 em rfl (sg_not u), h1, by omega, hg.symm, by omega⟩
        · have c : ¬ (tm % 4 = 3 ∧ bn % 4 = 3) := by omega
          rw [if_neg c] at hg
          refine ⟨_, rfl, _, rfl, _, _, rfl, rfl, (by show (0 : Int) < (tm : Int); omega), _, rfl, _, _, rfl, ?_⟩
          exact ⟨rfl, f', _, tm, u, st3 em rfl rfl, h1, by omega, hg.symm, by omega⟩
      · have c : ¬ (tm % 4 = 3 ∧ bn % 4 = 3) := by omega
        rw [if_neg c] at hg
        refine iteF ?_
        refine ⟨_, rfl, _, rfl, _, _, rfl, rfl, (by show (0 : Int) < (tm : Int); omega), _, rfl, _, _, rfl, ?_⟩
        exact ⟨rfl, f', _, tm, u, st3 em rfl rfl, h1, by omega, hg.symm, by omega⟩
  · have htn : tn = 0 := by omega
    subst htn
    rw [jac_stop] at hj
    rw [← hj] at q
    dsimp only at q
    refine ⟨_, rfl, rfl, _, rfl, ifI (fun e => ?_) fun e => ?_⟩
    · rw [if_pos (by omega)] at q
      exact ⟨_, rfl, q⟩
    · rw [if_neg (by omega)] at q
      exact q
end
end Ft

namespace Ft
open PySem L2
theorem st4 {a b c d a' b' c' d' : Int} (h1 : a = a') (h2 : b = b') (h3 : c = c') (h4 : d = d') : [some (V.int a), some (V.int b), some (V.int c), some (V.int d)] = [some (V.int a'), some (V.int b'), some (V.int c'), some (V.int d')] := by rw [h1, h2, h3, h4]
theorem cdivN {i : Int} {n : Nat} (h0 : 0 < n) (h : n < 2 ^ 64) : CDivW i (n : Int) := wide_div (b := 64) (by omega) (by omega) (by decide) (by decide)
theorem cmulL {i : Int} {n : Nat} (h : n < 2 ^ 64) : CMul (n : Int) i := .inl ⟨by omega, by omega⟩
theorem cmulR {i : Int} {n : Nat} (h : n < 2 ^ 64) : CMul i (n : Int) := .inr ⟨by omega, by omega⟩
theorem twos_go {z : Int} {f r : Nat} {v : Int} (h : r % 2 = 0) : twos z (f + 1) r v = twos z f (r / 2) (v * z) := by
  show (if r % 2 = 0 then _ else _) = _
  rw [if_pos h]
theorem twos_stop {z : Int} {f r : Nat} {v : Int} (h : ¬ r % 2 = 0) : twos z f r v = (r, v) := by
  cases f with
  | zero => rfl
  | succ f => show (if r % 2 = 0 then _ else _) = _; rw [if_neg h]
theorem valueTwo_le (s : Int) : -1 ≤ valueTwo s ∧ valueTwo s ≤ 1 := by
  unfold valueTwo
  split
  · omega
  · split <;> omega
theorem sqs_go {p f r : Nat} (h : r % (p * p) = 0) : sqs p (f + 1) r = sqs p f (r / (p * p)) := by
  show (if r % (p * p) = 0 then _ else _) = _
  rw [if_pos h]
theorem sqs_stop {p f r : Nat} (h : ¬ r % (p * p) = 0) : sqs p f r = r := by
  cases f with
  | zero => rfl
  | succ f => show (if r % (p * p) = 0 then _ else _) = _; rw [if_neg h]
theorem wsq_stop {f r p : Nat} {b : Int} (h : ¬ p * p * p ≤ r) : wsq f r b p = (r, b) := by
  cases f with
  | zero => rfl
  | succ f => show (if p * p * p ≤ r then _ else _) = _; rw [if_neg h]
theorem wsq_go1 {f r p r1 : Nat} {b : Int} (h : p * p * p ≤ r) (e : sqs p r r = r1) (h1 : r1 % p = 0) : wsq (f + 1) r b p = wsq f (r1 / p) (b * p) (p + 1) := by
  show (if p * p * p ≤ r then _ else _) = _
  rw [if_pos h]
  dsimp only
  rw [e, if_pos h1]
theorem wsq_go2 {f r p r1 : Nat} {b : Int} (h : p * p * p ≤ r) (e : sqs p r r = r1) (h1 : ¬ r1 % p = 0) : wsq (f + 1) r b p = wsq f r1 b (p + 1) := by
  show (if p * p * p ≤ r then _ else _) = _
  rw [if_pos h]
  dsimp only
  rw [e, if_neg h1]
theorem cube_le {p r : Nat} (h : p * p * p ≤ r) (hp : 2 ≤ p) : p < r := by
  have h1 : 2 * p ≤ p * p := Nat.mul_le_mul_right p hp
  have h2 : p * p * 2 ≤ p * p * p := Nat.mul_le_mul_left (p * p) hp
  omega
theorem div_small {r q : Nat} (h : r % q = 0) (hr : 0 < r) (hq : 2 ≤ q) : 0 < r / q ∧ r / q < r := by
  refine ⟨?_, Nat.div_lt_self hr hq⟩
  have e := Nat.div_add_mod r q
  rw [h, Nat.add_zero] at e
  refine Nat.pos_of_ne_zero fun z => ?_
  rw [z, Nat.mul_zero] at e
  omega
theorem sq_small {p : Nat} (h : p ≤ 160001) : p * p < 2 ^ 64 := Nat.lt_of_le_of_lt (Nat.mul_le_mul h h) (by decide)
theorem isqrt_le (n : Nat) : Float64.isqrt n ≤ n := by
  have h := (Float64.isqrt_spec n).1
  rcases Nat.eq_zero_or_pos (Float64.isqrt n) with z | z
  · omega
  · exact Nat.le_trans (Nat.le_mul_of_pos_left _ z) h

section
variable {P : Program} {w : World} {K : PySem.W.Frag} {mg : Str → Option Value} {base : Heap}
theorem ok_value_at (D : Df K mg "value_at" s_value_at ["sign", "n"]) (B : Bi mg) (c_value_at_two : Cal P w K mg base 1 "value_at_two" sp_value_at_two) (c_value_at_odd : Cal P w K mg base 1 "value_at_odd" sp_value_at_odd) : Cal P w K mg base 2 "value_at" sp_value_at := by
  obtain ⟨f, fd, F, m, b⟩ := D.ex
  have sc := sc_value_at
  refine ⟨f, fd, _, F.ok sc sp2_len (fun cdv A outer s H vs Q E hr h => ?_), m, F.kp, b⟩
  obtain ⟨z, n, rfl, hz, q⟩ := h
  replace q : Q (.int (valueAt z n)) H := q
  replace hz : z ≠ 0 := hz
  refine ⟨_, (pss_cons (ps_set (i := 2) sc.nd rfl (Or.inl rfl) (pe_op op_mod (pv 1) (pe_callB call_abs (by rfl) B.abs (by decide +kernel) (pa_cons (pv 0) pa_nil))))
      (pss_cons (ps_if (pt_cmpR op_eq (pv 2) pe_int (nomark _))
      (pss_one (ps_ret (pe_ifExp (pt_cmpR op_eq (pv 0) pe_int (nomark _)) pe_int pe_int)))
      pss_nil)
      (pss_cons (ps_set (i := 3) sc.nd rfl (Or.inl rfl) pe_int)
      (pss_cons (ps_while PassesOwn.never (pt_cmpR op_eq (pe_op op_mod (pv 2) pe_int) pe_int (nomark _))
      (pss_cons (ps_set (i := 2) sc.nd rfl (Or.inl rfl) (pe_op op_fdivW (pv 2) pe_int))
        (pss_one (ps_set (i := 3) sc.nd rfl (Or.inl rfl) (pe_op op_mul (pv 3) (pe_c c_value_at_two hr (by decide) (by rfl) (pa_cons (pv 0) pa_nil)))))))
      (pss_one (ps_ret (pe_op op_mul (pv 3) (pe_c c_value_at_odd hr (by decide) (by rfl) (pa_cons (pv 0) (pa_cons (pv 2) pa_nil)))))))))), ?_⟩
  have ea : (if z < 0 then -z else z) = (z.natAbs : Int) := by split <;> omega
  have hp : (0 : Int) < (z.natAbs : Int) := by omega
  have hm := Int.emod_nonneg n (b := (z.natAbs : Int)) (by omega)
  obtain ⟨r, hrr⟩ : ∃ r : Nat, n % (z.natAbs : Int) = r := ⟨(n % (z.natAbs : Int)).toNat, by omega⟩
  unfold valueAt at q
  rw [hrr, Int.toNat_natCast] at q
  unfold valueRest at q
  refine ⟨_, rfl, _, rfl, z, rfl, n, _, rfl, rfl, (by show 0 < (if z < 0 then -z else z); rw [ea]; exact hp), ?_⟩
  have es : n % (if z < 0 then -z else z) = (r : Int) := by rw [ea]; exact hrr
  refine ⟨_, rfl, rfl, _, rfl, ifI (fun e => ?_) fun e => ?_⟩
  · have r0 : r = 0 := by rw [es] at e; omega
    rw [if_pos r0] at q
    refine ⟨_, rfl, rfl, _, rfl, ifI (fun e2 => ?_) fun e2 => ?_⟩
    · rw [if_pos e2] at q; exact q
    · rw [if_neg e2] at q; exact q
  · have r0 : r ≠ 0 := by rw [es] at e; omega
    rw [if_neg r0] at q
    dsimp only at q
    refine while_go (fun σ H' => H = H' ∧ ∃ (g t : Nat) (v : Int), σ = [some (.int z), some (.int n), some (.int (t : Nat)), some (.int v)] ∧ 0 < t ∧ t ≤ g ∧ -1 ≤ v ∧ v ≤ 1 ∧ twos (valueTwo z) g t v = twos (valueTwo z) r r 1) (fun σ _ => m0 2 σ)
      ⟨rfl, r, r, 1, st4 rfl rfl es rfl, by omega, Nat.le_refl _, by decide, by decide, rfl⟩ ?_
    rintro σ _ ⟨rfl, g, t, v, rfl, h1, h2, h3, h4, h5⟩
    refine ⟨_, rfl, _, _, rfl, rfl, (by show (0 : Int) < 2; decide), rfl, _, rfl, ifI (fun e => ?_) fun e => ?_⟩
    · have e' : t % 2 = 0 := by omega
      obtain ⟨g', rfl⟩ : ∃ n, g = n + 1 := ⟨g - 1, by omega⟩
      rw [twos_go e'] at h5
      refine ⟨fun σ' H' => H = H' ∧ ∃ (g t' : Nat) (v : Int), σ' = [some (.int z), some (.int n), some (.int (t' : Nat)), some (.int v)] ∧ 0 < t' ∧ t' ≤ g ∧ -1 ≤ v ∧ v ≤ 1 ∧ twos (valueTwo z) g t' v = twos (valueTwo z) r r 1 ∧ t' < t, ?_, ?_⟩
      · rintro σ' _ ⟨rfl, g2, t', v', rfl, k1, k2, k3, k4, k5, k6⟩
        exact ⟨_, (by show ((t' : Int)).toNat < ((t : Int)).toNat; omega), rfl, rfl, g2, t', v', rfl, k1, k2, k3, k4, k5⟩
      refine ⟨_, rfl, _, _, rfl, rfl, ⟨by decide, by decide⟩, ?_⟩
      have vt := valueTwo_le z
      have hv : -1 ≤ v * valueTwo z ∧ v * valueTwo z ≤ 1 := by
        obtain h | h | h : v = -1 ∨ v = 0 ∨ v = 1 := by omega
        all_goals (rw [h]; omega)
      refine ⟨_, rfl, _, rfl, z, rfl, trivial, _, _, rfl, rfl, .inl ⟨by omega, by omega⟩, ?_⟩
      exact ⟨rfl, g', t / 2, _, rfl, by omega, by omega, hv.1, hv.2, h5, by omega⟩
    · rw [twos_stop (by omega)] at h5
      rw [← h5] at q
      dsimp only at q
      refine ⟨_, rfl, _, rfl, _, rfl, z, _, rfl, (by show (0 : Int) < (t : Int); omega), _, _, rfl, rfl, .inl ⟨by omega, by omega⟩, ?_⟩
      exact q
theorem ok_without_squares (D : Df K mg "without_squares" s_without_squares ["m"]) (B : Bi mg)  : Cal P w K mg base 1 "without_squares" sp_without_squares := by
  obtain ⟨f, fd, F, m, b⟩ := D.ex
  have sc := sc_without_squares
  refine ⟨f, fd, _, F.ok sc sp1_len (fun cdv A outer s H vs Q E hr h => ?_), m, F.kp, b⟩
  obtain ⟨z, rfl, ⟨hz, hz2⟩, q⟩ := h
  replace q : Q (.int (without z)) H := q
  refine ⟨_, (pss_cons (ps_set (i := 1) sc.nd rfl (Or.inl rfl) (pe_callB call_abs (by rfl) B.abs (by decide +kernel) (pa_cons (pv 0) pa_nil)))
      (pss_cons (ps_set (i := 2) sc.nd rfl (Or.inl rfl) (pe_ifExp (pt_cmpR op_gt (pv 0) pe_int (nomark _)) pe_int (pe_un un_neg pe_int)))
      (pss_cons (ps_set (i := 3) sc.nd rfl (Or.inl rfl) pe_int)
      (pss_cons (ps_while PassesOwn.never (pt_cmpR op_le (pe_op op_mul (pe_op op_mul (pv 3) (pv 3)) (pv 3)) (pv 1) (nomark _))
      (pss_cons (ps_while PassesOwn.never (pt_cmpR op_eq (pe_op op_mod (pv 1) (pe_op op_mul (pv 3) (pv 3))) pe_int (nomark _))
        (pss_one (ps_set (i := 1) sc.nd rfl (Or.inl rfl) (pe_op op_fdivW (pv 1) (pe_op op_mul (pv 3) (pv 3))))))
        (pss_cons (ps_if (pt_cmpR op_eq (pe_op op_mod (pv 1) (pv 3)) pe_int (nomark _))
        (pss_cons (ps_set (i := 1) sc.nd rfl (Or.inl rfl) (pe_op op_fdivW (pv 1) (pv 3)))
          (pss_one (ps_set (i := 2) sc.nd rfl (Or.inl rfl) (pe_op op_mul (pv 2) (pv 3)))))
        pss_nil)
        (pss_one (ps_aug (i := 3) sc.nd rfl (Or.inl rfl) pe_int ip_add)))))
      (pss_cons (ps_set (i := 4) sc.nd rfl (Or.inl rfl) (pe_callBfun cr_isqrt (by rfl) B.isqrt (pa_cons (pv 1) pa_nil)))
      (pss_one (ps_ret (pe_ifExp (pt_cmpR op_eq (pe_op op_mul (pv 4) (pv 4)) (pv 1) (nomark _)) (pv 2) (pe_op op_mul (pv 2) (pv 1)))))))))), ?_⟩
  have ea : (if z < 0 then -z else z) = (z.natAbs : Int) := by split <;> omega
  have st5 : ∀ {b2 c2 d2 b' c' d' : Int} {x : Option V}, b2 = b' → c2 = c' → d2 = d' → [some (V.int z), some (V.int b2), some (V.int c2), some (V.int d2), x] = [some (V.int z), some (V.int b'), some (V.int c'), some (V.int d'), x] := fun h1 h2 h3 => by rw [h1, h2, h3]
  have st5r : ∀ {b2 c2 d2 b' : Int} {x : Option V}, b2 = b' → [some (V.int z), some (V.int b2), some (V.int c2), some (V.int d2), x] = [some (V.int z), some (V.int b'), some (V.int c2), some (V.int d2), x] := fun h1 => by rw [h1]
  unfold without at q
  refine ⟨_, rfl, z, rfl, ?_⟩
  refine ⟨_, rfl, _, _, rfl, rfl, _, rfl, ifD (fun e => ?_) fun e => ⟨_, rfl, ?_⟩⟩
  · rw [if_pos e] at q
    generalize hR : wsq z.natAbs z.natAbs 1 2 = R at q
    dsimp only at q
    refine while_go (fun σ H' => H = H' ∧ ∃ (f r p : Nat) (b : Int), σ = [some (.int z), some (.int (r : Nat)), some (.int b), some (.int (p : Nat)), none] ∧ 0 < r ∧ r ≤ 160000 ∧ 2 ≤ p ∧ p ≤ 160001 ∧ r < f + p ∧ wsq f r b p = R) (fun σ _ => m0 1 σ + 160002 - m0 3 σ)
      ⟨rfl, z.natAbs, z.natAbs, 2, _, st5 ea rfl rfl, by omega, by omega, by decide, by decide, by omega, hR⟩ ?_
    rintro σ _ ⟨rfl, f, r, p, b, rfl, r0, r1, p2, p3, hf, hw⟩
    have hpp := sq_small p3
    have hpl : p < 2 ^ 64 := by omega
    refine ⟨_, rfl, _, rfl, _, _, rfl, rfl, cmulL hpl, _, rfl, _, _, rfl, rfl, cmulR hpl, _, rfl, _, _, rfl, rfl, _, rfl, ifD (fun e => ?_) fun e => ?_⟩
    · have e' : p * p * p ≤ r := Int.ofNat_le.mp e
      have pr := cube_le e' p2
      have pp0 : 0 < p * p := Nat.mul_pos (by omega) (by omega)
      have pp2 : 2 ≤ p * p := Nat.le_trans p2 (Nat.le_mul_of_pos_left _ (by omega))
      obtain ⟨f', rfl⟩ : ∃ n, f = n + 1 := ⟨f - 1, by omega⟩
      refine ⟨fun σ' H' => H = H' ∧ ∃ (f r' p' : Nat) (b : Int), σ' = [some (.int z), some (.int (r' : Nat)), some (.int b), some (.int (p' : Nat)), none] ∧ 0 < r' ∧ r' ≤ 160000 ∧ 2 ≤ p' ∧ p' ≤ 160001 ∧ r' < f + p' ∧ wsq f r' b p' = R ∧ r' ≤ r ∧ p' = p + 1, ?_, ?_⟩
      · rintro σ' _ ⟨rfl, f2, r', p', b', rfl, k1, k2, k3, k4, k5, k6, k7, k8⟩
        exact ⟨_, (by show ((r' : Int)).toNat + 160002 - ((p' : Int)).toNat < ((r : Int)).toNat + 160002 - ((p : Int)).toNat; omega), rfl, rfl, f2, r', p', b', rfl, k1, k2, k3, k4, k5, k6⟩
      refine while_go (fun σ H' => H = H' ∧ ∃ (g t : Nat), σ = [some (.int z), some (.int (t : Nat)), some (.int b), some (.int (p : Nat)), none] ∧ 0 < t ∧ t ≤ g ∧ t ≤ r ∧ sqs p g t = sqs p r r) (fun σ _ => m0 1 σ)
        ⟨rfl, r, r, rfl, r0, Nat.le_refl _, Nat.le_refl _, rfl⟩ ?_
      rintro σ _ ⟨rfl, g, t, rfl, h1, h2, h3, h4⟩
      refine ⟨_, rfl, _, rfl, _, rfl, _, _, rfl, rfl, cmulL hpl, _, _, rfl, rfl, (by show (0 : Int) < ((p * p : Nat) : Int); omega), rfl, _, rfl, ifI (fun em => ?_) fun em => ?_⟩
      · have em' : t % (p * p) = 0 := Int.ofNat.inj em
        obtain ⟨g', rfl⟩ : ∃ n, g = n + 1 := ⟨g - 1, by omega⟩
        rw [sqs_go em'] at h4
        have ds := div_small em' h1 pp2
        refine ⟨fun σ' H' => H = H' ∧ ∃ (g t' : Nat), σ' = [some (.int z), some (.int (t' : Nat)), some (.int b), some (.int (p : Nat)), none] ∧ 0 < t' ∧ t' ≤ g ∧ t' ≤ r ∧ sqs p g t' = sqs p r r ∧ t' < t, ?_, ?_⟩
        · rintro σ' _ ⟨rfl, g2, t', rfl, k1, k2, k3, k4, k5⟩
          exact ⟨_, (by show ((t' : Int)).toNat < ((t : Int)).toNat; omega), rfl, rfl, g2, t', rfl, k1, k2, k3, k4⟩
        refine ⟨_, rfl, _, rfl, _, rfl, _, _, rfl, rfl, cmulL hpl, _, _, rfl, rfl, cdivN pp0 hpp, ?_⟩
        exact ⟨rfl, g', t / (p * p), rfl, ds.1, by omega, by omega, h4, ds.2⟩
      · have em' : ¬ t % (p * p) = 0 := fun z => em (congrArg Int.ofNat z)
        rw [sqs_stop em'] at h4
        refine ⟨_, rfl, _, rfl, _, _, rfl, rfl, (by show (0 : Int) < (p : Int); omega), rfl, _, rfl, ifI (fun ep => ?_) fun ep => ?_⟩
        · have ep' : t % p = 0 := Int.ofNat.inj ep
          have hg := wsq_go1 (f := f') (b := b) e' h4.symm ep'
          rw [hw] at hg
          have ds := div_small ep' h1 p2
          refine ⟨_, rfl, _, rfl, _, _, rfl, rfl, cdivN (by omega) hpl, ?_⟩
          refine ⟨_, rfl, _, rfl, _, _, rfl, rfl, cmulR hpl, ?_⟩
          refine ⟨_, rfl, _, _, rfl, rfl, ?_⟩
          exact ⟨rfl, f', t / p, p + 1, b * p, rfl, ds.1, by omega, by omega, by omega, by omega, hg.symm, by omega, rfl⟩
        · have ep' : ¬ t % p = 0 := fun z => ep (congrArg Int.ofNat z)
          have hg := wsq_go2 (f := f') (b := b) e' h4.symm ep'
          rw [hw] at hg
          refine ⟨_, rfl, _, _, rfl, rfl, ?_⟩
          exact ⟨rfl, f', t, p + 1, b, rfl, h1, by omega, by omega, by omega, by omega, hg.symm, by omega, rfl⟩
    · have e' : ¬ p * p * p ≤ r := fun z => e (Int.ofNat_le.mpr z)
      rw [wsq_stop e'] at hw
      subst hw
      dsimp only at q
      have hi := isqrt_le r
      refine ⟨_, rfl, _, rfl, by omega, by omega, ?_⟩
      refine ⟨_, rfl, _, rfl, _, _, rfl, rfl, cmulL (n := Float64.isqrt r) (by omega), _, rfl, rfl, _, rfl, ifI (fun er => ?_) fun er => ?_⟩
      · rw [if_pos (show Float64.isqrt r * Float64.isqrt r = r from Int.ofNat.inj er)] at q
        exact ⟨_, rfl, q⟩
      · rw [if_neg (show ¬ Float64.isqrt r * Float64.isqrt r = r from fun z => er (congrArg Int.ofNat z))] at q
        exact ⟨_, rfl, _, rfl, _, _, rfl, rfl, cmulR (by omega), q⟩
  · rw [if_neg e] at q
    generalize hR : wsq z.natAbs z.natAbs (-1) 2 = R at q
    dsimp only at q
    refine while_go (fun σ H' => H = H' ∧ ∃ (f r p : Nat) (b : Int), σ = [some (.int z), some (.int (r : Nat)), some (.int b), some (.int (p : Nat)), none] ∧ 0 < r ∧ r ≤ 160000 ∧ 2 ≤ p ∧ p ≤ 160001 ∧ r < f + p ∧ wsq f r b p = R) (fun σ _ => m0 1 σ + 160002 - m0 3 σ)
      ⟨rfl, z.natAbs, z.natAbs, 2, _, st5 ea rfl rfl, by omega, by omega, by decide, by decide, by omega, hR⟩ ?_
    rintro σ _ ⟨rfl, f, r, p, b, rfl, r0, r1, p2, p3, hf, hw⟩
    have hpp := sq_small p3
    have hpl : p < 2 ^ 64 := by omega
    refine ⟨_, rfl, _, rfl, _, _, rfl, rfl, cmulL hpl, _, rfl, _, _, rfl, rfl, cmulR hpl, _, rfl, _, _, rfl, rfl, _, rfl, ifD (fun e => ?_) fun e => ?_⟩
    · have e' : p * p * p ≤ r := Int.ofNat_le.mp e
      have pr := cube_le e' p2
      have pp0 : 0 < p * p := Nat.mul_pos (by omega) (by omega)
      have pp2 : 2 ≤ p * p := Nat.le_trans p2 (Nat.le_mul_of_pos_left _ (by omega))
      obtain ⟨f', rfl⟩ : ∃ n, f = n + 1 := ⟨f - 1, by omega⟩
      refine ⟨fun σ' H' => H = H' ∧ ∃ (f r' p' : Nat) (b : Int), σ' = [some (.int z), some (.int (r' : Nat)), some (.int b), some (.int (p' : Nat)), none] ∧ 0 < r' ∧ r' ≤ 160000 ∧ 2 ≤ p' ∧ p' ≤ 160001 ∧ r' < f + p' ∧ wsq f r' b p' = R ∧ r' ≤ r ∧ p' = p + 1, ?_, ?_⟩
      · rintro σ' _ ⟨rfl, f2, r', p', b', rfl, k1, k2, k3, k4, k5, k6, k7, k8⟩
        exact ⟨_, (by show ((r' : Int)).toNat + 160002 - ((p' : Int)).toNat < ((r : Int)).toNat + 160002 - ((p : Int)).toNat; omega), rfl, rfl, f2, r', p', b', rfl, k1, k2, k3, k4, k5, k6⟩
      refine while_go (fun σ H' => H = H' ∧ ∃ (g t : Nat), σ = [some (.int z), some (.int (t : Nat)), some (.int b), some (.int (p : Nat)), none] ∧ 0 < t ∧ t ≤ g ∧ t ≤ r ∧ sqs p g t = sqs p r r) (fun σ _ => m0 1 σ)
        ⟨rfl, r, r, rfl, r0, Nat.le_refl _, Nat.le_refl _, rfl⟩ ?_
      rintro σ _ ⟨rfl, g, t, rfl, h1, h2, h3, h4⟩
      refine ⟨_, rfl, _, rfl, _, rfl, _, _, rfl, rfl, cmulL hpl, _, _, rfl, rfl, (by show (0 : Int) < ((p * p : Nat) : Int); omega), rfl, _, rfl, ifI (fun em => ?_) fun em => ?_⟩
      · have em' : t % (p * p) = 0 := Int.ofNat.inj em
        obtain ⟨g', rfl⟩ : ∃ n, g = n + 1 := ⟨g - 1, by omega⟩
        rw [sqs_go em'] at h4
        have ds := div_small em' h1 pp2
        refine ⟨fun σ' H' => H = H' ∧ ∃ (g t' : Nat), σ' = [some (.int z), some (.int (t' : Nat)), some (.int b), some (.int (p : Nat)), none] ∧ 0 < t' ∧ t' ≤ g ∧ t' ≤ r ∧ sqs p g t' = sqs p r r ∧ t' < t, ?_, ?_⟩
        · rintro σ' _ ⟨rfl, g2, t', rfl, k1, k2, k3, k4, k5⟩
          exact ⟨_, (by show ((t' : Int)).toNat < ((t : Int)).toNat; omega), rfl, rfl, g2, t', rfl, k1, k2, k3, k4⟩
        refine ⟨_, rfl, _, rfl, _, rfl, _, _, rfl, rfl, cmulL hpl, _, _, rfl, rfl, cdivN pp0 hpp, ?_⟩
        exact ⟨rfl, g', t / (p * p), rfl, ds.1, by omega, by omega, h4, ds.2⟩
      · have em' : ¬ t % (p * p) = 0 := fun z => em (congrArg Int.ofNat z)
        rw [sqs_stop em'] at h4
        refine ⟨_, rfl, _, rfl, _, _, rfl, rfl, (by show (0 : Int) < (p : Int); omega), rfl, _, rfl, ifI (fun ep => ?_) fun ep => ?_⟩
        · have ep' : t % p = 0 := Int.ofNat.inj ep
          have hg := wsq_go1 (f := f') (b := b) e' h4.symm ep'
          rw [hw] at hg
          have ds := div_small ep' h1 p2
          refine ⟨_, rfl, _, rfl, _, _, rfl, rfl, cdivN (by omega) hpl, ?_⟩
          refine ⟨_, rfl, _, rfl, _, _, rfl, rfl, cmulR hpl, ?_⟩
          refine ⟨_, rfl, _, _, rfl, rfl, ?_⟩
          exact ⟨rfl, f', t / p, p + 1, b * p, rfl, ds.1, by omega, by omega, by omega, by omega, hg.symm, by omega, rfl⟩
        · have ep' : ¬ t % p = 0 := fun z => ep (congrArg Int.ofNat z)
          have hg := wsq_go2 (f := f') (b := b) e' h4.symm ep'
          rw [hw] at hg
          refine ⟨_, rfl, _, _, rfl, rfl, ?_⟩
          exact ⟨rfl, f', t, p + 1, b, rfl, h1, by omega, by omega, by omega, by omega, hg.symm, by omega, rfl⟩
    · have e' : ¬ p * p * p ≤ r := fun z => e (Int.ofNat_le.mpr z)
      rw [wsq_stop e'] at hw
      subst hw
      dsimp only at q
      have hi := isqrt_le r
      refine ⟨_, rfl, _, rfl, by omega, by omega, ?_⟩
      refine ⟨_, rfl, _, rfl, _, _, rfl, rfl, cmulL (n := Float64.isqrt r) (by omega), _, rfl, rfl, _, rfl, ifI (fun er => ?_) fun er => ?_⟩
      · rw [if_pos (show Float64.isqrt r * Float64.isqrt r = r from Int.ofNat.inj er)] at q
        exact ⟨_, rfl, q⟩
      · rw [if_neg (show ¬ Float64.isqrt r * Float64.isqrt r = r from fun z => er (congrArg Int.ofNat z))] at q
        exact ⟨_, rfl, _, rfl, _, _, rfl, rfl, cmulR (by omega), q⟩
theorem ok_any_sign_of (D : Df K mg "any_sign_of" s_any_sign_of ["m"]) (c_without_squares : Cal P w K mg base 1 "without_squares" sp_without_squares) : Cal P w K mg base 2 "any_sign_of" sp_any_sign_of := by
  obtain ⟨f, fd, F, m, b⟩ := D.ex
  have sc := sc_any_sign_of
  refine ⟨f, fd, _, F.ok sc sp1_len (fun cdv A outer s H vs Q E hr h => ?_), m, F.kp, b⟩
  obtain ⟨z, rfl, hz, q⟩ := h
  replace q : Q (.int (anySign z)) H := q
  refine ⟨_, (pss_cons (ps_set (i := 1) sc.nd rfl (Or.inl rfl) (pe_c c_without_squares hr (by decide) (by rfl) (pa_cons (pv 0) pa_nil)))
      (pss_one (ps_ret (pe_ifExp (pt_cmpR op_eq (pe_op op_mod (pv 1) pe_int) pe_int (nomark _)) (pv 1) (pe_op op_mul pe_int (pv 1)))))), ?_⟩
  unfold anySign at q
  refine ⟨_, rfl, z, rfl, hz, ?_⟩
  refine ⟨_, rfl, _, _, rfl, rfl, (by show (0 : Int) < 4; decide), rfl, _, rfl, ifI (fun e => ?_) fun e => ?_⟩
  · rw [if_pos e] at q; exact ⟨_, rfl, q⟩
  · rw [if_neg e] at q; exact ⟨_, rfl, _, _, rfl, rfl, .inl ⟨by decide, by decide⟩, q⟩
theorem ok_is_sign (D : Df K mg "is_sign" s_is_sign ["thing"]) (c_any_sign_of : Cal P w K mg base 2 "any_sign_of" sp_any_sign_of) (c_is_between : Cal P w K mg base 2 "is_between" sp_is_between) : Cal P w K mg base 3 "is_sign" sp_is_sign := by
  obtain ⟨f, fd, F, m, b⟩ := D.ex
  have sc := sc_is_sign
  refine ⟨f, fd, _, F.ok sc sp1_len (fun cdv A outer s H vs Q E hr h => ?_), m, F.kp, b⟩
  obtain ⟨z, rfl, _, q⟩ := h
  replace q : Q (.bl (isSign z)) H := q
  refine ⟨_, (pss_one (ps_ret (pe_and (pe_c c_is_between hr (by decide) (by rfl) (pa_cons (pv 0) (pa_cons (pe_un un_neg pe_int) (pa_cons pe_int pa_nil)))) (pe_and (pe_cmpR op_ne (pv 0) pe_int (nomark _)) (pe_one (pe_cmpR op_eq (pe_c c_any_sign_of hr (by decide) (by rfl) (pa_cons (pv 0) pa_nil)) (pv 0) (nomark _))))))), ?_⟩
  unfold isSign at q
  refine ⟨_, rfl, _, rfl, z, -400, 400, rfl, trivial, _, rfl, ?_⟩
  cases e1 : decide (-400 ≤ z)
  · rw [e1] at q; exact iteF q
  · cases e2 : decide (z ≤ 400)
    · rw [e1, e2] at q; exact iteF q
    · rw [e1, e2] at q
      refine iteT ?_
      refine ⟨_, rfl, rfl, _, rfl, ifNI (fun e => ?_) fun e => ?_⟩
      · rw [decide_eq_true e] at q
        have k1 := of_decide_eq_true e1
        have k2 := of_decide_eq_true e2
        refine ⟨_, rfl, z, rfl, ⟨e, by omega⟩, _, rfl, rfl, ?_⟩
        have ee : decide (V.int (anySign z) = V.int z) = decide (anySign z = z) := by
          by_cases h : anySign z = z
          · rw [decide_eq_true h, h]; exact decide_eq_true rfl
          · rw [decide_eq_false h]; exact decide_eq_false fun k => h (V.int.inj k)
        show Q (.bl (decide (V.int (anySign z) = V.int z))) H
        rw [ee]
        exact q
      · rw [show decide (z ≠ 0) = false from decide_eq_false fun k => k e] at q
        exact q
theorem ok_check_sign (D : Df K mg "check_sign" s_check_sign ["sign"]) (c_is_sign : Cal P w K mg base 3 "is_sign" sp_is_sign) : Cal P w K mg base 4 "check_sign" sp_check_sign := by
  obtain ⟨f, fd, F, m, b⟩ := D.ex
  have sc := sc_check_sign
  refine ⟨f, fd, _, F.ok sc sp1_len (fun cdv A outer s H vs Q E hr h => ?_), m, F.kp, b⟩
  obtain ⟨z, rfl, hs, q⟩ := h
  refine ⟨_, (pss_one (ps_if (pt_not (pt_val (pe_c c_is_sign hr (by decide) (by rfl) (pa_cons (pv 0) pa_nil))))
      (pss_one ps_never)
      pss_nil)), ?_⟩
  refine ⟨_, rfl, z, rfl, trivial, _, rfl, ?_⟩
  rw [show isSign z = true from hs]
  exact iteF q
theorem isSign_le {z : Int} (h : isSign z = true) : z.natAbs ≤ 400 ∧ z ≠ 0 ∧ anySign z = z := by
  unfold isSign at h
  simp only [Bool.and_eq_true, decide_eq_true_eq] at h
  omega
theorem mul_le_160000 {a b : Int} (ha : a.natAbs ≤ 400) (hb : b.natAbs ≤ 400) : (a * b).natAbs ≤ 160000 := by
  rw [Int.natAbs_mul]
  exact Nat.mul_le_mul ha hb
theorem fn_joined_sign {f : Addr} {fd : FuncData} (F : Fun K "joined_sign" "joined_sign" s_joined_sign f fd) (c_check_sign : Cal P w K mg base 4 "check_sign" sp_check_sign) (c_any_sign_of : Cal P w K mg base 2 "any_sign_of" sp_any_sign_of) : FnOk P w K mg base CX0 5 f fd ["one", "other"] sp_joined_sign := by
  have sc := sc_joined_sign
  refine F.ok sc sp2_len (fun cdv A outer s H vs Q E hr h => ?_)
  obtain ⟨x, y, rfl, ⟨hx, hy⟩, q⟩ := h
  have lx := isSign_le hx
  have ly := isSign_le hy
  refine ⟨_, (pss_cons (ps_expr (pe_c c_check_sign hr (by decide) (by rfl) (pa_cons (pv 0) pa_nil)))
      (pss_cons (ps_expr (pe_c c_check_sign hr (by decide) (by rfl) (pa_cons (pv 1) pa_nil)))
      (pss_one (ps_ret (pe_c c_any_sign_of hr (by decide) (by rfl) (pa_cons (pe_op op_mul (pv 0) (pv 1)) pa_nil)))))), ?_⟩
  refine ⟨_, rfl, x, rfl, hx, ?_⟩
  refine ⟨_, rfl, y, rfl, hy, ?_⟩
  exact ⟨_, rfl, _, rfl, _, _, rfl, rfl, .inl ⟨by omega, by omega⟩, _, rfl, ⟨Int.mul_ne_zero lx.2.1 ly.2.1, mul_le_160000 lx.1 ly.1⟩, q⟩
end
end Ft

/-! Defs that are called where no repr is under way (A.guards = some []): their texts may say repr of a list or a tuple. -/
namespace Ft
open PySem L2 PySem.Spec PyProof.Rows

structure FnG (P : Program) (w : World) (K : PySem.W.Frag) (mg : Str → Option Value) (base : Heap) (k : Nat) (f : Addr) (fd : FuncData) (ps : List Str) (sp : Sp) : Prop where
  len : ∀ vs H Q E, sp vs H Q E → vs.length = ps.length
  go : ∀ (A : Around) (outer : List Env) (s : Shared) (H : Hp) (args : Args) (us : List Value) (vs : List V) (Q : VK) (E : XK), A.guards = some [] → Room k A →
    Env0 P w K mg base A outer s H → BindsTo s fd args (ps.zip us) → Vals vs us → sp vs H Q E → codeAny (model P w) A (.call (.ref f) args) (CR CX0 outer P w H s Q E) s
theorem FnG.of {P : Program} {w : World} {K : PySem.W.Frag} {mg : Str → Option Value} {base : Heap} {k : Nat} {f : Addr} {fd : FuncData} {ps : List Str} {sp : Sp} (F : FnOk P w K mg base CX0 k f fd ps sp) : FnG P w K mg base k f fd ps sp :=
  ⟨F.len, fun A outer s H args us vs Q E _ => F.run A outer s H args us vs Q E⟩
/-- what may be called for, where no repr is under way -/
structure CalG (P : Program) (w : World) (K : PySem.W.Frag) (mg : Str → Option Value) (base : Heap) (k : Nat) (x : Str) (sp : Sp) : Prop where
  ex : ∃ (f : Addr) (fd : FuncData) (ps : List Str), FnG P w K mg base k f fd ps sp ∧ mg x = some (.ref f) ∧ PySem.W.keepIn K (.ref f) = true ∧ Binds K fd ps []
section
variable {X : Cx} {k j : Nat} {x : Str} {sp : Sp} {p pos : Pos} {e : Expr} {es : List Expr} {t : TA}
theorem pe_g (c : CalG X.prog X.w X.K X.mg X.base k x sp) (hgd : X.A.guards = some []) (hr : Room j X.A) (hk : k ≤ j) (hg : Gl X x) (ha : PA X (e :: es) t)
    (hdb : (x == ("__debug__" : Str)) = false := by decide) (he : starEach (e :: es) X.env = (false, eval e X.env) :: starEach es X.env := by rfl) (hpl : (backTo pos (starEach es X.env)).any (·.1) = false := by rfl) :
    PE X (.Call (.Name x p) (e :: es) [] pos) (tCall sp [] E0 t) := by
  obtain ⟨f, fd, ps, F, hm, kp, b⟩ := c.ex
  refine ⟨fun pins s σ H Q I h => wpAny_Call_Name_kw (ld_glob I hg hm ?_ hdb)⟩
  refine PySem.W.callWith_K (h₀ := X.base) I.ok.mod.kin kp (thn (ha.run pos pins s σ H _ I h) fun us s1 ⟨vs, H1, I1, rv, q1⟩ => ⟨I1.kIn, ?_⟩) he hpl
  have rv' : Vals (vs ++ []) us := by rw [List.append_nil]; exact rv
  have hl : us.length = ps.length := by
    have z := F.len _ _ _ _ q1
    rw [rv'.length] at z
    exact z
  have bd := b s1 us I1.kIn (by rw [List.append_nil]; exact hl)
  rw [List.append_nil] at bd
  refine wpAny_call (codeAny_mono (F.go X.A X.stack s1 H1 ⟨us, []⟩ us (vs ++ []) Q E0 hgd (hr.mono hk) I1.env0 bd rv' q1) fun r s2 hq => ?_)
  match r, hq with
  | .error _, hq => exact (hq : False).elim
  | .ok (.ret _), hq => exact I1.after hq
  | .ok .next, hq => exact (hq : False).elim
  | .ok .brk, hq => exact (hq : False).elim
  | .ok .cont, hq => exact (hq : False).elim
end
/-- a def by its body, where no repr is under way -/
theorem fun_g {P : Program} {w : World} {K : PySem.W.Frag} {mg : Str → Option Value} {base : Heap} {x qual : Str} {st : Stmt} {f : Addr} {fd : FuncData} {N ps : List Str} {k : Nat} {sp : Sp} (F : Fun K x qual st f fd) (S : FnScope N ps (defScope st))
    (len : ∀ vs H Q E, sp vs H Q E → vs.length = ps.length)
    (body : ∀ (cdv : Value) (A : Around) (outer : List Env) (s : Shared) (H : Hp) (vs : List V) (Q : VK) (E : XK), (A.deeper (envOfC qual (defScope st) s.heap.objs.size f cdv)).guards = some [] →
      Room k (A.deeper (envOfC qual (defScope st) s.heap.objs.size f cdv)) → sp vs H Q E →
      ∃ t, PSs (cxOf CX0 P w K mg base N qual (defScope st) f cdv A outer s H E).nox (defBody st) t ∧ t { nx := fun _ H' => Q .non H', rt := Q } (start N vs) H) : FnG P w K mg base (k + 1) f fd ps sp := by
  obtain ⟨oc, od, kV, doc, pm, an, cdv, ct, osl, rfl, lk, hcd⟩ := F.ex
  refine ⟨len, fun A outer s H args us vs Q E hgd hr e0 hb rv hsp => ?_⟩
  have inK : K.In s.heap := e0.mod.kin.keeps fun b o e => (e0.bs b o e).1
  have noL : s.heap.NoLimit := e0.mod.nolimit.keeps fun b o e => (e0.bs b o e).1
  have kinds : ∀ y ∈ ps.zip us, (defScope st).names.lookup y.1 = some .local ∨ ((defScope st).names.lookup y.1 = some .cell ∧ ((cellsFrom (s.heap.objs.size + 1) (defScope st).names []).lookup y.1).isSome = true) := by
    intro y hy
    rcases S.par y.1 (List.of_mem_zip hy).1 with q | q
    · exact .inl q
    · exact .inr ⟨q, PySem.W.cellsFrom_some _ _ _ (.inl q)⟩
  refine codeAny_call_function hr.depth (inK _ _ lk) rfl S.co S.gen rfl (PySem.W.codeRec_of inK hcd) (hb _ _ _ _ ?_)
  refine wpAny_newFunctionEnv_cells S.kind kinds fun env he s1 made => ?_
  subst he
  refine ⟨noL.keeps made.toInCall.keep, codeAny_func ?_⟩
  obtain ⟨t, ht, hq⟩ := body cdv A outer s H vs Q E hgd (hr.deeper _) hsp
  have J0 : Inv (cxOf CX0 P w K mg base N qual (defScope st) f cdv A outer s H E) [] (start N vs) H s1 := inv_start S hr.hd e0 (len _ _ _ _ hsp) rv made
  refine wpAny_mono (ht.nox.run [] s1 (start N vs) H _ J0 hq) (fun fl s' hs => ?_) fun _ _ hs => hs
  match fl, hs with
  | .ret u, hs =>
    obtain ⟨v, σ', H', J, rv', q⟩ := hs
    exact ⟨v, H', J.os, J.bare, J.base, J.hok, rv', q⟩
  | .next, hs =>
    obtain ⟨σ', H', J, q⟩ := hs
    exact ⟨V.non, H', J.os, J.bare, J.base, J.hok, rfl, q⟩
  | .brk, hs => exact (hs.choose_spec.choose_spec.2 : False).elim
  | .cont, hs => exact (hs.choose_spec.choose_spec.2 : False).elim
end Ft

/-! The law's call, from a promise that holds where no repr is under way. -/
namespace Ft
open PySem L2 PySem.Spec PyProof.Rows

/-- the heap behind the top, seen with the script tracked (or nothing) -/
theorem call_of {P : Program} {w : World} {K : PySem.W.Frag} {mg mb : Str → Option Value} {k : Nat} {fa a : Addr} {fd : FuncData} {x : Str} {sp : Sp} {s1 : Shared} {vs : List Value} {H : Hp}
    (inK : K.In s1.heap) (hns : s1.heap.Ns mainGlobals mg) (hb : s1.heap.Ns builtinsNs mb) (hbb : ∀ x : Str, x ≠ "__name__" → mb x = bootBuiltins x) (hlim : s1.heap.NoLimit) (hg : s1.gens = #[])
    (ha : s1.heap.get? a = some { cls := .type "list", data := .seq vs.toArray }) (hr : Room k callerA)
    (F : ∀ base : Heap, K.In base → base.Ns mainGlobals mg → FnG P w K mg base k fa fd [x] sp) (hbind : ∀ (s : Shared) (u : Value), BindsTo s fd ⟨[u], []⟩ [(x, u)])
    (hO : Only H) (hp : sp [.ref a] H (fun v _ => v = .bl true) fun _ _ _ => False) (hok : HOk P w H s1.heap) (only : ∀ b, H b ≠ none → b = a) (notK : H a ≠ none → K.lookup a = none) :
    codeAny (model P w) callerA (.call (.ref fa) ⟨[.ref a], []⟩) (fun r s2 => r = .ok (.ret (.bool true)) ∧ OldK s1.heap s2.heap ∧ s2.os = s1.os ∧ AllBare s2.gens) s1 := by
  have below : ∀ {b : Addr} {o : Obj}, s1.heap.get? b = some o → H b = none → (hidT s1.heap H).get? b = some o := fun e n => hidT_get e n
  have dictFree : ∀ {b : Addr} {o : Obj} {es : Array DictEntry} {ep : Nat}, s1.heap.get? b = some o → o.data = .dict es ep → H b = none := by
    intro b o es ep e d
    cases q : H b with
    | none => rfl
    | some z =>
      obtain rfl : b = a := only b (fun n => by rw [n] at q; cases q)
      rw [ha] at e
      cases e
      exact absurd (show Data.seq vs.toArray _ = Data.dict es ep from d) (fun z => by cases z)
  have spaces : ∀ {b : Addr} {m : Str → Option Value}, s1.heap.Ns b m → (hidT s1.heap H).Ns b m := fun {b m} ⟨o, es, ep, e, d, r⟩ => ⟨o, es, ep, below e (dictFree e d), d, r⟩
  have inB : K.In (hidT s1.heap H) := by
    intro b o e
    refine below (inK b o e) ?_
    cases q : H b with
    | none => rfl
    | some z =>
      have nz : H b ≠ none := fun n => by rw [n] at q; cases q
      obtain rfl : b = a := only b nz
      rw [notK nz] at e
      cases e
  have hM : Mod K mg (hidT s1.heap H) := ⟨inB, spaces hns, ⟨mb, spaces hb, hbb⟩, hlim.elim fun mc z => ⟨mc, spaces z.1, z.2⟩⟩
  have noFr : ∀ b ∈ frs ([] : List Env), H b = none := fun b z => absurd (show b ∈ ([] : List Addr) from z) List.not_mem_nil
  have e0 : Env0 P w K mg (hidT s1.heap H) callerA [] s1 H := ⟨rfl, hM, fun b o e => of_hidT e, Nat.le_of_eq (hidT_size _ _), trivial, noFr, hok, .of_eq hg⟩
  refine codeAny_mono ((F _ inB (spaces hns)).go callerA [] s1 H ⟨[.ref a], []⟩ [.ref a] [.ref a] _ _ rfl hr e0 (hbind s1 (.ref a)) (.cons rfl .nil) hp) fun r s2 h => ?_
  match r, h with
  | .error _, h => exact (h : False).elim
  | .ok .next, h => exact (h : False).elim
  | .ok .brk, h => exact (h : False).elim
  | .ok .cont, h => exact (h : False).elim
  | .ok (.ret u), h =>
    obtain ⟨v, H2, os, bare, un, hok2, rv, q⟩ := h
    obtain rfl : v = .bl true := q
    obtain rfl : u = Value.bool true := rv
    refine ⟨rfl, OldK.of_keep fun b o e => ?_, os, bare⟩
    cases q : H b with
    | none => exact un.keep b o e q (fun z => absurd (show b ∈ ([] : List Addr) from z) List.not_mem_nil) List.not_mem_nil
    | some z =>
      rcases hO b with n | ⟨ob, xs, y⟩
      · rw [q] at n; cases n
      · have k1 := (hok b _ y).1
        have k2 := (hok2 b _ (un.frzs b ob _ y)).1
        rw [e] at k1
        cases k1
        exact k2
/-- what k_head leaves, from the law's promise -/
theorem walk_g {l : PySem.W.OpenLaw} {n k : Nat} {q : Program} {loose : List Str} {XP : (Str → Option Value) → Heap → Prop} {YP : World → Heap → Prop} {d : DefRec} {K : Params → PySem.W.Frag} {sp : PySem.W.Frag → Sp} {x : Str}
    (hn : l.most = some n) (hn2 : n ≤ sizeLine) (hdf : d.params.defaults = []) (hr : Room k callerA)
    (hY : ∀ (w : World) (h : Heap), YP w h → (K w.params).In h)
    (F : ∀ (w : World) (mg : Str → Option Value) (fa : Addr) (h : Heap), (K w.params).In h → h.Ns mainGlobals mg → mg d.name = some (.ref fa) →
      ∃ fd : FuncData, (∀ (s : Shared) (u : Value), BindsTo s fd ⟨[u], []⟩ [(x, u)]) ∧
        ∀ base : Heap, (K w.params).In base → base.Ns mainGlobals mg → FnG l.prog w (K w.params) mg base k fa fd [x] (sp (K w.params)))
    (hsp : ∀ (K : PySem.W.Frag) (H : Hp) (a : Addr) (ns : List Int), ns.length ≤ n → SqL K H a (ns.map V.int) → sp K [.ref a] H (fun v _ => v = .bl true) fun _ _ _ => False) :
    PySem.W.WalkO q loose XP YP l.row.toRowW d [] (fun f vs => PySem.call f vs) := by
  refine Att.attach_call hn hdf fun w s0 s1 mg mb fa o pm cd doc a vs ns G Y ho hd hcd hmg hobj hints hlen hg => ?_
  have inK := hY w _ Y
  obtain ⟨fd, hb, hF⟩ := F w mg fa _ inK G.T.g hmg
  have rv := vals_ints hints
  have lv := hints.length
  have main := fun (H : Hp) (hO : Only H) (hS : SqL (K w.params) H a (ns.map V.int)) => call_of (H := H) inK G.T.g G.T.b G.T.builtins G.T.nolimit hg hobj hr hF hb hO (hsp (K w.params) H a ns hlen hS)
  cases hk : (K w.params).lookup a with
  | some ob =>
    have e := inK a ob hk
    rw [hobj] at e
    cases e
    have none_ : ∀ {b : Addr} {z : HO}, (fun _ => none : Hp) b = some z → False := fun z => by cases z
    exact main (fun _ => none) (fun _ => .inl rfl) (.inr ⟨_, vs.toArray, _, hk, rfl, rfl, rfl, by rw [List.size_toArray, lv]; exact Nat.le_trans hlen hn2, by simpa using rv⟩) (fun b z y => (none_ (b := b) y).elim) (fun b z => absurd rfl z) fun z => absurd rfl z
  | none =>
    let ob : Obj := { cls := .type "list", data := .seq vs.toArray }
    have at_a : ∀ {b : Addr}, b = a → (fun b => if b = a then some (HO.frz ob (.lst (ns.map V.int))) else none : Hp) b = some (.frz ob (.lst (ns.map V.int))) := fun h => if_pos h
    have off_a : ∀ {b : Addr}, ¬ b = a → (fun b => if b = a then some (HO.frz ob (.lst (ns.map V.int))) else none : Hp) b = none := fun h => if_neg h
    refine main (fun b => if b = a then some (.frz ob (.lst (ns.map V.int))) else none) (fun b => ?_) (.inl (.inr ⟨ob, at_a rfl⟩)) (fun b u z => ?_) (fun b z => ?_) fun _ => hk
    · exact (Decidable.em (b = a)).elim (fun h => .inr ⟨_, _, at_a h⟩) fun h => .inl (off_a h)
    · by_cases h : b = a
      · have y := (at_a h).symm.trans z
        cases y
        subst h
        exact ⟨hobj, by rw [List.length_map]; exact Nat.le_trans hlen hn2, vs, _, rv, hobj⟩
      · exact absurd ((off_a h).symm.trans z) (fun y => by cases y)
    · exact (Decidable.em (b = a)).elim id fun h => absurd (off_a h) z
end Ft

/-! repr of data; the deck of draws -/
namespace Ft
open PySem L2 PySem.Spec PyProof.Rows

def rRepr (K : PySem.W.Frag) : List V → Hp → VK → Prop := fun xs H Q => ∃ a d, xs = [.ref a] ∧ Dp K H (.ref a) d ∧ d.showable = true ∧ d.hasDict = false ∧ d.depth ≤ 64 ∧ d.shown.length ≤ sizeLine ∧ Q (.str d.shown) H
theorem call_repr {X : Cx} {k : Nat} (hgd : X.A.guards = some []) (hr : Room k X.A) : CallR X (.builtin "repr") (rRepr X.K) := by
  intro pins s σ H xs us Q I r h
  obtain ⟨a, d, rfl, hd, h1, h2, h3, h4, q⟩ := h
  obtain ⟨u, rfl, rx⟩ := vals1 r
  obtain ⟨as, rd⟩ := Dp.reads I d (.ref a) u hd rx
  obtain rfl : u = Value.ref a := rx
  exact repr_of_reads' rd h1 (fun z => by rw [h2] at z; cases z) hgd (by have := hr.un; omega) (fun _ _ e => e) (fun h' u tk kept => ⟨.str d.shown, H, I.kept kept, ⟨_, rfl⟩, q⟩) h4

/-! ### the deck -/
def kCells : Key := .inr "cells"
def kMixed : Key := .inr "mixed"
def kDraws : Key := .inr "turn"
theorem ncm : ¬ kCells = kMixed := by decide +kernel
theorem ncd : ¬ kCells = kDraws := by decide +kernel
theorem nmd : ¬ kMixed = kDraws := by decide +kernel
theorem nmc : ¬ kMixed = kCells := by decide +kernel
theorem ndc : ¬ kDraws = kCells := by decide +kernel
def deckL (l : Addr) (mx dr : Int) : List (Key × V) := [(kCells, .ref l), (kMixed, .int mx), (kDraws, .int dr)]
theorem deck_cells {l : Addr} {mx dr : Int} : valV (deckL l mx dr) kCells = some (.ref l) := valV_pos rfl
theorem deck_mixed {l : Addr} {mx dr : Int} : valV (deckL l mx dr) kMixed = some (.int mx) := by
  unfold deckL
  rw [valV_neg ncm]
  exact valV_pos rfl
theorem deck_draws {l : Addr} {mx dr : Int} : valV (deckL l mx dr) kDraws = some (.int dr) := by
  unfold deckL
  rw [valV_neg ncd, valV_neg nmd]
  exact valV_pos rfl
theorem deck_put {l : Addr} {mx dr z : Int} : putK (deckL l mx dr) kDraws (.int z) = deckL l mx z := by
  unfold putK deckL
  rw [if_pos (by simp)]
  simp only [List.map_cons, List.map_nil, if_neg ncd, if_neg nmd, if_true]
/-- a deck at d, its list at l -/
def DeckAt (H : Hp) (d l : Addr) : Prop := ∃ (mx dr : Int) (cs : List Int), H d = some (.dK (deckL l mx dr)) ∧ H l = some (.lst (cs.map V.int)) ∧ cs.length ≤ 63
/-- all that was tracked is as it was, but at d and l -/
def But (d l : Addr) (H H' : Hp) : Prop := ∀ b o, H b = some o → b ≠ d → b ≠ l → H' b = some o
theorem But.refl {d l : Addr} {H : Hp} : But d l H H := fun _ _ h _ _ => h
theorem But.trans {d l : Addr} {H H1 H2 : Hp} (a : But d l H H1) (b : But d l H1 H2) : But d l H H2 := fun c o h h1 h2 => b c o (a c o h h1 h2) h1 h2
theorem But.of {d l : Addr} {H H' : Hp} (s : Same H H') : But d l H H' := fun b o h _ _ => s b o h
theorem Same.upd_new {H : Hp} {p : Addr} {o : HO} (h : H p = none) : Same H (upd H p o) := fun b u e => by rw [upd_ne (ne_of_none e h)]; exact e
theorem DeckAt.same {H H' : Hp} {d l : Addr} (D : DeckAt H d l) (s : Same H H') : DeckAt H' d l := by
  obtain ⟨mx, dr, cs, h1, h2, h3⟩ := D
  exact ⟨mx, dr, cs, s _ _ h1, s _ _ h2, h3⟩
theorem DeckAt.ne {H : Hp} {d l : Addr} (D : DeckAt H d l) : d ≠ l := by
  obtain ⟨mx, dr, cs, h1, h2, h3⟩ := D
  exact ne_of h1 h2 (by intro z; cases z)
/-- a new address is neither -/
theorem DeckAt.new {H : Hp} {d l p : Addr} (D : DeckAt H d l) (h : H p = none) : p ≠ d ∧ p ≠ l := by
  obtain ⟨mx, dr, cs, h1, h2, h3⟩ := D
  exact ⟨fun e => (by rw [e, h1] at h; cases h), fun e => (by rw [e, h2] at h; cases h)⟩
/-- draws: from 0 to below many; the deck stays a deck, all else stays -/
def sp_draw : Sp := fun vs H Q _ => ∃ (d l : Addr) (n : Int), vs = [.ref d, .int n] ∧ DeckAt H d l ∧ 0 < n ∧ n < 2 ^ 64 ∧ ∀ (H' : Hp) (r : Int), DeckAt H' d l → But d l H H' → 0 ≤ r → r < n → Q (.int r) H'
theorem sp_draw_len : ∀ vs H Q E, sp_draw vs H Q E → vs.length = 2 := fun _ _ _ _ ⟨_, _, _, e, _⟩ => by rw [e]; rfl
theorem dp_ints {K : PySem.W.Frag} {H : Hp} : ∀ ns : List Int, DpAll K H (ns.map V.int) (ns.map PyData.int)
  | [] => .nil
  | n :: ns => .cons (.int n) (dp_ints ns)
theorem eqv_nil : ∀ ds : List PyData, PyData.eqv (.list ds) (.list []) = ds.isEmpty
  | [] => rfl
  | _ :: _ => rfl
theorem deck_merge {l : Addr} {mx dr : Int} : mergeK [] (deckL l mx dr) = deckL l mx dr := by
  unfold mergeK deckL
  simp only [List.foldl_cons, List.foldl_nil]
  have h1 : putK ([] : List (Key × V)) kCells (.ref l) = [(kCells, V.ref l)] := rfl
  rw [h1]
  have h2 : putK [(kCells, V.ref l)] kMixed (.int mx) = [(kCells, V.ref l), (kMixed, V.int mx)] := putK_new _ (by rw [valV_neg ncm]; rfl)
  rw [h2]
  exact putK_new _ (by rw [valV_neg ncd, valV_neg nmd]; rfl)
/-- a slice of ints is one -/
theorem cut_ints (ns : List Int) (lo hi : Option Int) : ∃ ms : List Int, cutV (ns.map V.int) lo hi = ms.map V.int ∧ ms.length ≤ ns.length := by
  have hl := cutV_length (ns.map V.int) lo hi
  rw [List.length_map] at hl
  have h : cutV (ns.map V.int) lo hi = ((ns.drop (HT.sIx (ns.map V.int).length 0 lo)).take (HT.sIx (ns.map V.int).length (ns.map V.int).length hi - HT.sIx (ns.map V.int).length 0 lo)).map V.int := by
    unfold cutV
    rw [List.map_take, List.map_drop]
  refine ⟨_, h, ?_⟩
  rw [h, List.length_map] at hl
  exact hl
theorem int_at {ns : List Int} {i : Nat} {v : V} (h : (ns.map V.int)[i]? = some v) : ∃ z, v = .int z ∧ ns[i]? = some z := by
  rw [List.getElem?_map] at h
  cases e : ns[i]? with
  | none => rw [e] at h; cases h
  | some z => rw [e] at h; exact ⟨z, (Option.some.inj h).symm, rfl⟩
def sp_deck (K : PySem.W.Frag) : Sp := fun vs H Q _ => ∃ (a : Addr) (ns : List Int), vs = [.ref a] ∧ SqL K H a (ns.map V.int) ∧ ns.length ≤ 63 ∧ ∀ (H' : Hp) (d l : Addr), DeckAt H' d l → Same H H' → H d = none → H l = none → Q (.ref d) H'
theorem sp_deck_len {K : PySem.W.Frag} : ∀ vs H Q E, sp_deck K vs H Q E → vs.length = 1 := fun _ _ _ _ ⟨_, _, e, _⟩ => by rw [e]; rfl
/-- an item of a list that stands -/
def sp_pick (K : PySem.W.Frag) : Sp := fun vs H Q _ => ∃ (d l p : Addr) (xs : List V), vs = [.ref d, .ref p] ∧ DeckAt H d l ∧ (H p = some (.lst xs) ∧ p ≠ l ∨ H p = some (.tup xs)) ∧ 0 < xs.length ∧ xs.length < 2 ^ 64 ∧
  ∀ (H' : Hp) (v : V), DeckAt H' d l → But d l H H' → v ∈ xs → Q v H'
theorem sp_pick_len {K : PySem.W.Frag} : ∀ vs H Q E, sp_pick K vs H Q E → vs.length = 2 := fun _ _ _ _ ⟨_, _, _, _, e, _⟩ => by rw [e]; rfl
end Ft

namespace Ft
open PySem L2
theorem canLay_ints : ∀ ns : List Int, PyData.canLayAll0 (ns.map PyData.int) = true
  | [] => rfl
  | n :: ns => by
    show (true && PyData.canLayAll0 (ns.map PyData.int)) = true
    rw [canLay_ints ns]
    rfl
theorem depth_ints : ∀ ns : List Int, PyData.depthAll (ns.map PyData.int) = 0
  | [] => rfl
  | n :: ns => by
    show max 0 (PyData.depthAll (ns.map PyData.int)) = 0
    rw [depth_ints ns]
    rfl
theorem shaped_ints (ns : List Int) : SeqAt.shaped (.list (ns.map PyData.int)) = true := by
  unfold SeqAt.shaped
  rw [show PyData.canLay0 (.list (ns.map PyData.int)) = true from canLay_ints ns, show PyData.depth (.list (ns.map PyData.int)) = 0 + 1 from by rw [← depth_ints ns]; rfl]
  rfl
section
variable {P : Program} {w : World} {K : PySem.W.Frag} {mg : Str → Option Value} {base : Heap}
theorem ok_draw (D : Df K mg "_law_draw" s__law_draw ["_law_deck_here", "_law_below"]) (B : Bi mg) : Cal P w K mg base 1 "_law_draw" sp_draw := by
  obtain ⟨f, fd, F, m, b⟩ := D.ex
  have sc := sc__law_draw
  refine ⟨f, fd, _, F.ok sc sp_draw_len (fun cdv A outer s H vs Q E hr h => ?_), m, F.kp, b⟩
  obtain ⟨d, l, n, rfl, DK, hn0, hn1, q⟩ := h
  have hu := hu_of hr
  have h64 : (A.deeper (PyProof.Rows.envOfC "_law_draw" (defScope s__law_draw) s.heap.objs.size f cdv)).units + 64 < cLine := by have := hr.un; omega
  refine ⟨_, (pss_cons (ps_dput hu (pv 0) pe_str (pe_op op_add (pe_dget hu (pv 0) pe_str (fun _ _ => rfl)) pe_int) rfl)
      (pss_cons (ps_set (i := 2) sc.nd rfl (Or.inl rfl) (pe_op op_add (pe_dget hu (pv 0) pe_str (fun _ _ => rfl)) (pe_op op_mul pe_int (pe_dget hu (pv 0) pe_str (fun _ _ => rfl)))))
      (pss_cons (ps_if (pt_cmpR (op_neD h64) (pe_dget hu (pv 0) pe_str (fun _ _ => rfl)) (pe_lst pa_nil) (nomark _))
      (pss_cons (ps_set (i := 3) sc.nd rfl (Or.inl rfl) (pe_bm0 PySem.F.plainAttrs_list PySem.F.slot_list_pop PySem.F.type_list_pop mt_pop (pe_dget hu (pv 0) pe_str (fun _ _ => rfl))))
        (pss_cons (ps_if (pt_cmpR op_ge (pv 3) (pe_op op_pow pe_int pe_int) (nomark _))
        (pss_cons (ps_expr (pe_bm PySem.F.plainAttrs_list PySem.F.slot_list_append PySem.F.type_list_append mt_append (pe_dget hu (pv 0) pe_str (fun _ _ => rfl)) (pa_cons (pe_op op_fdivW (pv 3) (pe_callB (call_max2 rfl) (by rfl) B.max_ (by decide +kernel) (pa_cons pe_int (pa_cons (pv 1) pa_nil)))) pa_nil)))
          (pss_one (ps_ret (pe_op op_mod (pe_callTy call_int1 (by rfl) B.int_ (by decide +kernel) (pa_cons (pv 3) pa_nil)) (pv 1)))))
        pss_nil)
        (pss_one (ps_set (i := 2) sc.nd rfl (Or.inl rfl) (pe_op op_add (pv 2) (pe_op op_mod (pe_callTy call_int1 (by rfl) B.int_ (by decide +kernel) (pa_cons (pv 3) pa_nil)) pe_int))))))
      pss_nil)
      (pss_cons (ps_set (i := 2) sc.nd rfl (Or.inl rfl) (pe_op op_mod (pe_callTy call_int1 (by rfl) B.int_ (by decide +kernel) (pa_cons (pe_op op_add (pe_op op_mul (pv 2) pe_int) pe_int) pa_nil)) pe_int))
      (pss_cons (ps_set (i := 2) sc.nd rfl (Or.inl rfl) (pe_op op_mod (pe_callTy call_int1 (by rfl) B.int_ (by decide +kernel) (pa_cons (pe_op op_add (pe_op op_add (pe_op op_mul (pv 2) (pv 2)) (pe_op op_mul pe_int (pe_dget hu (pv 0) pe_str (fun _ _ => rfl)))) pe_int) pa_nil)) pe_int))
      (pss_cons (ps_set (i := 2) sc.nd rfl (Or.inl rfl) (pe_op op_mod (pe_callTy call_int1 (by rfl) B.int_ (by decide +kernel) (pa_cons (pe_op op_mul (pv 2) pe_int) pa_nil)) pe_int))
      (pss_one (ps_ret (pe_op op_mod (pe_callTy call_int1 (by rfl) B.int_ (by decide +kernel) (pa_cons (pe_op op_fdivW (pv 2) pe_int) pa_nil)) (pv 1)))))))))), ?_⟩
  have dl := DK.ne
  obtain ⟨mx, dr, cs, hd, hl, hcs⟩ := DK
  -- draws + 1
  have gd := DGet.k (k := kDraws) hd
  rw [deck_draws] at gd
  have pd := DPut.k (k := kDraws) (v := .int (dr + 1)) hd (Nat.lt_of_le_of_lt (Nat.le_of_eq rfl : (deckL l mx dr).length ≤ 3) (by decide))
  rw [deck_put] at pd
  refine ⟨_, rfl, d, _, rfl, gd, _, _, rfl, rfl, _, rfl, d, _, rfl, pd, ?_⟩
  generalize hH1 : upd H d (.dK (deckL l mx (dr + 1))) = H1
  have hd1 : H1 d = some (.dK (deckL l mx (dr + 1))) := by rw [← hH1]; exact upd_same
  have hl1 : H1 l = some (.lst (cs.map V.int)) := by rw [← hH1, upd_ne dl.symm]; exact hl
  have b1 : But d l H H1 := fun b o e h1 h2 => by rw [← hH1, upd_ne h1]; exact e
  have gd1 := DGet.k (k := kDraws) hd1
  rw [deck_draws] at gd1
  have gm1 := DGet.k (k := kMixed) hd1
  rw [deck_mixed] at gm1
  have gc1 := DGet.k (k := kCells) hd1
  rw [deck_cells] at gc1
  refine ⟨_, rfl, d, _, rfl, gm1, _, rfl, d, _, rfl, gd1, _, _, rfl, rfl, .inl ⟨by decide, by decide⟩, _, _, rfl, rfl, ?_⟩
  dsimp only [gName]
  refine tSeq_join (fun σ H2 => ∃ (z : Int) (o : Option V), σ = [some (.ref d), some (.int n), some (.int z), o] ∧ DeckAt H2 d l ∧ But d l H H2) (fun N hN => ?_) ?_
  · -- if cells != []
    refine ⟨_, rfl, d, _, rfl, gc1, Nat.zero_le _, fun p hp => ?_⟩
    have s2 : Same H1 (upd H1 p (.lst [])) := Same.upd_new hp
    generalize hH2 : upd H1 p (.lst []) = H2 at s2
    have hd2 := s2 _ _ hd1
    have hl2 := s2 _ _ hl1
    have hp2 : H2 p = some (.lst []) := by rw [← hH2]; exact upd_same
    have b2 : But d l H H2 := b1.trans (But.of s2)
    have gc2 := DGet.k (k := kCells) hd2
    rw [deck_cells] at gc2
    refine ⟨_, _, .lst (SqL.of hl2) (dp_ints cs), .lst (SqL.of hp2) .nil, shaped_ints cs, by decide, _, rfl, ?_⟩
    rw [eqv_nil]
    cases hcc : cs with
    | nil =>
      refine iteF ?_
      exact hN _ _ ⟨_, none, rfl, ⟨mx, dr + 1, [], hd2, by rw [hcc] at hl2; exact hl2, by decide⟩, b2⟩
    | cons c0 cr =>
      refine iteT ?_
      -- cell = cells.pop()
      have hlast : ∃ c, (cs.map V.int)[(cs.map V.int).length - 1]? = some (V.int c) := by
        have hn : cs.length - 1 < cs.length := by rw [hcc]; exact Nat.sub_lt (Nat.succ_pos _) (by decide)
        exact ⟨cs[cs.length - 1], by rw [List.length_map, List.getElem?_map, List.getElem?_eq_getElem hn]; rfl⟩
      obtain ⟨c, hlast⟩ := hlast
      have hdrop : (cs.map V.int).dropLast = cs.dropLast.map V.int := by rw [List.map_dropLast]
      have ldrop : cs.dropLast.length ≤ 62 := by rw [List.length_dropLast]; omega
      have hne : l ≠ d := dl.symm
      refine ⟨_, rfl, d, _, rfl, gc2, .inl ⟨rfl, _, SqL.of hl2⟩, l, _, _, rfl, rfl, hl2, hlast, ?_⟩
      rw [hdrop]
      generalize hH3 : upd H2 l (.lst (cs.dropLast.map V.int)) = H3
      have hl3 : H3 l = some (.lst (cs.dropLast.map V.int)) := by rw [← hH3]; exact upd_same
      have hd3 : H3 d = some (.dK (deckL l mx (dr + 1))) := by rw [← hH3, upd_ne dl]; exact hd2
      have b3 : But d l H H3 := b2.trans fun b o e _ h2 => by rw [← hH3, upd_ne h2]; exact e
      have gc3 := DGet.k (k := kCells) hd3
      rw [deck_cells] at gc3
      refine ⟨_, rfl, _, _, rfl, rfl, ⟨by decide, by decide, by decide⟩, _, _, rfl, rfl, _, rfl, ifD (fun hbig => ?_) fun hbig => ?_⟩
      · -- cells.append(cell // max(2, many)); return int(cell) % many
        have hmx : (if n > 2 then n else 2) = max 2 n := by by_cases h : n > 2 <;> simp only [h, if_true, if_false] <;> omega
        refine ⟨_, rfl, d, _, rfl, gc3, .inl ⟨rfl, _, SqL.of hl3⟩, _, rfl, _, rfl, 2, n, rfl, _, _, rfl, rfl, ?_, ?_⟩
        · show CDivW c (if n > 2 then n else 2)
          exact wide_div (b := 64) (by split <;> omega) (by split <;> omega) (by decide) (by decide)
        refine ⟨l, _, _, rfl, rfl, hl3, Nat.lt_of_le_of_lt (by rw [List.length_map]; exact ldrop) (by decide : (62 : Nat) < sizeLine), ?_⟩
        have happ : cs.dropLast.map V.int ++ [V.int (c / (if n > 2 then n else 2))] = (cs.dropLast ++ [c / (if n > 2 then n else 2)]).map V.int := by rw [List.map_append]; rfl
        refine ⟨_, rfl, .inl ⟨c, rfl, ?_⟩⟩
        refine ⟨_, rfl, _, _, rfl, rfl, hn0, ?_⟩
        refine q _ _ ⟨mx, dr + 1, cs.dropLast ++ [c / (if n > 2 then n else 2)], by rw [upd_ne dl]; exact hd3, by rw [upd_same]; exact congrArg (fun z => some (HO.lst z)) happ, by rw [List.length_append]; exact Nat.add_le_add ldrop (Nat.le_refl 1)⟩ (b3.trans fun b o e _ h2 => by rw [upd_ne h2]; exact e) (Int.emod_nonneg _ (by omega)) (Int.emod_lt_of_pos _ hn0)
      · refine ⟨_, rfl, _, rfl, .inl ⟨c, rfl, ?_⟩⟩
        refine ⟨_, _, rfl, rfl, (by show (0 : Int) < 2147483587; decide), _, _, rfl, rfl, ?_⟩
        exact hN _ _ ⟨_, _, rfl, ⟨mx, dr + 1, cs.dropLast, hd3, hl3, Nat.le_trans ldrop (by decide)⟩, b3⟩
  · rintro _ H4 ⟨z, o, rfl, DK4, b4⟩
    obtain ⟨mx, dr, cs, hd4, hl4, hcs4⟩ := id DK4
    have gd4 := DGet.k (k := kDraws) hd4
    rw [deck_draws] at gd4
    refine ⟨_, rfl, _, _, rfl, rfl, .inr ⟨by decide, by decide⟩, _, _, rfl, rfl, .inl ⟨_, rfl, _, _, rfl, rfl, (by show (0 : Int) < 2147483543; decide), ?_⟩⟩
    have y0 := Int.emod_nonneg (z * 16807 + 59) (b := 2147483543) (by decide)
    have y1 := Int.emod_lt_of_pos (z * 16807 + 59) (b := 2147483543) (by decide)
    refine ⟨_, rfl, _, rfl, _, _, rfl, rfl, .inl ⟨by omega, by omega⟩, _, rfl, d, _, rfl, gd4, _, _, rfl, rfl, .inl ⟨by decide, by decide⟩, _, _, rfl, rfl, _, _, rfl, rfl, .inl ⟨_, rfl, _, _, rfl, rfl, (by show (0 : Int) < 2147483647; decide), ?_⟩⟩
    refine ⟨_, rfl, _, _, rfl, rfl, .inr ⟨by decide, by decide⟩, .inl ⟨_, rfl, _, _, rfl, rfl, (by show (0 : Int) < 2147483563; decide), ?_⟩⟩
    refine ⟨_, rfl, _, _, rfl, rfl, ⟨by decide, by decide⟩, .inl ⟨_, rfl, _, rfl, _, _, rfl, rfl, hn0, ?_⟩⟩
    exact q _ _ DK4 b4 (Int.emod_nonneg _ (by omega)) (Int.emod_lt_of_pos _ hn0)
end
end Ft

namespace Ft
open PySem L2
section
variable {P : Program} {w : World} {K : PySem.W.Frag} {mg : Str → Option Value} {base : Heap}
theorem ok_pick (D : Df K mg "_law_pick" s__law_pick ["_law_deck_here", "_law_some"]) (B : Bi mg) (c__law_draw : Cal P w K mg base 1 "_law_draw" sp_draw) : Cal P w K mg base 2 "_law_pick" (sp_pick K) := by
  obtain ⟨f, fd, F, m, b⟩ := D.ex
  have sc := sc__law_pick
  refine ⟨f, fd, _, F.ok sc sp_pick_len (fun cdv A outer s H vs Q E hr h => ?_), m, F.kp, b⟩
  obtain ⟨d, l, p, xs, rfl, DK, hp, h0, h1, q⟩ := h
  refine ⟨_, (pss_one (ps_ret (pe_ix ix_seq (pv 1) (pe_c c__law_draw hr (by decide) (by rfl) (pa_cons (pv 0) (pa_cons (pe_callB call_len_seq (by rfl) B.len_ (by decide +kernel) (pa_cons (pv 1) pa_nil)) pa_nil))) (fun _ _ => rfl)))), ?_⟩
  have hs : SqL K H p xs ∨ SqT K H p xs := hp.imp (fun z => SqL.of z.1) SqT.of
  refine ⟨_, rfl, _, rfl, _, rfl, p, xs, rfl, hs, d, l, _, rfl, DK, by omega, by omega, fun H1 r DK1 b1 r0 r1 => ?_⟩
  obtain ⟨n, rfl⟩ : ∃ n : Nat, r = n := ⟨r.toNat, by omega⟩
  have hn : n < xs.length := by omega
  obtain ⟨mx, dr, cs, hd, hl, _⟩ := DK
  rcases hp with ⟨hp, hpl⟩ | hp
  · have hp1 := b1 _ _ hp (ne_of hp hd (by intro z; cases z)) hpl
    exact .inl ⟨p, xs, _, _, rfl, rfl, SqL.of hp1, atI_nat (List.getElem?_eq_getElem hn), q _ _ DK1 b1 (List.getElem_mem hn)⟩
  · have hp1 := b1 _ _ hp (ne_of hp hd (by intro z; cases z)) (ne_of hp hl (by intro z; cases z))
    exact .inr (.inl ⟨p, xs, _, _, rfl, rfl, SqT.of hp1, atI_nat (List.getElem?_eq_getElem hn), q _ _ DK1 b1 (List.getElem_mem hn)⟩)
theorem ok_deck (D : Df K mg "_law_deck" s__law_deck ["_law_script"]) (B : Bi mg)  : Cal P w K mg base 1 "_law_deck" (sp_deck K) := by
  obtain ⟨f, fd, F, m, b⟩ := D.ex
  have sc := sc__law_deck
  refine ⟨f, fd, _, F.ok sc sp_deck_len (fun cdv A outer s H vs Q E hr h => ?_), m, F.kp, b⟩
  obtain ⟨a, ns, rfl, hS, hlen, q⟩ := h
  have hu := hu_of hr
  refine ⟨_, (pss_cons (ps_set (i := 1) sc.nd rfl (Or.inl rfl) pe_int)
      (pss_cons (ps_for PassesOwn.never rfl (pi_list (pe_slice sl_list (pv 0) po_none (po_some pe_int))) (pg_name (i := 2) sc.nd rfl (Or.inl rfl))
      (pss_one (ps_set (i := 1) sc.nd rfl (Or.inl rfl) (pe_op op_mod (pe_callTy call_int1 (by rfl) B.int_ (by decide +kernel) (pa_cons (pe_op op_add (pe_op op_add (pe_op op_mul (pv 1) pe_int) (pe_op op_mod (pe_callTy call_int1 (by rfl) B.int_ (by decide +kernel) (pa_cons (pv 2) pa_nil)) pe_int)) pe_int) pa_nil)) pe_int))))
      (pss_one (ps_ret (pe_disp (pps_cons pe_str (pe_revL (pe_lc (own := [("_law_cell", 2)]) (g := gName 2) (tt := tYes) (by rfl) sc.nd (pi_list (pe_slice sl_list (pv 0) po_none (po_some pe_int))) (blkOk_by (own := [("_law_cell", 2)]) (N := N__law_deck) (sc := defScope s__law_deck) (by decide +kernel)) (fun _ _ _ _ _ => (pg_name (i := 2) sc.nd rfl (Or.inl rfl))) (fun _ _ _ _ _ => pts_nil) (fun _ _ _ _ _ => (pe_callTy call_int1 (by rfl) B.int_ (by decide +kernel) (pa_cons (pv 2) pa_nil))))) (pps_cons pe_str (pv 1) (pps_cons pe_str pe_int pps_nil))) (by rfl) (by rfl) (fun z => by cases z) (by decide)))))), ?_⟩
  refine ⟨_, rfl, _, rfl, a, _, rfl, hS, fun p hp => ?_⟩
  obtain ⟨ms, hms, lms⟩ := cut_ints ns none (some 63)
  rw [hms]
  have s1 : Same H (upd H p (.lst (ms.map V.int))) := Same.upd_new hp
  generalize hH1 : upd H p (.lst (ms.map V.int)) = H1 at s1
  have hp1 : H1 p = some (.lst (ms.map V.int)) := by rw [← hH1]; exact upd_same
  refine ⟨p, rfl, ⟨_, SqL.of hp1⟩, for_list (K := K) (a := p) (xs := ms.map V.int) (fun i σ H2 => H1 = H2 ∧ ∃ (z : Int) (o : Option V), σ = [some (.ref a), some (.int z), o]) ⟨rfl, _, none, rfl⟩ (fun i σ H2 _ ⟨e, _⟩ => by rw [← e]; exact SqL.of hp1) ?_ ?_⟩
  · rintro i x σ _ hi ⟨rfl, z, o, rfl⟩
    obtain ⟨c, rfl, _⟩ := int_at hi
    refine ⟨_, rfl, _, _, rfl, rfl, .inr ⟨by decide, by decide⟩, _, rfl, .inl ⟨c, rfl, _, _, rfl, rfl, (by show (0 : Int) < 2147483587; decide), _, _, rfl, rfl, _, _, rfl, rfl, .inl ⟨_, rfl, _, _, rfl, rfl, (by show (0 : Int) < 2147483647; decide), ?_⟩⟩⟩
    exact ⟨rfl, _, _, rfl⟩
  · rintro σ _ ⟨rfl, z, o, rfl⟩
    intro d hd
    have s2 : Same H1 (upd H1 d (.dK [])) := Same.upd_new hd
    generalize hH2 : upd H1 d (.dK []) = H2 at s2
    have hd2 : H2 d = some (.dK []) := by rw [← hH2]; exact upd_same
    refine ⟨_, rfl, _, rfl, a, _, rfl, s2.seq (s1.seq hS), fun p2 hp2 => ?_⟩
    rw [hms]
    have s3 : Same H2 (upd H2 p2 (.lst (ms.map V.int))) := Same.upd_new hp2
    generalize hH3 : upd H2 p2 (.lst (ms.map V.int)) = H3 at s3
    have h3 : H3 p2 = some (.lst (ms.map V.int)) := by rw [← hH3]; exact upd_same
    refine ⟨p2, rfl, ⟨_, SqL.of h3⟩, fun p3 hp3 => ?_⟩
    refine lc_list (a := p2) (xs := ms.map V.int) (fun i H' => Same H3 H' ∧ H' p3 = some (.lst ((ms.take i).map V.int))) ⟨Same.upd_new hp3, upd_same⟩ (fun i H' _ ⟨z, _⟩ => SqL.of (z _ _ h3)) ?_ ?_
    · rintro i v H' hi ⟨s4, h4⟩
      obtain ⟨c, rfl, hc⟩ := int_at hi
      have hi' : i < ms.length := (List.getElem?_eq_some_iff.mp hc).1
      have htk : ms.take (i + 1) = ms.take i ++ [c] := by rw [List.take_add_one, hc]; rfl
      refine ⟨rfl, _, rfl, .inl ⟨c, rfl, _, h4, ?_, fun b u e => ?_, ?_⟩⟩
      · rw [List.length_map, List.length_take]
        exact Nat.lt_of_le_of_lt (by omega : _ ≤ 63) (by decide)
      · rw [upd_ne (ne_of_none e hp3)]
        exact s4 _ _ e
      · rw [upd_same, htk, List.map_append]
        rfl
    rintro H4 ⟨s4, h4⟩
    rw [List.length_map, List.take_length] at h4
    refine ⟨p3, _, rfl, SqL.of h4, fun l hl => ?_⟩
    have s5 : Same H4 (upd H4 l (.lst (ms.map V.int).reverse)) := Same.upd_new hl
    generalize hH5 : upd H4 l (.lst (ms.map V.int).reverse) = H5 at s5
    have h5 : H5 l = some (.lst (ms.reverse.map V.int)) := by rw [← hH5, List.map_reverse]; exact upd_same
    have sA := s1.trans (s2.trans (s3.trans (s4.trans s5)))
    have hd5 : H5 d = some (.dK []) := s5 _ _ (s4 _ _ (s3 _ _ hd2))
    have dl : d ≠ l := ne_of hd5 h5 (by intro z; cases z)
    refine ⟨_, rfl, hd5, deckL l z 0, rfl, (by show (3 : Nat) ≤ 15; decide), ?_⟩
    rw [deck_merge]
    have hd0 : H d = none := s1.free hd
    have hl0 : H l = none := s1.free (s2.free (s3.free (s4.free hl)))
    refine q _ d l ⟨z, 0, ms.reverse, upd_same, by rw [upd_ne dl.symm]; exact h5, by rw [List.length_reverse]; omega⟩ (fun b u e => ?_) hd0 hl0
    rw [upd_ne (ne_of_none e hd0)]
    exact sA _ _ e
end
end Ft

set_option exponentiation.threshold 9000
namespace Ft
open PySem L2
/-! ### beginnings: a number and a tuple of numbers -/
theorem kit_tup_tup {K : PySem.W.Frag} : PySem.W.kitOne K (.type "tuple") (.type "tuple") = some true := kit_ty (by decide +kernel)
theorem kit_int_int' {K : PySem.W.Frag} : PySem.W.kitOne K (.type "int") (.type "int") = some true := kit_ty (by decide +kernel)
def Bg (H : Hp) (v : V) (b : Int) (ts : List Int) : Prop := ∃ p q, v = .ref p ∧ H p = some (.tup [.int b, .ref q]) ∧ H q = some (.tup (ts.map V.int))
theorem Bg.same {H H' : Hp} {v : V} {b : Int} {ts : List Int} (h : Bg H v b ts) (s : Same H H') : Bg H' v b ts := by
  obtain ⟨p, q, e, h1, h2⟩ := h
  exact ⟨p, q, e, s _ _ h1, s _ _ h2⟩
/-- what the document calls a beginning -/
def BgOk (b : Int) (ts : List Int) : Prop := 1 ≤ b ∧ 1 ≤ ts.length ∧ ts.length ≤ 400
def gcdL (g : Nat) (ts : List Int) : Nat := ts.foldl (fun g t => Nat.gcd g t.natAbs) g
def lowB (b : Int) (ts : List Int) : Int := b / ((gcdL b.natAbs ts : Nat) : Int)
def lowT (b : Int) (ts : List Int) : List Int := ts.map fun t => t / ((gcdL b.natAbs ts : Nat) : Int)
theorem gcdL_one : ∀ ts : List Int, gcdL 1 ts = 1
  | [] => rfl
  | t :: ts => by
    show gcdL (Nat.gcd 1 t.natAbs) ts = 1
    rw [Nat.gcd_one_left]
    exact gcdL_one ts
theorem gcdL_dvd : ∀ (ts : List Int) (g : Nat), gcdL g ts ∣ g
  | [], g => Nat.dvd_refl g
  | t :: ts, g => Nat.dvd_trans (gcdL_dvd ts (Nat.gcd g t.natAbs)) (Nat.gcd_dvd_left _ _)
theorem gcdL_drop {ts : List Int} {i : Nat} {z : Int} (h : ts[i]? = some z) (g : Nat) : gcdL g (ts.drop i) = gcdL (Nat.gcd g z.natAbs) (ts.drop (i + 1)) := by
  obtain ⟨hi, rfl⟩ := List.getElem?_eq_some_iff.mp h
  rw [List.drop_eq_getElem_cons hi]
  rfl
theorem take_snoc {ts : List Int} {i : Nat} {z : Int} (h : ts[i]? = some z) : ts.take (i + 1) = ts.take i ++ [z] := by
  rw [List.take_add_one, h]
  rfl
theorem all_true : ∀ n : Nat, (List.replicate n true).all id = true
  | 0 => rfl
  | n + 1 => by rw [List.replicate_succ, List.all_cons, all_true n]; rfl
def sp_from : Sp := fun vs H Q _ => ∃ n a : Int, vs = [.int n, .int a] ∧ Q (.bl (decide (a ≤ n))) H
def sp_checkFrom : Sp := fun vs H Q _ => ∃ n a : Int, vs = [.int n, .int a] ∧ a ≤ n ∧ Q .non H
def sp_isBeg : Sp := fun vs H Q _ => ∃ v b ts, vs = [v] ∧ Bg H v b ts ∧ BgOk b ts ∧ ∀ H', Same H H' → Q (.bl true) H'
def sp_checkBeg : Sp := fun vs H Q _ => ∃ v b ts, vs = [v] ∧ Bg H v b ts ∧ BgOk b ts ∧ ∀ H', Same H H' → Q .non H'
def sp_lowered : Sp := fun vs H Q _ => ∃ (b : Int) (p : Addr) (ts : List Int), vs = [.int b, .ref p] ∧ H p = some (.lst (ts.map V.int)) ∧ 0 < b ∧ b.natAbs < 2 ^ 8000 ∧ ts.length ≤ 1000 ∧ ∀ H' v, Same H H' → Bg H' v (lowB b ts) (lowT b ts) → Q v H'
section
variable {P : Program} {w : World} {K : PySem.W.Frag} {mg : Str → Option Value} {base : Heap}
theorem ok_check_between (D : Df K mg "check_between" s_check_between ["thing", "least", "most"]) (c_is_between : Cal P w K mg base 2 "is_between" sp_is_between) : Cal P w K mg base 3 "check_between" (sp3 (fun n a b => a ≤ n ∧ n ≤ b) fun _ _ _ => .non) := by
  obtain ⟨f, fd, F, m, b⟩ := D.ex
  have sc := sc_check_between
  refine ⟨f, fd, _, F.ok sc sp3_len (fun cdv A outer s H vs Q E hr h => ?_), m, F.kp, b⟩
  obtain ⟨n, lo, hi, rfl, hb, q⟩ := h
  refine ⟨_, (pss_one (ps_if (pt_not (pt_val (pe_c c_is_between hr (by decide) (by rfl) (pa_cons (pv 0) (pa_cons (pv 1) (pa_cons (pv 2) pa_nil))))))
      (pss_one ps_never)
      pss_nil)), ?_⟩
  refine ⟨_, rfl, _, rfl, _, rfl, n, lo, hi, rfl, trivial, _, rfl, ?_⟩
  rw [decide_eq_true hb.1, decide_eq_true hb.2]
  exact iteF q
theorem ok_is_from (D : Df K mg "is_from" s_is_from ["thing", "least"]) (c_is_integer : Cal P w K mg base 1 "is_integer" sp_is_integer) : Cal P w K mg base 2 "is_from" sp_from := by
  obtain ⟨f, fd, F, m, b⟩ := D.ex
  have sc := sc_is_from
  refine ⟨f, fd, _, F.ok sc (fun _ _ _ _ ⟨_, _, e, _⟩ => by rw [e]; rfl) (fun cdv A outer s H vs Q E hr h => ?_), m, F.kp, b⟩
  obtain ⟨n, a, rfl, q⟩ := h
  refine ⟨_, (pss_one (ps_ret (pe_and (pe_c c_is_integer hr (by decide) (by rfl) (pa_cons (pv 0) pa_nil)) (pe_one (pe_cmpR op_ge (pv 0) (pv 1) (nomark _)))))), ?_⟩
  refine ⟨_, rfl, n, rfl, trivial, true, rfl, iteT ?_⟩
  exact ⟨_, rfl, _, rfl, _, _, rfl, rfl, q⟩
theorem ok_check_from (D : Df K mg "check_from" s_check_from ["thing", "least"]) (c_is_from : Cal P w K mg base 2 "is_from" sp_from) : Cal P w K mg base 3 "check_from" sp_checkFrom := by
  obtain ⟨f, fd, F, m, b⟩ := D.ex
  have sc := sc_check_from
  refine ⟨f, fd, _, F.ok sc (fun _ _ _ _ ⟨_, _, e, _⟩ => by rw [e]; rfl) (fun cdv A outer s H vs Q E hr h => ?_), m, F.kp, b⟩
  obtain ⟨n, a, rfl, ha, q⟩ := h
  refine ⟨_, (pss_one (ps_if (pt_not (pt_val (pe_c c_is_from hr (by decide) (by rfl) (pa_cons (pv 0) (pa_cons (pv 1) pa_nil)))))
      (pss_one ps_never)
      pss_nil)), ?_⟩
  refine ⟨_, rfl, _, rfl, n, a, rfl, _, rfl, ?_⟩
  rw [decide_eq_true ha]
  exact iteF q
theorem ok_is_beginning (D : Df K mg "is_beginning" s_is_beginning ["thing"]) (B : Bi mg) (c_is_from : Cal P w K mg base 2 "is_from" sp_from) (c_is_integer : Cal P w K mg base 1 "is_integer" sp_is_integer) : Cal P w K mg base 3 "is_beginning" sp_isBeg := by
  obtain ⟨f, fd, F, m, b⟩ := D.ex
  have sc := sc_is_beginning
  refine ⟨f, fd, _, F.ok sc (fun _ _ _ _ ⟨_, _, _, e, _⟩ => by rw [e]; rfl) (fun cdv A outer s H vs Q E hr h => ?_), m, F.kp, b⟩
  obtain ⟨v, b, ts, rfl, ⟨p, r, rfl, hp, hr2⟩, hb, q⟩ := h
  refine ⟨_, (pss_cons (ps_if (PW.pt (pw_or (pt_not (pt_val (pe_callB (id := "isinstance") (r := rIsi K) call_isi (by rfl) B.isinstance (by decide +kernel) (pa_cons (pv 0) (pa_cons (pe_ty (n := "tuple") (by rfl) B.tuple (by decide +kernel)) pa_nil))))) (pw_or1 (pt_cmpR op_ne (pe_callB call_len_seq (by rfl) B.len_ (by decide +kernel) (pa_cons (pv 0) pa_nil)) pe_int (nomark _)))))
      (pss_one (ps_ret pe_bl))
      pss_nil)
      (pss_cons (ps_asg (pv 0) (pg_tup rfl (pgs_cons (pg_name (i := 1) sc.nd rfl (Or.inl rfl)) (pgs_cons (pg_name (i := 2) sc.nd rfl (Or.inl rfl)) pgs_nil))))
      (pss_cons (ps_if (PW.pt (pw_or (pt_not (pt_val (pe_c c_is_from hr (by decide) (by rfl) (pa_cons (pv 1) (pa_cons pe_int pa_nil))))) (pw_or1 (pt_not (pt_val (pe_callB (id := "isinstance") (r := rIsi K) call_isi (by rfl) B.isinstance (by decide +kernel) (pa_cons (pv 2) (pa_cons (pe_ty (n := "tuple") (by rfl) B.tuple (by decide +kernel)) pa_nil))))))))
      (pss_one (ps_ret pe_bl))
      pss_nil)
      (pss_one (ps_ret (pe_and (pe_chain op_le op_le pe_int (pe_callB call_len_seq (by rfl) B.len_ (by decide +kernel) (pa_cons (pv 2) pa_nil)) pe_int) (pe_one (pe_callB (cr_all rfl) (by rfl) B.all (by decide +kernel) (pa_cons (pe_lc (own := [("top", 3)]) (g := gName 3) (tt := tYes) (by rfl) sc.nd (pi_tup (pv 2)) (blkOk_by (own := [("top", 3)]) (N := N_is_beginning) (sc := defScope s_is_beginning) (by decide +kernel)) (fun _ _ _ _ _ => (pg_name (i := 3) sc.nd rfl (Or.inl rfl))) (fun _ _ _ _ _ => pts_nil) (fun _ _ _ _ _ => (pe_c c_is_integer hr (by decide) (by rfl) (pa_cons (pv 3) pa_nil)))) pa_nil))))))))), ?_⟩
  have l1 := hb.2.1
  have l2 := hb.2.2
  refine ⟨_, rfl, _, _, _, _, true, rfl, .ty _, .base (.tup hp), kit_tup_tup, true, rfl, iteF ?_⟩
  refine ⟨_, rfl, p, _, rfl, .inr (SqT.of hp), rfl, _, rfl, ifNI (fun e => absurd rfl e) fun _ => ?_⟩
  dsimp only [tNext]
  refine ⟨_, rfl, p, _, rfl, SqT.of hp, rfl, ?_⟩
  refine ⟨_, _, rfl, _, _, rfl, rfl, ?_⟩
  refine ⟨_, rfl, b, 1, rfl, _, rfl, ?_⟩
  rw [decide_eq_true hb.1]
  refine iteF ?_
  refine ⟨_, rfl, _, _, _, _, true, rfl, .ty _, .base (.tup hr2), kit_tup_tup, true, rfl, iteF ?_⟩
  dsimp only [tNext]
  have ll : (ts.map V.int).length = ts.length := List.length_map ..
  refine ⟨_, rfl, r, _, rfl, .inr (SqT.of hr2), 1, _, rfl, rfl, _, rfl, ifD (fun _ => ?_) fun h => absurd (by rw [ll]; omega) h⟩
  refine ⟨_, _, rfl, rfl, _, rfl, ifD (fun _ => ?_) fun h => absurd (by rw [ll]; omega) h⟩
  refine ⟨_, rfl, r, rfl, ⟨_, SqT.of hr2⟩, fun D1 hD1 => ?_⟩
  refine lc_it (walk_tup (xs := ts.map V.int)) (fun i H' => Same H H' ∧ H' D1 = some (.lst ((List.replicate i true).map V.bl))) ⟨Same.upd_new hD1, upd_same⟩ (fun i H' _ ⟨s2, _⟩ => SqT.of (s2 _ _ hr2)) ?_ ?_
  · rintro i u H2 H3 hi ⟨s2, h2⟩ ⟨rfl, hu⟩
    obtain ⟨z, rfl, _⟩ := int_at hu
    refine ⟨rfl, ?_⟩
    refine ⟨_, rfl, z, rfl, trivial, _, h2, ?_, fun b o e => ?_, ?_⟩
    · rw [List.length_map, List.length_replicate]
      exact Nat.lt_of_le_of_lt (by omega : i ≤ 400) (by decide)
    · rw [upd_ne (ne_of_none e hD1)]
      exact s2 _ _ e
    · rw [upd_same, List.replicate_succ', List.map_append]
      rfl
  · rintro H2 ⟨s2, h2⟩
    refine ⟨D1, _, rfl, SqL.of h2, ?_⟩
    rw [all_true]
    exact q H2 s2
theorem ok_check_beginning (D : Df K mg "check_beginning" s_check_beginning ["beginning"]) (c_is_beginning : Cal P w K mg base 3 "is_beginning" sp_isBeg) : Cal P w K mg base 4 "check_beginning" sp_checkBeg := by
  obtain ⟨f, fd, F, m, b⟩ := D.ex
  have sc := sc_check_beginning
  refine ⟨f, fd, _, F.ok sc (fun _ _ _ _ ⟨_, _, _, e, _⟩ => by rw [e]; rfl) (fun cdv A outer s H vs Q E hr h => ?_), m, F.kp, b⟩
  obtain ⟨v, b, ts, rfl, hv, hb, q⟩ := h
  refine ⟨_, (pss_one (ps_if (pt_not (pt_val (pe_c c_is_beginning hr (by decide) (by rfl) (pa_cons (pv 0) pa_nil))))
      (pss_one ps_never)
      pss_nil)), ?_⟩
  refine ⟨_, rfl, v, b, ts, rfl, hv, hb, fun H1 s1 => ⟨_, rfl, iteF ?_⟩⟩
  exact q H1 s1
theorem ok_lowered (D : Df K mg "lowered" s_lowered ["bottom", "tops"]) (B : Bi mg)  : Cal P w K mg base 1 "lowered" sp_lowered := by
  obtain ⟨f, fd, F, m, b⟩ := D.ex
  have sc := sc_lowered
  refine ⟨f, fd, _, F.ok sc (fun _ _ _ _ ⟨_, _, _, e, _⟩ => by rw [e]; rfl) (fun cdv A outer s H vs Q E hr h => ?_), m, F.kp, b⟩
  obtain ⟨b, p, ts, rfl, hp, b0, b1, tl, q⟩ := h
  refine ⟨_, (pss_cons (ps_set (i := 2) sc.nd rfl (Or.inr rfl) (pe_callB call_abs (by rfl) B.abs (by decide +kernel) (pa_cons (pv 0) pa_nil)))
      (pss_cons (ps_for PassesOwn.never rfl (pi_list (pv 1)) (pg_name (i := 3) sc.nd rfl (Or.inl rfl))
      (pss_cons (ps_if (pt_cmpR op_eq (pv 2) pe_int (nomark _))
        (pss_one ps_break)
        pss_nil)
        (pss_one (ps_set (i := 2) sc.nd rfl (Or.inr rfl) (pe_callBfun cr_gcd (by rfl) B.gcd (pa_cons (pv 2) (pa_cons (pv 3) pa_nil)))))))
      (pss_cons (ps_if (pt_cmpR op_lt (pv 0) pe_int (nomark _))
      (pss_one (ps_set (i := 2) sc.nd rfl (Or.inr rfl) (pe_un un_neg (pv 2))))
      pss_nil)
      (pss_one (ps_ret (pe_tup (pa_cons (pe_op op_fdivW (pv 0) (pv 2)) (pa_cons (pe_callTy call_tuple_of (by rfl) B.tuple (by decide +kernel) (pa_cons (pe_lc (own := [("top", 3)]) (g := gName 3) (tt := tYes) (by rfl) sc.nd (pi_list (pv 1)) (blkOk_by (own := [("top", 3)]) (N := N_lowered) (sc := defScope s_lowered) (by decide +kernel)) (fun _ _ _ _ _ => (pg_name (i := 3) sc.nd rfl (Or.inl rfl))) (fun _ _ _ _ _ => pts_nil) (fun _ _ _ _ _ => (pe_op op_fdivW (pv 3) (pv 2)))) pa_nil)) pa_nil)))))))), ?_⟩
  have ea : (if b < 0 then -b else b) = (b.natAbs : Int) := by split <;> omega
  refine ⟨_, rfl, b, rfl, ?_⟩
  rw [ea]
  dsimp only [gName]
  refine tSeq_join (fun σ H' => H = H' ∧ ∃ o : Option V, σ = [some (.int b), some (.ref p), some (.int ((gcdL b.natAbs ts : Nat) : Int)), o]) (fun N hN => ?_) ?_
  · refine ⟨_, rfl, p, rfl, ⟨_, SqL.of hp⟩, for_list (K := K) (a := p) (xs := ts.map V.int) (fun i σ H' => H = H' ∧ ∃ (g : Nat) (o : Option V), σ = [some (.int b), some (.ref p), some (.int (g : Int)), o] ∧ gcdL g (ts.drop i) = gcdL b.natAbs ts) ⟨rfl, _, none, rfl, rfl⟩ (fun i σ H2 _ ⟨e, _⟩ => by rw [← e]; exact SqL.of hp) ?_ ?_⟩
    · rintro i x σ _ hi ⟨rfl, g, o, rfl, hg⟩
      obtain ⟨z, rfl, hz⟩ := int_at hi
      rw [gcdL_drop hz] at hg
      refine ⟨_, rfl, rfl, _, rfl, ifI (fun e => ?_) fun e => ?_⟩
      · have e' : g = 1 := by omega
        subst e'
        rw [Nat.gcd_one_left, gcdL_one] at hg
        exact hN _ _ ⟨rfl, _, by rw [← hg]; rfl⟩
      · refine ⟨_, rfl, _, rfl, _, _, rfl, ?_⟩
        exact ⟨rfl, _, _, rfl, hg⟩
    · rintro σ _ ⟨rfl, g, o, rfl, hg⟩
      rw [List.length_map, List.drop_length] at hg
      exact hN _ _ ⟨rfl, o, by rw [← hg]; rfl⟩
  rintro _ _ ⟨rfl, o, rfl⟩
  have gd := gcdL_dvd ts b.natAbs
  have bp : 0 < b.natAbs := by omega
  have gl := Nat.le_of_dvd bp gd
  have gp := Nat.pos_of_dvd_of_pos gd bp
  generalize hG : gcdL b.natAbs ts = G at gl gp
  have cd : ∀ i : Int, CDivW i (G : Int) := fun i => wide_div (b := 8000) (by omega) (Nat.lt_of_le_of_lt gl b1) (by decide) (by decide)
  refine ⟨_, rfl, _, _, rfl, rfl, _, rfl, ifD (fun e => absurd e (by omega)) fun _ => ?_⟩
  dsimp only [tNext]
  refine ⟨_, rfl, _, rfl, _, _, rfl, rfl, cd b, ?_⟩
  refine ⟨_, rfl, p, rfl, ⟨_, SqL.of hp⟩, fun D1 hD1 => ?_⟩
  refine lc_list (K := K) (a := p) (xs := ts.map V.int) (fun i H' => Same H H' ∧ H' D1 = some (.lst ((ts.take i).map fun t => V.int (t / (G : Int))))) ⟨Same.upd_new hD1, upd_same⟩ (fun i H' _ ⟨s2, _⟩ => SqL.of (s2 _ _ hp)) ?_ ?_
  · rintro i x H2 hx ⟨s2, h2⟩
    obtain ⟨z, rfl, hz⟩ := int_at hx
    have hi := (List.getElem?_eq_some_iff.mp hz).1
    refine ⟨rfl, ?_⟩
    refine ⟨_, rfl, _, rfl, _, _, rfl, rfl, cd z, _, h2, ?_, fun b o e => ?_, ?_⟩
    · rw [List.length_map, List.length_take]
      exact Nat.lt_of_le_of_lt (Nat.le_trans (Nat.min_le_right _ _) tl) (by decide)
    · rw [upd_ne (ne_of_none e hD1)]
      exact s2 _ _ e
    · rw [upd_same, take_snoc hz, List.map_append]
      rfl
  · rintro H2 ⟨s2, h2⟩
    have e1 : (ts.take (ts.map V.int).length).map (fun t => V.int (t / (G : Int))) = (lowT b ts).map V.int := by
      unfold lowT
      rw [hG, List.length_map, List.take_length, List.map_map]
      rfl
    rw [e1] at h2
    refine ⟨D1, _, rfl, .inl ⟨SqL.of h2, fun T1 hT1 => ?_⟩⟩
    have s3 : Same H2 (upd H2 T1 (.tup ((lowT b ts).map V.int))) := Same.upd_new hT1
    have h3 : (upd H2 T1 (.tup ((lowT b ts).map V.int))) T1 = some (.tup ((lowT b ts).map V.int)) := upd_same
    generalize hH3 : upd H2 T1 (.tup ((lowT b ts).map V.int)) = H3 at s3 h3
    refine ⟨(by show (2 : Nat) ≤ sizeLine; decide), fun T2 hT2 => ?_⟩
    have s4 : Same H3 (upd H3 T2 (.tup [V.int (b / (G : Int)), V.ref T1])) := Same.upd_new hT2
    refine q _ _ (s2.trans (s3.trans s4)) ⟨T2, T1, rfl, ?_, s4 _ _ h3⟩
    unfold lowB
    rw [hG]
    exact upd_same
end
end Ft

set_option exponentiation.threshold 9000
namespace Ft
open PySem L2
def sprL (ts : List Int) (d : Nat) : List Int := (List.range ts.length).map fun n => if n % d = 0 then ts.getD (n / d) 0 else 0
def eveL (ts : List Int) (d : Nat) : List Int := ((List.range ts.length).filter fun n => decide (n % d = 0)).map fun n => ts.getD n 0
def shfL (ts : List Int) (s : Nat) : List Int := List.replicate s 0 ++ ts
def sp_deed (f : List Int → Nat → List Int) (C : Nat → Prop) : Sp := fun vs H Q _ => ∃ v b ts d, vs = [v, .int ((d : Nat) : Int)] ∧ Bg H v b ts ∧ BgOk b ts ∧ b.natAbs < 2 ^ 8000 ∧ C d ∧ ∀ H' u, Same H H' → Bg H' u (lowB b (f ts d)) (lowT b (f ts d)) → Q u H'
theorem filter_succ (f : Nat → Bool) (j : Nat) : (List.range (j + 1)).filter f = (List.range j).filter f ++ if f j = true then [j] else [] := by
  rw [List.range_succ, List.filter_append]
  congr 1
  cases h : f j <;> simp [h]
theorem filter_len (f : Nat → Bool) (j : Nat) : ((List.range j).filter f).length ≤ j := by
  have := List.length_filter_le f (List.range j)
  rw [List.length_range] at this
  exact this
theorem getD_at {l : List Int} {i : Nat} (h : i < l.length) : (l.map V.int)[i]? = some (V.int (l.getD i 0)) := by
  rw [List.getElem?_map, List.getElem?_eq_getElem h, List.getD_eq_getElem?_getD, List.getElem?_eq_getElem h]
  rfl
section
variable {P : Program} {w : World} {K : PySem.W.Frag} {mg : Str → Option Value} {base : Heap}
end
end Ft

set_option exponentiation.threshold 9000
namespace Ft
open PySem L2
theorem flat_one {α : Type} (x : α) : ∀ n : Nat, (List.replicate n [x]).flatten = List.replicate n x
  | 0 => rfl
  | n + 1 => by rw [List.replicate_succ, List.flatten_cons, flat_one x n, List.replicate_succ]; rfl
/-- the first place where two rows part -/
def apartGo (b1 b2 : Int) (t1 t2 : List Int) : Nat → Nat → Option Nat
  | 0, _ => none
  | f + 1, i => if t1.getD i 0 * b2 = t2.getD i 0 * b1 then apartGo b1 b2 t1 t2 f (i + 1) else some i
def apart (b1 b2 : Int) (t1 t2 : List Int) : Option Nat := apartGo b1 b2 t1 t2 (min t1.length t2.length) 0
def optV : Option Nat → V
  | none => .non
  | some n => .int (n : Int)
def sp_apart : Sp := fun vs H Q _ => ∃ u v b1 b2 t1 t2, vs = [u, v] ∧ Bg H u b1 t1 ∧ Bg H v b2 t2 ∧ BgOk b1 t1 ∧ BgOk b2 t2 ∧ b1.natAbs < 2 ^ 8000 ∧ b2.natAbs < 2 ^ 8000 ∧ (∀ x ∈ t1, x.natAbs < 2 ^ 8000) ∧ (∀ x ∈ t2, x.natAbs < 2 ^ 8000) ∧ ∀ H', Same H H' → Q (optV (apart b1 b2 t1 t2)) H'
theorem mul8 {i j : Int} (h1 : i.natAbs < 2 ^ 8000) (h2 : j.natAbs < 2 ^ 8000) : CMulW i j := wide_mul h1 h2 (by decide) (by decide) (by decide)
theorem getD_mem {l : List Int} {i : Nat} (h : i < l.length) : l.getD i 0 ∈ l := by
  rw [List.getD_eq_getElem?_getD, List.getElem?_eq_getElem h]
  exact List.getElem_mem h
section
variable {P : Program} {w : World} {K : PySem.W.Frag} {mg : Str → Option Value} {base : Heap}
end
end Ft

set_option exponentiation.threshold 9000
namespace Ft
open PySem L2
/-! ### lowest terms of rows -/
theorem gcdL_mul (c : Nat) : ∀ (ts : List Int) (g : Nat), gcdL (c * g) (ts.map fun t => (c : Int) * t) = c * gcdL g ts
  | [], g => rfl
  | t :: ts, g => by
    show gcdL (Nat.gcd (c * g) ((c : Int) * t).natAbs) (ts.map fun t => (c : Int) * t) = c * gcdL (Nat.gcd g t.natAbs) ts
    rw [Int.natAbs_mul, Int.natAbs_natCast, Nat.gcd_mul_left]
    exact gcdL_mul c ts _
theorem gcdL_mem : ∀ (ts : List Int) (g : Nat) (t : Int), t ∈ ts → gcdL g ts ∣ t.natAbs
  | u :: ts, g, t, h => by
    show gcdL (Nat.gcd g u.natAbs) ts ∣ t.natAbs
    rcases List.mem_cons.mp h with rfl | h
    · exact Nat.dvd_trans (gcdL_dvd ts _) (Nat.gcd_dvd_right _ _)
    · exact gcdL_mem ts _ t h
theorem low_mul {c : Nat} (hc : 0 < c) {b : Int} (hb : 0 < b) (ts : List Int) : lowB ((c : Int) * b) (ts.map fun t => (c : Int) * t) = lowB b ts ∧ lowT ((c : Int) * b) (ts.map fun t => (c : Int) * t) = lowT b ts := by
  have e : gcdL ((c : Int) * b).natAbs (ts.map fun t => (c : Int) * t) = c * gcdL b.natAbs ts := by
    rw [Int.natAbs_mul, Int.natAbs_natCast]
    exact gcdL_mul c ts _
  have c0 : (0 : Int) < (c : Int) := by omega
  unfold lowB lowT
  rw [e, Int.natCast_mul]
  refine ⟨Int.mul_ediv_mul_of_pos _ _ c0, ?_⟩
  rw [List.map_map]
  exact List.map_congr_left fun t _ => Int.mul_ediv_mul_of_pos _ _ c0
theorem gcdL_pos {b : Int} (hb : 0 < b) (ts : List Int) : 0 < gcdL b.natAbs ts := Nat.pos_of_dvd_of_pos (gcdL_dvd ts _) (by omega)
theorem mul_lowB {b : Int} (ts : List Int) : ((gcdL b.natAbs ts : Nat) : Int) * lowB b ts = b :=
  Int.mul_ediv_cancel' (Int.dvd_natAbs.mp (Int.natCast_dvd_natCast.mpr (gcdL_dvd ts _)))
theorem mul_lowT {b : Int} (ts : List Int) : (lowT b ts).map (fun t => ((gcdL b.natAbs ts : Nat) : Int) * t) = ts := by
  unfold lowT
  rw [List.map_map]
  conv => rhs; rw [← List.map_id ts]
  exact List.map_congr_left fun t ht => Int.mul_ediv_cancel' (Int.dvd_natAbs.mp (Int.natCast_dvd_natCast.mpr (gcdL_mem ts _ t ht)))
theorem lowB_pos {b : Int} (hb : 0 < b) (ts : List Int) : 0 < lowB b ts := by
  have h1 := mul_lowB (b := b) ts
  have h2 := gcdL_pos hb ts
  rcases Int.lt_trichotomy (lowB b ts) 0 with h | h | h
  · have := Int.mul_neg_of_pos_of_neg (a := ((gcdL b.natAbs ts : Nat) : Int)) (b := lowB b ts) (by omega) h
    omega
  · rw [h, Int.mul_zero] at h1
    omega
  · exact h
theorem lowB_le {b : Int} (hb : 0 < b) (ts : List Int) : lowB b ts ≤ b := Int.ediv_le_self _ (by omega)
/-- a deed on rows that keeps multiples -/
def Lin (F : List Int → List Int) : Prop := ∀ (c : Int) (ts : List Int), F (ts.map fun t => c * t) = (F ts).map fun t => c * t
theorem low_lin {F : List Int → List Int} (hF : Lin F) {b : Int} (hb : 0 < b) (ts : List Int) : lowB (lowB b ts) (F (lowT b ts)) = lowB b (F ts) ∧ lowT (lowB b ts) (F (lowT b ts)) = lowT b (F ts) := by
  have h := low_mul (gcdL_pos hb ts) (lowB_pos hb ts) (F (lowT b ts))
  rw [mul_lowB, ← hF, mul_lowT] at h
  exact ⟨h.1.symm, h.2.symm⟩
theorem getD_mul (c : Int) (ts : List Int) (i : Nat) : (ts.map fun t => c * t).getD i 0 = c * ts.getD i 0 := by
  rw [List.getD_eq_getElem?_getD, List.getD_eq_getElem?_getD, List.getElem?_map]
  cases ts[i]? with
  | none => exact (Int.mul_zero c).symm
  | some x => rfl
theorem getD_range (g : Nat → Int) (m i : Nat) : ((List.range m).map g).getD i 0 = if i < m then g i else 0 := by
  rw [List.getD_eq_getElem?_getD, List.getElem?_map]
  by_cases h : i < m
  · rw [List.getElem?_range h, if_pos h]; rfl
  · rw [List.getElem?_eq_none (by rw [List.length_range]; omega), if_neg h]; rfl
/-! ### texts of beginnings -/
theorem int_short {v : Int} (h : v.natAbs < 2 ^ 250) : (PyData.int v).leavesShort 100 = true := by
  have key : (PyData.shown (.int v)).length ≤ 100 := by
    have p : (2 : Int) ^ 140 < 10 ^ 78 := by decide
    rcases Int.lt_or_le v 0 with h0 | h0
    · obtain ⟨m, rfl⟩ : ∃ m : Nat, v = Int.negSucc m := ⟨v.natAbs - 1, by omega⟩
      have l := PyProof.Rows.toString_length_le (v := ((m + 1 : Nat) : Int)) (by omega) (k := 78) (by decide) (by omega)
      have e : toString (Int.negSucc m) = "-" ++ toString (m + 1) := rfl
      show (Str.ofString (toString (Int.negSucc m))).length ≤ 100
      rw [e, PyProof.Rows.ofString_length, String.toList_append, List.length_append]
      rw [PyProof.Rows.ofString_length] at l
      have l' : (toString (m + 1)).toList.length ≤ 78 := l
      have : "-".toList.length = 1 := by decide
      omega
    · have l := PyProof.Rows.toString_length_le h0 (k := 78) (by decide) (by omega)
      exact Nat.le_trans l (by decide)
  simpa only [PyData.leavesShort, decide_eq_true_eq] using key
theorem ints_short : ∀ {ts : List Int}, (∀ x ∈ ts, x.natAbs < 2 ^ 250) → PyData.leavesShortAll 100 (ts.map PyData.int) = true
  | [], _ => by simp only [List.map_nil, PyData.leavesShortAll]
  | t :: ts, h => by
    simp only [List.map_cons, PyData.leavesShortAll, Bool.and_eq_true]
    exact ⟨int_short (h t List.mem_cons_self), ints_short fun x hx => h x (List.mem_cons_of_mem _ hx)⟩
theorem ints_bulk : ∀ ts : List Int, PyData.bulkAll (ts.map PyData.int) = ts.length
  | [] => by simp only [List.map_nil, PyData.bulkAll, List.length_nil]
  | t :: ts => by
    simp only [List.map_cons, PyData.bulkAll, PyData.bulk, List.length_cons, ints_bulk ts]
    omega
theorem int_showable {v : Int} (h : v.natAbs < 2 ^ 250) : (PyData.int v).showable = true := by
  have := PySem.Flt.log2_lt_of (by decide) h
  simp only [PyData.showable, decide_eq_true_eq]
  omega
theorem ints_showable : ∀ {ts : List Int}, (∀ x ∈ ts, x.natAbs < 2 ^ 250) → PyData.showableAll (ts.map PyData.int) = true
  | [], _ => by simp only [List.map_nil, PyData.showableAll]
  | t :: ts, h => by
    simp only [List.map_cons, PyData.showableAll, Bool.and_eq_true]
    exact ⟨int_showable (h t List.mem_cons_self), ints_showable fun x hx => h x (List.mem_cons_of_mem _ hx)⟩
def bgD (b : Int) (ts : List Int) : PyData := .tuple [.int b, .tuple (ts.map PyData.int)]
/-- short enough to be shown -/
structure BgS (b : Int) (ts : List Int) : Prop where
  hb : b.natAbs < 2 ^ 250
  hts : ∀ x ∈ ts, x.natAbs < 2 ^ 250
  len : ts.length ≤ 1000
theorem dp_bg {K : PySem.W.Frag} {H : Hp} {v : V} {b : Int} {ts : List Int} (h : Bg H v b ts) : Dp K H v (bgD b ts) := by
  obtain ⟨p, q, rfl, h1, h2⟩ := h
  exact .tup (SqT.of h1) (.cons (.int b) (.cons (.tup (SqT.of h2) (dp_ints ts)) .nil))
/-- what repr asks of a datum -/
structure RepOk (d : PyData) : Prop where
  show_ : d.showable = true
  dict : d.hasDict = false
  depth : d.depth ≤ 64
  len : d.shown.length ≤ sizeLine
theorem bgD_depth (b : Int) (ts : List Int) : (bgD b ts).depth = 2 := by
  have e : PyData.depth (.tuple (ts.map PyData.int)) = 1 := by
    show PyData.depthAll (ts.map PyData.int) + 1 = 1
    rw [depth_ints]
  show max 0 (max (PyData.depth (.tuple (ts.map PyData.int))) 0) + 1 = 2
  rw [e]
  rfl
theorem bgD_short {b : Int} {ts : List Int} (h : BgS b ts) : (bgD b ts).leavesShort 100 = true := by
  simp only [bgD, PyData.leavesShort, PyData.leavesShortAll, Bool.and_eq_true, Bool.and_true]
  refine ⟨?_, ints_short h.hts⟩
  have := int_short h.hb
  simpa only [PyData.leavesShort] using this
theorem bgD_showable {b : Int} {ts : List Int} (h : BgS b ts) : (bgD b ts).showable = true := by
  simp only [bgD, PyData.showable, PyData.showableAll, Bool.and_eq_true, Bool.and_true]
  refine ⟨?_, ints_showable h.hts⟩
  have := int_showable h.hb
  simpa only [PyData.showable] using this
theorem ints_dict (ts : List Int) : PyData.hasDictAll (ts.map PyData.int) = false := by
  induction ts with
  | nil => simp only [List.map_nil, PyData.hasDictAll]
  | cons t ts ih => simp only [List.map_cons, PyData.hasDictAll, PyData.hasDict, ih, Bool.or_self]
theorem bgD_dict (b : Int) (ts : List Int) : (bgD b ts).hasDict = false := by
  simp only [bgD, PyData.hasDict, PyData.hasDictAll, ints_dict, Bool.or_self]
theorem bgD_bulk (b : Int) (ts : List Int) : (bgD b ts).bulk = ts.length + 2 := by
  simp only [bgD, PyData.bulk, PyData.bulkAll, ints_bulk]
  omega
theorem rep_bg {b : Int} {ts : List Int} (h : BgS b ts) : RepOk (bgD b ts) := by
  refine ⟨bgD_showable h, bgD_dict b ts, by rw [bgD_depth]; decide, ?_⟩
  have l := PyData.shown_le_bulk 100 (by decide) (bgD b ts) (bgD_short h)
  rw [bgD_bulk] at l
  have := h.len
  have e : sizeLine = 16777216 := by decide
  omega
theorem low_short {b : Int} {ts : List Int} (h : BgS b ts) : BgS (lowB b ts) (lowT b ts) := by
  refine ⟨Nat.lt_of_le_of_lt (Int.natAbs_ediv_le_natAbs _ _) h.hb, fun x hx => ?_, by unfold lowT; rw [List.length_map]; exact h.len⟩
  obtain ⟨t, ht, rfl⟩ := List.mem_map.mp hx
  exact Nat.lt_of_le_of_lt (Int.natAbs_ediv_le_natAbs _ _) (h.hts t ht)
theorem low_ok {b : Int} {ts : List Int} (h : BgOk b ts) : BgOk (lowB b ts) (lowT b ts) := by
  have b0 := h.1
  have p := lowB_pos (b := b) (by omega) ts
  refine ⟨by omega, ?_, ?_⟩
  · unfold lowT; rw [List.length_map]; exact h.2.1
  · unfold lowT; rw [List.length_map]; exact h.2.2
theorem rep_one {K : PySem.W.Frag} {H : Hp} {u : V} {b : Int} {ts : List Int} {Q : VK} (g : Bg H u b ts) (S : BgS b ts) (q : ∀ z, z = (bgD b ts).shown → Q (.str z) H) : rRepr K [u] H Q := by
  have d := dp_bg (K := K) g
  obtain ⟨p, r, rfl, _, _⟩ := g
  have R := rep_bg S
  exact ⟨p, _, rfl, d, R.show_, R.dict, R.depth, R.len, q _ rfl⟩
end Ft

set_option exponentiation.threshold 9000
namespace Ft
open PySem L2
/-! ### numbers as pairs -/
abbrev Fq := Int × Int
def low (a b : Int) : Fq := (a / ((Nat.gcd a.natAbs b.natAbs : Nat) : Int), b / ((Nat.gcd a.natAbs b.natAbs : Nat) : Int))
def nsum (x y : Fq) : Fq := low (x.1 * y.2 + y.1 * x.2) (x.2 * y.2)
def nprod (x y : Fq) : Fq := low (x.1 * y.1) (x.2 * y.2)
/-- of at most b bits, over a positive number -/
def Small (b : Nat) (x : Fq) : Prop := x.1.natAbs < 2 ^ b ∧ x.2.natAbs < 2 ^ b ∧ 0 < x.2
/-- the value v is the number x -/
def Fr (H : Hp) (v : V) (x : Fq) : Prop := ∃ t, v = .ref t ∧ H t = some (.tup [.int x.1, .int x.2])
theorem Fr.same {H H' : Hp} {v : V} {x : Fq} (h : Fr H v x) (s : Same H H') : Fr H' v x := by
  obtain ⟨t, e, z⟩ := h
  exact ⟨t, e, s _ _ z⟩
theorem Fr.new {H : Hp} {p : Addr} {a b : Int} : Fr (upd H p (.tup [.int a, .int b])) (.ref p) (a, b) := ⟨p, rfl, upd_same⟩
theorem two0 {a b : V} : atI [a, b] 0 = some a := atI_nat (j := 0) rfl
theorem two1 {a b : V} : atI [a, b] 1 = some b := atI_nat (j := 1) rfl
theorem fr0 {K : PySem.W.Frag} {H : Hp} {v : V} {x : Fq} {Q : VK} (h : Fr H v x) (q : Q (.int x.1) H) : rIx K v (.int 0) H Q := by
  obtain ⟨t, rfl, z⟩ := h
  exact .inr (.inl ⟨t, _, 0, _, rfl, rfl, SqT.of z, two0, q⟩)
theorem fr1 {K : PySem.W.Frag} {H : Hp} {v : V} {x : Fq} {Q : VK} (h : Fr H v x) (q : Q (.int x.2) H) : rIx K v (.int 1) H Q := by
  obtain ⟨t, rfl, z⟩ := h
  exact .inr (.inl ⟨t, _, 1, _, rfl, rfl, SqT.of z, two1, q⟩)
def sp_low : Sp := fun vs H Q _ => ∃ a b : Int, vs = [.int a, .int b] ∧ 0 < b ∧ b.natAbs < 2 ^ 8001 ∧ ∀ H' v, Same H H' → Fr H' v (low a b) → Q v H'
def sp_num (g : Fq → Fq → Fq) : Sp := fun vs H Q _ => ∃ u v x y, vs = [u, v] ∧ Fr H u x ∧ Fr H v y ∧ Small 4000 x ∧ Small 4000 y ∧ ∀ H' r, Same H H' → Fr H' r (g x y) → Q r H'
theorem gcd_bit {a b : Int} (h : 0 < b) : 0 < ((Nat.gcd a.natAbs b.natAbs : Nat) : Int) ∧ Nat.gcd a.natAbs b.natAbs ≤ b.natAbs := by
  have h1 : 0 < b.natAbs := by omega
  have h2 := Nat.gcd_pos_of_pos_right a.natAbs h1
  exact ⟨by omega, Nat.le_of_dvd h1 (Nat.gcd_dvd_right _ _)⟩
section
variable {P : Program} {w : World} {K : PySem.W.Frag} {mg : Str → Option Value} {base : Heap}
theorem ok_lowest_terms (D : Df K mg "lowest_terms" s_lowest_terms ["top", "bottom"]) (B : Bi mg)  : Cal P w K mg base 1 "lowest_terms" sp_low := by
  obtain ⟨f, fd, F, m, b⟩ := D.ex
  have sc := sc_lowest_terms
  refine ⟨f, fd, _, F.ok sc (fun _ _ _ _ ⟨_, _, e, _⟩ => by rw [e]; rfl) (fun cdv A outer s H vs Q E hr h => ?_), m, F.kp, b⟩
  obtain ⟨x, y, rfl, h0, h1, q⟩ := h
  refine ⟨_, (pss_cons (ps_set (i := 2) sc.nd rfl (Or.inl rfl) (pe_callBfun cr_gcd (by rfl) B.gcd (pa_cons (pv 0) (pa_cons (pv 1) pa_nil))))
      (pss_one (ps_ret (pe_tup (pa_cons (pe_op op_fdivW (pv 0) (pv 2)) (pa_cons (pe_op op_fdivW (pv 1) (pv 2)) pa_nil)))))), ?_⟩
  have g := gcd_bit (a := x) h0
  have gb : ∀ i : Int, CDivW i ((Nat.gcd x.natAbs y.natAbs : Nat) : Int) := fun i => wide_div (b := 8001) g.1 (Nat.lt_of_le_of_lt g.2 h1) (by decide) (by decide)
  refine ⟨_, rfl, _, rfl, x, y, rfl, ?_⟩
  refine ⟨_, rfl, _, rfl, _, _, rfl, rfl, gb x, _, rfl, _, rfl, _, _, rfl, rfl, gb y, ?_⟩
  exact ⟨(by show (2 : Nat) ≤ sizeLine; decide), fun p hp => q _ _ (Same.upd_new hp) Fr.new⟩
end
end Ft

namespace Ft
open PySem L2
section
variable {P : Program} {w : World} {K : PySem.W.Frag} {mg : Str → Option Value} {base : Heap}
theorem mulS {i j : Int} (h1 : i.natAbs < 2 ^ 4000) (h2 : j.natAbs < 2 ^ 4000) : CMulW i j := wide_mul h1 h2 (by decide) (by decide) (by decide)
theorem ok_number_product (D : Df K mg "number_product" s_number_product ["one", "other"]) (c_lowest_terms : Cal P w K mg base 1 "lowest_terms" sp_low) : Cal P w K mg base 2 "number_product" (sp_num nprod) := by
  obtain ⟨f, fd, F, m, b⟩ := D.ex
  have sc := sc_number_product
  refine ⟨f, fd, _, F.ok sc (fun _ _ _ _ ⟨_, _, _, _, e, _⟩ => by rw [e]; rfl) (fun cdv A outer s H vs Q E hr h => ?_), m, F.kp, b⟩
  obtain ⟨u, v, x, y, rfl, hu, hv, sx, sy, q⟩ := h
  refine ⟨_, (pss_one (ps_ret (pe_c c_lowest_terms hr (by decide) (by rfl) (pa_cons (pe_op op_mulW (pe_ix ix_seq (pv 0) pe_int (fun _ _ => rfl)) (pe_ix ix_seq (pv 1) pe_int (fun _ _ => rfl))) (pa_cons (pe_op op_mulW (pe_ix ix_seq (pv 0) pe_int (fun _ _ => rfl)) (pe_ix ix_seq (pv 1) pe_int (fun _ _ => rfl))) pa_nil))))), ?_⟩
  refine ⟨_, rfl, fr0 hu ⟨_, rfl, fr0 hv ⟨_, _, rfl, rfl, mulS sx.1 sy.1, ?_⟩⟩⟩
  refine ⟨_, rfl, fr1 hu ⟨_, rfl, fr1 hv ⟨_, _, rfl, rfl, mulS sx.2.1 sy.2.1, ?_⟩⟩⟩
  exact ⟨_, _, rfl, Int.mul_pos sx.2.2 sy.2.2, Nat.lt_trans (wide_lt sx.2.1 sy.2.1) (Nat.pow_lt_pow_right (by decide) (by decide)), q⟩
theorem ok_number_sum (D : Df K mg "number_sum" s_number_sum ["one", "other"]) (c_lowest_terms : Cal P w K mg base 1 "lowest_terms" sp_low) : Cal P w K mg base 2 "number_sum" (sp_num nsum) := by
  obtain ⟨f, fd, F, m, b⟩ := D.ex
  have sc := sc_number_sum
  refine ⟨f, fd, _, F.ok sc (fun _ _ _ _ ⟨_, _, _, _, e, _⟩ => by rw [e]; rfl) (fun cdv A outer s H vs Q E hr h => ?_), m, F.kp, b⟩
  obtain ⟨u, v, x, y, rfl, hu, hv, sx, sy, q⟩ := h
  refine ⟨_, (pss_one (ps_ret (pe_c c_lowest_terms hr (by decide) (by rfl) (pa_cons (pe_op op_add (pe_op op_mulW (pe_ix ix_seq (pv 0) pe_int (fun _ _ => rfl)) (pe_ix ix_seq (pv 1) pe_int (fun _ _ => rfl))) (pe_op op_mulW (pe_ix ix_seq (pv 1) pe_int (fun _ _ => rfl)) (pe_ix ix_seq (pv 0) pe_int (fun _ _ => rfl)))) (pa_cons (pe_op op_mulW (pe_ix ix_seq (pv 0) pe_int (fun _ _ => rfl)) (pe_ix ix_seq (pv 1) pe_int (fun _ _ => rfl))) pa_nil))))), ?_⟩
  refine ⟨_, rfl, fr0 hu ⟨_, rfl, fr1 hv ⟨_, _, rfl, rfl, mulS sx.1 sy.2.1, ?_⟩⟩⟩
  refine ⟨_, rfl, fr0 hv ⟨_, rfl, fr1 hu ⟨_, _, rfl, rfl, mulS sy.1 sx.2.1, ?_⟩⟩⟩
  refine ⟨_, _, rfl, rfl, ?_⟩
  refine ⟨_, rfl, fr1 hu ⟨_, rfl, fr1 hv ⟨_, _, rfl, rfl, mulS sx.2.1 sy.2.1, ?_⟩⟩⟩
  exact ⟨_, _, rfl, Int.mul_pos sx.2.2 sy.2.2, Nat.lt_trans (wide_lt sx.2.1 sy.2.1) (Nat.pow_lt_pow_right (by decide) (by decide)), q⟩
end
end Ft

set_option exponentiation.threshold 9000
namespace Ft
open PySem L2
/-! ### powers -/
def sp_raised : Sp := fun vs H Q _ => ∃ b e : Nat, vs = [.int (b : Int), .int (e : Int)] ∧ 0 < b ∧ b ^ e < 2 ^ 4000 ∧ Q (.int ((b ^ e : Nat) : Int)) H
def sp_power : Sp := fun vs H Q _ => ∃ b e : Nat, vs = [.int (b : Int), .int (e : Int)] ∧ 0 < b ∧ e ≤ 4000 ∧ b ^ e < 2 ^ 4000 ∧ Q (.int ((b ^ e : Nat) : Int)) H
theorem sq_pow (s q : Nat) : (s * s) ^ q = s ^ (2 * q) := by rw [Nat.mul_pow, ← Nat.pow_add, Nat.two_mul]
theorem pow_even {s e : Nat} (h : e % 2 = 0) : (s * s) ^ (e / 2) = s ^ e := by
  rw [sq_pow]; congr 1; omega
theorem pow_odd {s e : Nat} (h : e % 2 = 1) : s * (s * s) ^ (e / 2) = s ^ e := by
  have e1 : e = 2 * (e / 2) + 1 := by omega
  rw [sq_pow, Nat.mul_comm]
  exact (Nat.pow_succ (n := s) (m := 2 * (e / 2))).symm.trans (congrArg (s ^ ·) e1.symm)
theorem natS {n : Nat} (h : n < 2 ^ 4000) : ((n : Int)).natAbs < 2 ^ 4000 := h
/-- the number of turns left, by slot 1 -/
theorem mul_le_of {r s M : Nat} (h : r * s = M) (hr : 0 < r) (hs : 0 < s) : r ≤ M ∧ s ≤ M := by
  subst h
  exact ⟨Nat.le_mul_of_pos_right _ hs, Nat.le_mul_of_pos_left _ hr⟩
section
variable {P : Program} {w : World} {K : PySem.W.Frag} {mg : Str → Option Value} {base : Heap}
theorem ok_raised (D : Df K mg "raised" s_raised ["base", "exponent"]) : Cal P w K mg base 1 "raised" sp_raised := by
  obtain ⟨f, fd, F, m, b⟩ := D.ex
  have sc := sc_raised
  refine ⟨f, fd, _, F.ok sc (fun _ _ _ _ ⟨_, _, e, _⟩ => by rw [e]; rfl) (fun cdv A outer s H vs Q E hr h => ?_), m, F.kp, b⟩
  obtain ⟨x, n, rfl, hx, hM, q⟩ := h
  refine ⟨_, (pss_cons (ps_set (i := 2) sc.nd rfl (Or.inl rfl) pe_int)
      (pss_cons (ps_set (i := 3) sc.nd rfl (Or.inl rfl) (pv 0))
      (pss_cons (ps_while PassesOwn.never (pt_cmpR op_gt (pv 1) pe_int (nomark _))
      (pss_cons (ps_if (pt_cmpR op_eq (pe_op op_mod (pv 1) pe_int) pe_int (nomark _))
        (pss_one (ps_set (i := 2) sc.nd rfl (Or.inl rfl) (pe_op op_mulW (pv 2) (pv 3))))
        pss_nil)
        (pss_cons (ps_set (i := 3) sc.nd rfl (Or.inl rfl) (pe_op op_mulW (pv 3) (pv 3)))
        (pss_one (ps_set (i := 1) sc.nd rfl (Or.inl rfl) (pe_op op_fdivW (pv 1) pe_int))))))
      (pss_one (ps_ret (pv 2)))))), ?_⟩
  generalize hMM : x ^ n = M at hM q
  refine ⟨_, rfl, ?_⟩
  refine while_go (fun σ H' => H = H' ∧ ∃ (e r s : Nat), σ = [some (.int (x : Nat)), some (.int (e : Nat)), some (.int (r : Nat)), some (.int (s : Nat))] ∧ 0 < r ∧ 0 < s ∧ r * s ^ e = M) (fun σ _ => m0 1 σ)
    ⟨rfl, n, 1, x, rfl, by decide, hx, by rw [Nat.one_mul]; exact hMM⟩ ?_
  rintro σ _ ⟨rfl, e, r, t, rfl, r0, t0, hm⟩
  have hp : 0 < t ^ e := Nat.pow_pos t0
  have lr := mul_le_of hm r0 hp
  have rS : ((r : Int)).natAbs < 2 ^ 4000 := Nat.lt_of_le_of_lt lr.1 hM
  refine ⟨_, rfl, _, _, rfl, rfl, _, rfl, ifD (fun h => ?_) fun h => ?_⟩
  · have e0 : e ≠ 0 := by omega
    have tS : ((t : Int)).natAbs < 2 ^ 4000 := Nat.lt_of_le_of_lt (Nat.le_trans (Nat.le_self_pow e0 t) lr.2) hM
    refine ⟨fun σ' H' => H = H' ∧ ∃ (e' r s : Nat), σ' = [some (.int (x : Nat)), some (.int (e' : Nat)), some (.int (r : Nat)), some (.int (s : Nat))] ∧ 0 < r ∧ 0 < s ∧ r * s ^ e' = M ∧ e' < e, ?_, ?_⟩
    · rintro σ' _ ⟨rfl, e', r', s', rfl, h1, h2, h3, h4⟩
      exact ⟨_, (by show ((e' : Int)).toNat < ((e : Int)).toNat; omega), rfl, rfl, e', r', s', rfl, h1, h2, h3⟩
    refine ⟨_, rfl, _, _, rfl, rfl, (by show (0 : Int) < 2; decide), rfl, _, rfl, ifI (fun k => ?_) fun k => ?_⟩
    · have k' : e % 2 = 1 := by omega
      refine ⟨_, rfl, _, rfl, _, _, rfl, rfl, mulS rS tS, ?_⟩
      refine ⟨_, rfl, _, rfl, _, _, rfl, rfl, mulS tS tS, ?_⟩
      refine ⟨_, rfl, _, _, rfl, rfl, ⟨by decide, by decide⟩, ?_⟩
      refine ⟨rfl, e / 2, r * t, t * t, rfl, Nat.mul_pos r0 t0, Nat.mul_pos t0 t0, ?_, by omega⟩
      rw [Nat.mul_assoc, pow_odd k']
      exact hm
    · have k' : e % 2 = 0 := by omega
      refine ⟨_, rfl, _, rfl, _, _, rfl, rfl, mulS tS tS, ?_⟩
      refine ⟨_, rfl, _, _, rfl, rfl, ⟨by decide, by decide⟩, ?_⟩
      refine ⟨rfl, e / 2, r, t * t, rfl, r0, Nat.mul_pos t0 t0, ?_, by omega⟩
      rw [pow_even k']
      exact hm
  · have e0 : e = 0 := by omega
    subst e0
    rw [Nat.pow_zero, Nat.mul_one] at hm
    subst hm
    exact ⟨_, rfl, q⟩
end
/-- the sum of the powers, by the values of a sign -/
def psumTo (s : Int) (e : Nat) : Nat → Int
  | 0 => 0
  | n + 1 => psumTo s e n + valueAt s (1 + (n : Int)) * (((1 + n) ^ e : Nat) : Int)
def psum (s : Int) (e : Nat) : Int := psumTo s e s.natAbs
theorem mul_one {a b : Int} (h1 : a.natAbs ≤ 1) (h2 : b.natAbs ≤ 1) : (a * b).natAbs ≤ 1 := by
  rw [Int.natAbs_mul]
  exact Nat.mul_le_mul h1 h2
theorem twos_one {z : Int} (hz : z.natAbs ≤ 1) : ∀ (f r : Nat) (v : Int), v.natAbs ≤ 1 → (twos z f r v).2.natAbs ≤ 1
  | 0, r, v, h => h
  | f + 1, r, v, h => by
    by_cases e : r % 2 = 0
    · rw [twos_go e]
      exact twos_one hz f (r / 2) (v * z) (mul_one h hz)
    · rw [twos_stop e]
      exact h
theorem valueAt_one (s n : Int) : (valueAt s n).natAbs ≤ 1 := by
  unfold valueAt valueRest
  split
  · split <;> decide
  · refine mul_one (twos_one ?_ _ _ _ (by decide)) ?_
    · have := valueTwo_le s
      omega
    · unfold valueOdd sg
      dsimp only
      split
      · split <;> decide
      · decide
section
variable {P : Program} {w : World} {K : PySem.W.Frag} {mg : Str → Option Value} {base : Heap}
def sp_psum : Sp := fun vs H Q _ => ∃ (s : Int) (e : Nat), vs = [.int s, .int (e : Int)] ∧ s ≠ 0 ∧ s.natAbs ≤ 400 ∧ e ≤ 24 ∧ Q (.int (psum s e)) H
theorem pow_400 {a e : Nat} (ha : a ≤ 400) (he : e ≤ 24) : a ^ e < 2 ^ 4000 :=
  Nat.lt_of_le_of_lt (Nat.le_trans (Nat.pow_le_pow_left ha e) (Nat.pow_le_pow_right (by decide) he)) (Nat.lt_of_lt_of_le (show 400 ^ 24 < 2 ^ 256 by decide) (Nat.pow_le_pow_right (by decide) (by decide)))
theorem ok_power_sum (D : Df K mg "power_sum" s_power_sum ["sign", "e"]) (B : Bi mg) (c_value_at : Cal P w K mg base 2 "value_at" sp_value_at) (c_raised : Cal P w K mg base 1 "raised" sp_raised) : Cal P w K mg base 3 "power_sum" sp_psum := by
  obtain ⟨f, fd, F, m, b⟩ := D.ex
  have sc := sc_power_sum
  refine ⟨f, fd, _, F.ok sc (fun _ _ _ _ ⟨_, _, e, _⟩ => by rw [e]; rfl) (fun cdv A outer s H vs Q E hr h => ?_), m, F.kp, b⟩
  obtain ⟨z, e, rfl, z0, hz, he, q⟩ := h
  refine ⟨_, (pss_cons (ps_set (i := 2) sc.nd rfl (Or.inl rfl) pe_int)
      (pss_cons (ps_for PassesOwn.never rfl (pi_range2 (by rfl) B.range (pa_cons pe_int (pa_cons (pe_op op_add (pe_callB call_abs (by rfl) B.abs (by decide +kernel) (pa_cons (pv 0) pa_nil)) pe_int) pa_nil))) (pg_name (i := 3) sc.nd rfl (Or.inl rfl))
      (pss_one (ps_aug (i := 2) sc.nd rfl (Or.inl rfl) (pe_op op_mulW (pe_c c_value_at hr (by decide) (by rfl) (pa_cons (pv 0) (pa_cons (pv 3) pa_nil))) (pe_c c_raised hr (by decide) (by rfl) (pa_cons (pv 3) (pa_cons (pv 1) pa_nil)))) ip_add)))
      (pss_one (ps_ret (pv 2))))), ?_⟩
  have ea : (if z < 0 then -z else z) = (z.natAbs : Int) := by split <;> omega
  refine ⟨_, rfl, z, rfl, _, _, rfl, rfl, 1, _, rfl, (by rw [ea]; omega), ?_⟩
  rw [ea]
  refine for_range (lo := 1) (n := ((z.natAbs : Int) + 1 - 1).toNat) (fun i σ H' => H = H' ∧ ∃ o : Option V, σ = [some (.int z), some (.int (e : Nat)), some (.int (psumTo z e i)), o]) ⟨rfl, none, rfl⟩ ?_ ?_
  · rintro i σ _ hi ⟨rfl, o, rfl⟩
    have hin : i < z.natAbs := by omega
    have hp : (1 + i) ^ e < 2 ^ 4000 := pow_400 (by omega) he
    refine ⟨_, rfl, _, rfl, _, rfl, z, _, rfl, z0, ?_⟩
    refine ⟨_, rfl, _, rfl, 1 + i, e, ?_, by omega, hp, ?_⟩
    · show [V.int ((1 : Int) + (i : Int)), V.int (e : Int)] = _
      rw [Int.natCast_add]; rfl
    refine ⟨_, _, rfl, rfl, wide_mul (a := 4000) (b := 4000) (Nat.lt_of_le_of_lt (valueAt_one z _) (Nat.one_lt_two_pow (by decide))) hp (by decide) (by decide) (by decide), ?_⟩
    exact ⟨_, _, rfl, rfl, rfl, some (V.int (1 + (i : Int))), rfl⟩
  · rintro σ _ ⟨rfl, o, rfl⟩
    have e1 : ((z.natAbs : Int) + 1 - 1).toNat = z.natAbs := by omega
    rw [e1]
    exact ⟨_, rfl, q⟩
end
end Ft

set_option exponentiation.threshold 9000
namespace Ft
open PySem L2
/-! ### Bernoulli's numbers, with bounds on the way -/
def smallB (x : Fq) : Bool := Nat.blt x.1.natAbs (2 ^ 4000) && Nat.blt x.2.natAbs (2 ^ 4000) && decide (0 < x.2)
theorem smallB_of {x : Fq} (h : smallB x = true) : Small 4000 x := by
  unfold smallB at h
  simp only [Bool.and_eq_true, decide_eq_true_eq, Nat.blt_eq] at h
  exact ⟨h.1.1, h.1.2, h.2⟩
def plainIn (n : Nat) : Nat → List Fq → Fq → Option Fq
  | _, [], t => some t
  | i, p :: ps, t =>
    if smallB (PySem.W.mcComb ((n : Int) + 1) (i : Int), 1) && smallB (nprod p (PySem.W.mcComb ((n : Int) + 1) (i : Int), 1)) && smallB (nsum t (nprod p (PySem.W.mcComb ((n : Int) + 1) (i : Int), 1))) then
      plainIn n (i + 1) ps (nsum t (nprod p (PySem.W.mcComb ((n : Int) + 1) (i : Int), 1)))
    else none
def plainTo : Nat → Option (List Fq)
  | 0 => some [(1, 1)]
  | k + 1 => match plainTo k with
    | none => none
    | some l => match plainIn (k + 1) 0 l (0, 1) with
      | none => none
      | some t => if smallB (nprod t (-1, ((k + 1 : Nat) : Int) + 1)) then some (l ++ [nprod t (-1, ((k + 1 : Nat) : Int) + 1)]) else none
def bernGo (m : Nat) (k : Nat) (P : Nat → Int) : Nat → List Fq → Fq → Option Fq
  | _, [], t => some t
  | i, p :: ps, t =>
    if smallB (P (k - i), 1) && smallB (PySem.W.mcComb (k : Int) (i : Int) * ((m ^ i : Nat) : Int), 1) && smallB (PySem.W.mcComb (k : Int) (i : Int) * ((m ^ i : Nat) : Int) * P (k - i), (m : Int)) && smallB (nprod p (PySem.W.mcComb (k : Int) (i : Int) * ((m ^ i : Nat) : Int) * P (k - i), (m : Int))) &&
      smallB (nsum t (nprod p (PySem.W.mcComb (k : Int) (i : Int) * ((m ^ i : Nat) : Int) * P (k - i), (m : Int)))) then
      bernGo m k P (i + 1) ps (nsum t (nprod p (PySem.W.mcComb (k : Int) (i : Int) * ((m ^ i : Nat) : Int) * P (k - i), (m : Int))))
    else none
theorem plain_small : ∀ (k : Nat) (l : List Fq), plainTo k = some l → l.length = k + 1 ∧ ∀ x ∈ l, Small 4000 x
  | 0, l, h => by
    obtain rfl : [((1 : Int), (1 : Int))] = l := Option.some.inj h
    refine ⟨rfl, fun x hx => ?_⟩
    obtain rfl := List.mem_singleton.mp hx
    exact smallB_of (by decide +kernel)
  | k + 1, l, h => by
    unfold plainTo at h
    split at h
    · cases h
    · rename_i l0 h0
      have ih := plain_small k l0 h0
      split at h
      · cases h
      · split at h
        · rename_i hs
          obtain rfl := Option.some.inj h
          refine ⟨by rw [List.length_append, ih.1]; rfl, fun x hx => ?_⟩
          rcases List.mem_append.mp hx with hx | hx
          · exact ih.2 x hx
          · obtain rfl := List.mem_singleton.mp hx
            exact smallB_of hs
        · cases h
theorem plain_all : (List.range 25).all (fun i => (plainTo i).isSome) = true := by decide +kernel
theorem plain_some {k : Nat} (h : k ≤ 24) : ∃ l, plainTo k = some l := by
  have c := List.all_eq_true.mp plain_all k (List.mem_range.mpr (by omega))
  cases e : plainTo k with
  | none => rw [e] at c; cases c
  | some l => exact ⟨l, rfl⟩
theorem plain_step {k : Nat} {l' : List Fq} (h : plainTo (k + 1) = some l') : ∃ l R, plainTo k = some l ∧ plainIn (k + 1) 0 l (0, 1) = some R ∧ Small 4000 (nprod R (-1, ((k + 1 : Nat) : Int) + 1)) ∧ l' = l ++ [nprod R (-1, ((k + 1 : Nat) : Int) + 1)] := by
  unfold plainTo at h
  split at h
  · cases h
  · rename_i l0 h0
    split at h
    · cases h
    · rename_i R hR
      split at h
      · rename_i hs
        exact ⟨l0, R, h0, hR, smallB_of hs, (Option.some.inj h).symm⟩
      · cases h
theorem plainIn_step {n i : Nat} {p : Fq} {ps : List Fq} {t R : Fq} (h : plainIn n i (p :: ps) t = some R) :
    Small 4000 (PySem.W.mcComb ((n : Int) + 1) (i : Int), 1) ∧ Small 4000 (nprod p (PySem.W.mcComb ((n : Int) + 1) (i : Int), 1)) ∧ Small 4000 (nsum t (nprod p (PySem.W.mcComb ((n : Int) + 1) (i : Int), 1))) ∧
      plainIn n (i + 1) ps (nsum t (nprod p (PySem.W.mcComb ((n : Int) + 1) (i : Int), 1))) = some R := by
  unfold plainIn at h
  split at h
  · rename_i c
    simp only [Bool.and_eq_true] at c
    exact ⟨smallB_of c.1.1, smallB_of c.1.2, smallB_of c.2, h⟩
  · cases h
theorem bernGo_step {m k : Nat} {P : Nat → Int} {i : Nat} {p : Fq} {ps : List Fq} {t R : Fq} (h : bernGo m k P i (p :: ps) t = some R) :
    (P (k - i)).natAbs < 2 ^ 4000 ∧ (PySem.W.mcComb (k : Int) (i : Int) * ((m ^ i : Nat) : Int)).natAbs < 2 ^ 4000 ∧ Small 4000 (PySem.W.mcComb (k : Int) (i : Int) * ((m ^ i : Nat) : Int) * P (k - i), (m : Int)) ∧
      Small 4000 (nprod p (PySem.W.mcComb (k : Int) (i : Int) * ((m ^ i : Nat) : Int) * P (k - i), (m : Int))) ∧ Small 4000 (nsum t (nprod p (PySem.W.mcComb (k : Int) (i : Int) * ((m ^ i : Nat) : Int) * P (k - i), (m : Int)))) ∧
      bernGo m k P (i + 1) ps (nsum t (nprod p (PySem.W.mcComb (k : Int) (i : Int) * ((m ^ i : Nat) : Int) * P (k - i), (m : Int)))) = some R := by
  unfold bernGo at h
  split at h
  · rename_i c
    simp only [Bool.and_eq_true] at c
    exact ⟨(smallB_of c.1.1.1.1).1, (smallB_of c.1.1.1.2).1, smallB_of c.1.1.2, smallB_of c.1.2, smallB_of c.2, h⟩
  · cases h
/-- the values us are the numbers l -/
def Frs (H : Hp) (us : List V) (l : List Fq) : Prop := us.length = l.length ∧ ∀ (i : Nat) (u : V) (x : Fq), us[i]? = some u → l[i]? = some x → Fr H u x
theorem Frs.same {H H' : Hp} {us : List V} {l : List Fq} (h : Frs H us l) (s : Same H H') : Frs H' us l := ⟨h.1, fun i u x e1 e2 => (h.2 i u x e1 e2).same s⟩
theorem Frs.one {H : Hp} {v : V} {x : Fq} (h : Fr H v x) : Frs H [v] [x] := by
  refine ⟨rfl, fun i u y e1 e2 => ?_⟩
  cases i with
  | zero =>
    obtain rfl := Option.some.inj e1
    obtain rfl := Option.some.inj e2
    exact h
  | succ i => cases e1
theorem Frs.snoc {H : Hp} {us : List V} {l : List Fq} {v : V} {x : Fq} (h : Frs H us l) (hv : Fr H v x) : Frs H (us ++ [v]) (l ++ [x]) := by
  refine ⟨by rw [List.length_append, List.length_append, h.1]; rfl, fun i u y e1 e2 => ?_⟩
  rcases Nat.lt_or_ge i us.length with hi | hi
  · rw [List.getElem?_append_left hi] at e1
    rw [List.getElem?_append_left (by rw [← h.1]; exact hi)] at e2
    exact h.2 i u y e1 e2
  · rw [List.getElem?_append_right hi] at e1
    rw [List.getElem?_append_right (by rw [← h.1]; exact hi)] at e2
    rw [← h.1] at e2
    exact (Frs.one hv).2 _ u y e1 e2
theorem Frs.get {H : Hp} {us : List V} {l : List Fq} (h : Frs H us l) {i : Nat} (hi : i < us.length) : ∃ u x, us[i]? = some u ∧ l[i]? = some x ∧ Fr H u x ∧ x ∈ l ∧ l.drop i = x :: l.drop (i + 1) := by
  have hl : i < l.length := by rw [← h.1]; exact hi
  refine ⟨us[i], l[i], List.getElem?_eq_getElem hi, List.getElem?_eq_getElem hl, h.2 i _ _ (List.getElem?_eq_getElem hi) (List.getElem?_eq_getElem hl), List.getElem_mem hl, ?_⟩
  exact List.drop_eq_getElem_cons hl
def sp_plain : Sp := fun vs H Q _ => ∃ (k : Nat) (l : List Fq), vs = [.int (k : Int)] ∧ k ≤ 24 ∧ plainTo k = some l ∧ ∀ H' p us, Same H H' → H' p = some (.lst us) → Frs H' us l → Q (.ref p) H'
section
variable {P : Program} {w : World} {K : PySem.W.Frag} {mg : Str → Option Value} {base : Heap}
theorem ok_plain_numbers (D : Df K mg "plain_numbers" s_plain_numbers ["k"]) (B : Bi mg) (c_number_sum : Cal P w K mg base 2 "number_sum" (sp_num nsum)) (c_number_product : Cal P w K mg base 2 "number_product" (sp_num nprod)) : Cal P w K mg base 3 "plain_numbers" sp_plain := by
  obtain ⟨f, fd, F, m, b⟩ := D.ex
  have sc := sc_plain_numbers
  refine ⟨f, fd, _, F.ok sc (fun _ _ _ _ ⟨_, _, e, _⟩ => by rw [e]; rfl) (fun cdv A outer s H vs Q E hr h => ?_), m, F.kp, b⟩
  obtain ⟨k, l, rfl, hk, hl, q⟩ := h
  refine ⟨_, (pss_cons (ps_set (i := 1) sc.nd rfl (Or.inl rfl) (pe_lst (pa_cons (pe_tup (pa_cons pe_int (pa_cons pe_int pa_nil))) pa_nil)))
      (pss_cons (ps_for PassesOwn.never rfl (pi_range2 (by rfl) B.range (pa_cons pe_int (pa_cons (pe_op op_add (pv 0) pe_int) pa_nil))) (pg_name (i := 2) sc.nd rfl (Or.inl rfl))
      (pss_cons (ps_set (i := 3) sc.nd rfl (Or.inl rfl) (pe_tup (pa_cons pe_int (pa_cons pe_int pa_nil))))
        (pss_cons (ps_for PassesOwn.never rfl (pi_enum (by rfl) B.enumerate (pa_cons (pv 1) pa_nil)) (pg_tup rfl (pgs_cons (pg_name (i := 4) sc.nd rfl (Or.inl rfl)) (pgs_cons (pg_name (i := 5) sc.nd rfl (Or.inl rfl)) pgs_nil)))
        (pss_one (ps_set (i := 3) sc.nd rfl (Or.inl rfl) (pe_c c_number_sum hr (by decide) (by rfl) (pa_cons (pv 3) (pa_cons (pe_c c_number_product hr (by decide) (by rfl) (pa_cons (pv 5) (pa_cons (pe_tup (pa_cons (pe_callBfun cr_comb (by rfl) B.comb (pa_cons (pe_op op_add (pv 2) pe_int) (pa_cons (pv 4) pa_nil))) (pa_cons pe_int pa_nil))) pa_nil))) pa_nil))))))
        (pss_one (ps_expr (pe_bm PySem.F.plainAttrs_list PySem.F.slot_list_append PySem.F.type_list_append mt_append (pv 1) (pa_cons (pe_c c_number_product hr (by decide) (by rfl) (pa_cons (pv 3) (pa_cons (pe_tup (pa_cons (pe_un un_neg pe_int) (pa_cons (pe_op op_add (pv 2) pe_int) pa_nil))) pa_nil))) pa_nil)))))))
      (pss_one (ps_ret (pv 1))))), ?_⟩
  refine ⟨(by show (2 : Nat) ≤ sizeLine; decide), fun p1 hp1 => ?_⟩
  have s1 : Same H (upd H p1 (.tup [V.int 1, V.int 1])) := Same.upd_new hp1
  have f1 : Fr (upd H p1 (.tup [V.int 1, V.int 1])) (.ref p1) (1, 1) := Fr.new
  generalize hH1 : upd H p1 (.tup [V.int 1, V.int 1]) = H1 at s1 f1
  refine ⟨(by show (1 : Nat) ≤ sizeLine; decide), fun p hp => ?_⟩
  have s2 : Same H1 (upd H1 p (.lst [V.ref p1])) := Same.upd_new hp
  have hpl : (upd H1 p (.lst [V.ref p1])) p = some (.lst [V.ref p1]) := upd_same
  generalize hH2 : upd H1 p (.lst [V.ref p1]) = H2 at s2 hpl
  have hp0 : H p = none := s1.free hp
  have s02 : Same H H2 := s1.trans s2
  refine ⟨_, rfl, _, _, rfl, rfl, 1, _, rfl, (by omega), ?_⟩
  refine for_range (lo := 1) (n := ((k : Int) + 1 - 1).toNat) (fun i σ H' => Same H H' ∧ ∃ (us : List V) (l : List Fq) (o1 o2 o3 o4 : Option V), σ = [some (.int (k : Int)), some (.ref p), o1, o2, o3, o4] ∧ H' p = some (.lst us) ∧ Frs H' us l ∧ plainTo i = some l) ⟨s02, [V.ref p1], [(1, 1)], none, none, none, none, rfl, hpl, (Frs.one f1).same s2, rfl⟩ ?_ ?_
  · rintro i σ H3 hi ⟨s3, us, l3, o1, o2, o3, o4, rfl, hp3, hf3, hl3⟩
    have hik : i < k := by omega
    obtain ⟨l4, hl4⟩ := plain_some (show i + 1 ≤ 24 by omega)
    obtain ⟨l3', R, e3, hR, hRs, rfl⟩ := plain_step hl4
    obtain rfl : l3 = l3' := Option.some.inj (hl3.symm.trans e3)
    have sm := plain_small i l3 hl3
    refine ⟨(by show (2 : Nat) ≤ sizeLine; decide), fun p4 hp4 => ?_⟩
    have s4 : Same H3 (upd H3 p4 (.tup [V.int 0, V.int 1])) := Same.upd_new hp4
    have f4 : Fr (upd H3 p4 (.tup [V.int 0, V.int 1])) (.ref p4) (0, 1) := Fr.new
    generalize hH4 : upd H3 p4 (.tup [V.int 0, V.int 1]) = H4 at s4 f4
    have hp4' := s4 _ _ hp3
    refine ⟨_, rfl, p, _, rfl, SqL.of hp4', ?_⟩
    refine for_it (walk_enum (xs := us)) (fun j σ H' => Same H4 H' ∧ ∃ (v : V) (t : Fq) (o3 o4 : Option V), σ = [some (.int (k : Int)), some (.ref p), some (.int (1 + (i : Int))), some v, o3, o4] ∧ Fr H' v t ∧ Small 4000 t ∧ plainIn (i + 1) j (l3.drop j) t = some R) ⟨Same.refl _, _, _, _, _, rfl, f4, smallB_of (by decide +kernel), hR⟩ (fun j σ H' _ ⟨s5, _⟩ => SqL.of (s5 _ _ hp4')) ?_ ?_
    · rintro j x σ H5 H6 hj ⟨s5, v, t, o3, o4, rfl, fv, tS, hin⟩ ⟨T, u, y, rfl, hT, rfl, hu, hy⟩
      obtain rfl : u = V.int (j : Nat) := (Option.some.inj hu).symm
      obtain ⟨y', x, hy', hx, _, hxm, hdrop⟩ := hf3.get hj
      obtain rfl : y = y' := Option.some.inj (hy.symm.trans hy')
      have fy : Fr H3 y x := hf3.2 j y x hy' hx
      rw [hdrop] at hin
      obtain ⟨k1, k2, k3, k4⟩ := plainIn_step hin
      have s6 : Same H5 (upd H5 T (.tup [V.int (j : Nat), y])) := Same.upd_new hT
      have hTT : (upd H5 T (.tup [V.int (j : Nat), y])) T = some (.tup [V.int (j : Nat), y]) := upd_same
      generalize hH6 : upd H5 T (.tup [V.int (j : Nat), y]) = H6 at s6 hTT
      refine ⟨T, _, rfl, SqT.of hTT, rfl, ?_⟩
      refine ⟨_, _, rfl, _, _, rfl, rfl, ?_⟩
      have sl := sm.1
      have ul := hf3.1
      have ci : (1 : Int) + (i : Int) + 1 = ((i + 1 : Nat) : Int) + 1 := by omega
      refine ⟨_, rfl, _, rfl, _, rfl, _, _, rfl, rfl, _, rfl, _, _, rfl, (by omega), (by omega), (by omega), ?_⟩
      refine ⟨(by show (2 : Nat) ≤ sizeLine; decide), fun p5 hp5 => ?_⟩
      rw [ci]
      have s7 : Same H6 (upd H6 p5 (.tup [V.int (PySem.W.mcComb (((i + 1 : Nat) : Int) + 1) (j : Int)), V.int 1])) := Same.upd_new hp5
      have f7 : Fr (upd H6 p5 (.tup [V.int (PySem.W.mcComb (((i + 1 : Nat) : Int) + 1) (j : Int)), V.int 1])) (.ref p5) (PySem.W.mcComb (((i + 1 : Nat) : Int) + 1) (j : Int), 1) := Fr.new
      generalize hH7 : upd H6 p5 (.tup [V.int (PySem.W.mcComb (((i + 1 : Nat) : Int) + 1) (j : Int)), V.int 1]) = H7 at s7 f7
      have s37 : Same H3 H7 := s4.trans (s5.trans (s6.trans s7))
      refine ⟨_, _, x, _, rfl, fy.same s37, f7, sm.2 x hxm, k1, fun H8 r s8 f8 => ?_⟩
      refine ⟨_, _, t, _, rfl, fv.same (s6.trans (s7.trans s8)), f8, tS, k2, fun H9 r9 s9 f9 => ?_⟩
      exact ⟨s5.trans (s6.trans (s7.trans (s8.trans s9))), _, _, _, _, rfl, f9, k3, k4⟩
    · rintro σ H5 ⟨s5, v, t, o3, o4, rfl, fv, tS, hin⟩
      have hd : l3.drop us.length = [] := by rw [hf3.1]; exact List.drop_length
      rw [hd] at hin
      obtain rfl : t = R := Option.some.inj hin
      have hp5 := s5 _ _ hp4'
      have ci : (1 : Int) + (i : Int) + 1 = ((i + 1 : Nat) : Int) + 1 := by omega
      rw [← ci] at hl4
      refine ⟨_, rfl, .inl ⟨rfl, _, SqL.of hp5⟩, _, rfl, _, rfl, _, rfl, _, _, rfl, rfl, ?_⟩
      refine ⟨(by show (2 : Nat) ≤ sizeLine; decide), fun p6 hp6 => ?_⟩
      have s6 : Same H5 (upd H5 p6 (.tup [V.int (-1), V.int (1 + (i : Int) + 1)])) := Same.upd_new hp6
      have f6 : Fr (upd H5 p6 (.tup [V.int (-1), V.int (1 + (i : Int) + 1)])) (.ref p6) (-1, 1 + (i : Int) + 1) := Fr.new
      have fin : ∀ (H7 : Hp) (r : V), Same (upd H5 p6 (.tup [V.int (-1), V.int (1 + (i : Int) + 1)])) H7 → Fr H7 r (nprod t (-1, 1 + (i : Int) + 1)) →
          H7 p = some (.lst us) ∧ us.length < sizeLine ∧ Same H (upd H7 p (.lst (us ++ [r]))) ∧ Frs (upd H7 p (.lst (us ++ [r]))) (us ++ [r]) (l3 ++ [nprod t (-1, 1 + (i : Int) + 1)]) := by
        intro H7 r s7 f7
        have s37 := s4.trans (s5.trans (s6.trans s7))
        have h7 : H7 p = some (.lst us) := s7 _ _ (s6 _ _ hp5)
        refine ⟨h7, Nat.lt_of_le_of_lt (by have := hf3.1; have := sm.1; omega : us.length ≤ 25) (by decide), fun b o e => ?_, Frs.snoc ?_ ?_⟩
        · rw [upd_ne (ne_of_none e hp0)]
          exact s37 _ _ (s3 _ _ e)
        · refine ⟨hf3.1, fun i u x e1 e2 => ?_⟩
          obtain ⟨a, e, z⟩ := (hf3.2 i u x e1 e2).same s37
          exact ⟨a, e, by rw [upd_ne (ne_of z h7 (by intro z; cases z))]; exact z⟩
        · obtain ⟨a, e, z⟩ := f7
          exact ⟨a, e, by rw [upd_ne (ne_of z h7 (by intro z; cases z))]; exact z⟩
      refine ⟨_, _, t, _, rfl, fv.same s6, f6, tS, ⟨(by show (1 : Nat) < 2 ^ 4000; exact Nat.one_lt_two_pow (by decide)), Nat.lt_of_le_of_lt (by omega : (1 + (i : Int) + 1).natAbs ≤ 2 ^ 5) (Nat.pow_lt_pow_right (by decide) (by decide)), by show (0 : Int) < 1 + (i : Int) + 1; omega⟩, fun H7 r s7 f7 => ?_⟩
      have z := fin H7 r s7 f7
      refine ⟨p, _, _, rfl, rfl, z.1, z.2.1, ?_⟩
      exact ⟨z.2.2.1, _, _, _, _, _, _, rfl, upd_same, z.2.2.2, hl4⟩
  · rintro σ H3 ⟨s3, us, l3, o1, o2, o3, o4, rfl, hp3, hf3, hl3⟩
    have e1 : ((k : Int) + 1 - 1).toNat = k := by omega
    rw [e1] at hl3
    obtain rfl : l3 = l := Option.some.inj (hl3.symm.trans hl)
    exact ⟨_, rfl, q _ p us s3 hp3 hf3⟩
end
end Ft

set_option exponentiation.threshold 9000
namespace Ft
open PySem L2
/-! ### values of numbers as pairs -/
def rv (x : Fq) : Rat := (x.1 : Rat) / (x.2 : Rat)
structure LowT (x : Fq) : Prop where
  pos : 0 < x.2
  co : Nat.gcd x.1.natAbs x.2.natAbs = 1
theorem rat_ne {b : Int} (h : b ≠ 0) : (b : Rat) ≠ 0 := fun e => h (Rat.intCast_inj.mp (e.trans Rat.intCast_zero.symm))
theorem rv_cross {a b c d : Int} (hb : b ≠ 0) (hd : d ≠ 0) : (a : Rat) / (b : Rat) = (c : Rat) / (d : Rat) ↔ a * d = c * b := by
  have h1 := rat_ne hb
  have h2 := rat_ne hd
  constructor
  · intro h
    have : (a : Rat) * (d : Rat) = (c : Rat) * (b : Rat) := by grind
    rw [← Rat.intCast_mul, ← Rat.intCast_mul] at this
    exact Rat.intCast_inj.mp this
  · intro h
    have : (a : Rat) * (d : Rat) = (c : Rat) * (b : Rat) := by rw [← Rat.intCast_mul, ← Rat.intCast_mul, h]
    grind
theorem low_cross (a b : Int) : (low a b).1 * b = a * (low a b).2 := by
  unfold low
  obtain ⟨x, hx⟩ : ((Nat.gcd a.natAbs b.natAbs : Nat) : Int) ∣ a := Int.natAbs_dvd_natAbs.mp (by rw [Int.natAbs_natCast]; exact Nat.gcd_dvd_left _ _)
  obtain ⟨y, hy⟩ : ((Nat.gcd a.natAbs b.natAbs : Nat) : Int) ∣ b := Int.natAbs_dvd_natAbs.mp (by rw [Int.natAbs_natCast]; exact Nat.gcd_dvd_right _ _)
  generalize ((Nat.gcd a.natAbs b.natAbs : Nat) : Int) = g at *
  dsimp only
  by_cases h : g = 0
  · subst h
    rw [Int.zero_mul] at hx hy
    rw [hx, hy]
    simp
  · rw [hx, hy, Int.mul_ediv_cancel_left _ h, Int.mul_ediv_cancel_left _ h]
    grind
theorem low_LowT {a b : Int} (hb : 0 < b) : LowT (low a b) := by
  have g0 : 0 < Nat.gcd a.natAbs b.natAbs := Nat.gcd_pos_of_pos_right _ (by omega)
  unfold low
  refine ⟨?_, ?_⟩
  · obtain ⟨y, hy⟩ : ((Nat.gcd a.natAbs b.natAbs : Nat) : Int) ∣ b := Int.natAbs_dvd_natAbs.mp (by rw [Int.natAbs_natCast]; exact Nat.gcd_dvd_right _ _)
    generalize Nat.gcd a.natAbs b.natAbs = g at *
    dsimp only
    rw [hy, Int.mul_ediv_cancel_left _ (by omega)]
    rw [hy] at hb
    exact Int.pos_of_mul_pos_right hb (by omega)
  · show Nat.gcd (a / ((Nat.gcd a.natAbs b.natAbs : Nat) : Int)).natAbs (b / ((Nat.gcd a.natAbs b.natAbs : Nat) : Int)).natAbs = 1
    rw [Int.natAbs_ediv_of_dvd (Int.natAbs_dvd_natAbs.mp (by rw [Int.natAbs_natCast]; exact Nat.gcd_dvd_left _ _)), Int.natAbs_ediv_of_dvd (Int.natAbs_dvd_natAbs.mp (by rw [Int.natAbs_natCast]; exact Nat.gcd_dvd_right _ _)), Int.natAbs_natCast]
    exact Nat.coprime_div_gcd_div_gcd g0
theorem low_rv {a b : Int} (hb : 0 < b) : rv (low a b) = (a : Rat) / (b : Rat) :=
  (rv_cross (by have := (low_LowT (a := a) hb).pos; omega) (by omega)).mpr (low_cross a b)
theorem low_uniq {x y : Fq} (hx : LowT x) (hy : LowT y) (e : rv x = rv y) : x = y := by
  have px := hx.pos
  have py := hy.pos
  have c : x.1 * y.2 = y.1 * x.2 := (rv_cross (by omega) (by omega)).mp e
  have cn : x.1.natAbs * y.2.natAbs = y.1.natAbs * x.2.natAbs := by rw [← Int.natAbs_mul, ← Int.natAbs_mul, c]
  have d1 : x.2.natAbs ∣ y.2.natAbs := by
    have co : Nat.Coprime x.2.natAbs x.1.natAbs := by show Nat.gcd _ _ = 1; rw [Nat.gcd_comm]; exact hx.co
    exact co.dvd_of_dvd_mul_left ⟨y.1.natAbs, by rw [cn, Nat.mul_comm]⟩
  have d2 : y.2.natAbs ∣ x.2.natAbs := by
    have co : Nat.Coprime y.2.natAbs y.1.natAbs := by show Nat.gcd _ _ = 1; rw [Nat.gcd_comm]; exact hy.co
    exact co.dvd_of_dvd_mul_left ⟨x.1.natAbs, by rw [← cn, Nat.mul_comm]⟩
  have e2 : x.2 = y.2 := by
    have := Nat.dvd_antisymm d1 d2
    omega
  have e1 : x.1 = y.1 := by
    rw [e2] at c
    exact Int.eq_of_mul_eq_mul_right (by omega) c
  exact Prod.ext e1 e2
theorem nsum_val {x y : Fq} (hx : 0 < x.2) (hy : 0 < y.2) : LowT (nsum x y) ∧ rv (nsum x y) = rv x + rv y := by
  refine ⟨low_LowT (Int.mul_pos hx hy), (low_rv (Int.mul_pos hx hy)).trans ?_⟩
  have h1 := rat_ne (show x.2 ≠ 0 by omega)
  have h2 := rat_ne (show y.2 ≠ 0 by omega)
  unfold rv
  rw [Rat.intCast_add, Rat.intCast_mul, Rat.intCast_mul, Rat.intCast_mul]
  grind
theorem nprod_val {x y : Fq} (hx : 0 < x.2) (hy : 0 < y.2) : LowT (nprod x y) ∧ rv (nprod x y) = rv x * rv y := by
  refine ⟨low_LowT (Int.mul_pos hx hy), (low_rv (Int.mul_pos hx hy)).trans ?_⟩
  have h1 := rat_ne (show x.2 ≠ 0 by omega)
  have h2 := rat_ne (show y.2 ≠ 0 by omega)
  unfold rv
  rw [Rat.intCast_mul, Rat.intCast_mul]
  grind
theorem ediv_abs_le (a : Int) (g : Nat) (hd : (g : Int) ∣ a) : (a / (g : Int)).natAbs ≤ a.natAbs := by
  rw [Int.natAbs_ediv_of_dvd hd]
  exact Nat.div_le_self _ _
theorem low_le (a b : Int) : (low a b).1.natAbs ≤ a.natAbs ∧ (low a b).2.natAbs ≤ b.natAbs :=
  ⟨ediv_abs_le _ _ (Int.natAbs_dvd_natAbs.mp (by rw [Int.natAbs_natCast]; exact Nat.gcd_dvd_left _ _)), ediv_abs_le _ _ (Int.natAbs_dvd_natAbs.mp (by rw [Int.natAbs_natCast]; exact Nat.gcd_dvd_right _ _))⟩
/-! ### the plain numbers, and what the program and the law make of them -/
/-- a number of few bits -/
def Few (b : Nat) (x : Fq) : Prop := x.1.natAbs ≤ 2 ^ b ∧ x.2.natAbs ≤ 2 ^ b ∧ 0 < x.2
def fewB (x : Fq) : Bool := Nat.ble x.1.natAbs (2 ^ 40) && Nat.ble x.2.natAbs (2 ^ 40) && decide (0 < x.2)
theorem fewB_of {x : Fq} (h : fewB x = true) : Few 40 x := by
  unfold fewB at h
  simp only [Bool.and_eq_true, decide_eq_true_eq, Nat.ble_eq] at h
  exact ⟨h.1.1, h.1.2, h.2⟩
def comb (k i : Nat) : Int := PySem.W.mcComb (k : Int) (i : Int)
/-- the sum of the shares from the i-th on -/
def bsum (m k : Nat) (P : Nat → Int) : Nat → List Fq → Rat
  | _, [] => 0
  | i, p :: ps => rv p * (comb k i * ((m ^ i : Nat) : Int) * P (k - i) : Int) + bsum m k P (i + 1) ps
theorem comb_all' : (List.range 27).all (fun a => (List.range 27).all fun b => Nat.ble (comb a b).natAbs (2 ^ 64)) = true := by decide +kernel
theorem comb_le {a b : Nat} (ha : a < 27) (hb : b < 27) : (comb a b).natAbs ≤ 2 ^ 64 := by
  have c := List.all_eq_true.mp (List.all_eq_true.mp comb_all' a (List.mem_range.mpr ha)) b (List.mem_range.mpr hb)
  rwa [Nat.ble_eq] at c
/-- the factors of the shares are small -/
structure PB (m k : Nat) (P : Nat → Int) : Prop where
  m0 : 0 < m
  m6 : m ≤ 2 ^ 6
  k24 : k ≤ 24
  P : ∀ e ≤ 24, (P e).natAbs ≤ 2 ^ 150
theorem PB.pow {m k : Nat} {P : Nat → Int} (h : PB m k P) {i : Nat} (hi : i ≤ 24) : m ^ i ≤ 2 ^ 144 :=
  Nat.le_trans (Nat.pow_le_pow_left h.m6 i) (Nat.le_trans (Nat.pow_le_pow_right (by decide) hi) (by decide))
theorem PB.two {m k : Nat} {P : Nat → Int} (h : PB m k P) {i : Nat} (hi : i ≤ k) : (comb k i * ((m ^ i : Nat) : Int)).natAbs ≤ 2 ^ 208 := by
  have := h.k24
  rw [Int.natAbs_mul, Int.natAbs_natCast]
  exact Nat.le_trans (Nat.mul_le_mul (comb_le (by omega) (by omega)) (h.pow (by omega))) (by decide)
theorem PB.fac {m k : Nat} {P : Nat → Int} (h : PB m k P) {i : Nat} (hi : i ≤ k) : (comb k i * ((m ^ i : Nat) : Int) * P (k - i)).natAbs ≤ 2 ^ 358 := by
  have := h.k24
  rw [Int.natAbs_mul]
  exact Nat.le_trans (Nat.mul_le_mul (h.two hi) (h.P _ (by omega))) (by decide)
/-- a sum of i shares -/
def TB (i : Nat) (x : Fq) : Prop := x.1.natAbs ≤ i * 2 ^ 400 * (2 ^ 46) ^ i ∧ x.2.natAbs ≤ (2 ^ 46) ^ i ∧ 0 < x.2
theorem pow46 {i : Nat} (hi : i ≤ 26) : (2 ^ 46) ^ i ≤ 2 ^ 1196 := by
  rw [← Nat.pow_mul]
  exact Nat.pow_le_pow_right (by decide) (by omega)
theorem TB.small {i : Nat} {x : Fq} (h : TB i x) (hi : i ≤ 26) : x.1.natAbs < 2 ^ 1700 ∧ x.2.natAbs < 2 ^ 1200 ∧ 0 < x.2 := by
  have := pow46 hi
  refine ⟨Nat.lt_of_le_of_lt h.1 (Nat.lt_of_le_of_lt (Nat.mul_le_mul (Nat.mul_le_mul_right _ hi) this) (by decide)), Nat.lt_of_le_of_lt h.2.1 (Nat.lt_of_le_of_lt this (by decide)), h.2.2⟩
theorem small_of {x : Fq} (h1 : x.1.natAbs < 2 ^ 1700) (h2 : x.2.natAbs < 2 ^ 1200) (h3 : 0 < x.2) : Small 4000 x := ⟨Nat.lt_trans h1 (Nat.pow_lt_pow_right (by decide) (by decide)), Nat.lt_trans h2 (Nat.pow_lt_pow_right (by decide) (by decide)), h3⟩
theorem TB.step {i : Nat} {t y : Fq} (h : TB i t) (h1 : y.1.natAbs ≤ 2 ^ 400) (h2 : y.2.natAbs ≤ 2 ^ 46) (h3 : 0 < y.2) : TB (i + 1) (t.1 * y.2 + y.1 * t.2, t.2 * y.2) := by
  obtain ⟨a, b, c⟩ := h
  refine ⟨?_, ?_, Int.mul_pos c h3⟩
  · refine Nat.le_trans (Int.natAbs_add_le _ _) ?_
    rw [Int.natAbs_mul, Int.natAbs_mul]
    have e1 := Nat.mul_le_mul a h2
    have e2 := Nat.mul_le_mul h1 b
    have e3 : 2 ^ 400 * (2 ^ 46) ^ i ≤ 2 ^ 400 * (2 ^ 46) ^ (i + 1) := Nat.mul_le_mul_left _ (Nat.pow_le_pow_right (by decide) (by omega))
    have e4 : (i + 1) * 2 ^ 400 * (2 ^ 46) ^ (i + 1) = i * 2 ^ 400 * (2 ^ 46) ^ i * 2 ^ 46 + 2 ^ 400 * (2 ^ 46) ^ (i + 1) := by rw [Nat.pow_succ]; grind
    rw [e4]
    exact Nat.add_le_add e1 (Nat.le_trans e2 e3)
  · rw [Int.natAbs_mul, Nat.pow_succ]
    exact Nat.mul_le_mul b h2
theorem TB.low {i : Nat} {a b : Int} (h : TB i (a, b)) : TB i (low a b) := ⟨Nat.le_trans (low_le a b).1 h.1, Nat.le_trans (low_le a b).2 h.2.1, (low_LowT h.2.2).pos⟩
theorem rv_int (a : Int) : rv (a, 1) = (a : Rat) := by
  unfold rv
  grind
theorem bern_go {m k : Nat} {P : Nat → Int} (hB : PB m k P) : ∀ (ps : List Fq) (i : Nat) (t : Fq), i + ps.length = k + 1 → (∀ p ∈ ps, Few 40 p) → TB i t → LowT t → ∃ x, bernGo m k P i ps t = some x ∧ LowT x ∧ TB (k + 1) x ∧ rv x = rv t + bsum m k P i ps / (m : Rat)
  | [], i, t, hi, _, ht, hl => ⟨t, rfl, hl, by have hi : i + 0 = k + 1 := hi; rw [← hi]; exact ht, by unfold bsum; grind⟩
  | p :: ps, i, t, hi, hp, ht, hl => by
    have k24 := hB.k24
    have hi : i + (ps.length + 1) = k + 1 := hi
    have pp := hp p List.mem_cons_self
    have m0 : (0 : Int) < (m : Int) := by have := hB.m0; omega
    have f := hB.fac (show i ≤ k by omega)
    have f2 := hB.two (show i ≤ k by omega)
    have f3 := hB.P (k - i) (by omega)
    have m6 : ((m : Nat) : Int).natAbs ≤ 2 ^ 6 := by rw [Int.natAbs_natCast]; exact hB.m6
    unfold bernGo
    have y1 : (nprod p (comb k i * ((m ^ i : Nat) : Int) * P (k - i), (m : Int))).1.natAbs ≤ 2 ^ 400 := by
      refine Nat.le_trans (low_le _ _).1 ?_
      rw [Int.natAbs_mul]
      exact Nat.le_trans (Nat.mul_le_mul pp.1 f) (by decide)
    have y2 : (nprod p (comb k i * ((m ^ i : Nat) : Int) * P (k - i), (m : Int))).2.natAbs ≤ 2 ^ 46 := by
      refine Nat.le_trans (low_le _ _).2 ?_
      rw [Int.natAbs_mul]
      exact Nat.le_trans (Nat.mul_le_mul pp.2.1 m6) (by decide)
    have yv := nprod_val (x := p) (y := (comb k i * ((m ^ i : Nat) : Int) * P (k - i), (m : Int))) pp.2.2 m0
    have y3 := yv.1.pos
    have t1 : TB (i + 1) (nsum t (nprod p (comb k i * ((m ^ i : Nat) : Int) * P (k - i), (m : Int)))) := (ht.step y1 y2 y3).low
    have tv := nsum_val (x := t) ht.2.2 y3
    obtain ⟨x, hx, xl, xt, xv⟩ := bern_go hB ps (i + 1) _ (by omega) (fun q hq => hp q (List.mem_cons_of_mem _ hq)) t1 tv.1
    have sm : ∀ {x : Fq}, x.1.natAbs < 2 ^ 4000 → x.2.natAbs < 2 ^ 4000 → 0 < x.2 → smallB x = true := fun h1 h2 h3 => by
      unfold smallB
      simp only [Bool.and_eq_true, decide_eq_true_eq, Nat.blt_eq]
      exact ⟨⟨h1, h2⟩, h3⟩
    have up : ∀ {a b : Nat}, a ≤ 2 ^ b → b < 4000 → a < 2 ^ 4000 := fun h1 h2 => Nat.lt_of_le_of_lt h1 (Nat.pow_lt_pow_right (by decide) h2)
    have ts := t1.small (by omega)
    refine ⟨x, ?_, xl, xt, ?_⟩
    · rw [if_pos ?_]
      · exact hx
      · have c1 : smallB (P (k - i), 1) = true := sm (up f3 (by decide)) (by show (1 : Int).natAbs < 2 ^ 4000; exact Nat.one_lt_two_pow (by decide)) (show (0 : Int) < 1 by decide)
        have c2 : smallB (comb k i * ((m ^ i : Nat) : Int), 1) = true := sm (up f2 (by decide)) (by show (1 : Int).natAbs < 2 ^ 4000; exact Nat.one_lt_two_pow (by decide)) (show (0 : Int) < 1 by decide)
        have c3 : smallB (comb k i * ((m ^ i : Nat) : Int) * P (k - i), (m : Int)) = true := sm (up f (by decide)) (up m6 (by decide)) m0
        have c4 := sm (up y1 (by decide)) (up y2 (by decide)) y3
        have c5 := sm (Nat.lt_trans ts.1 (Nat.pow_lt_pow_right (by decide) (by decide))) (Nat.lt_trans ts.2.1 (Nat.pow_lt_pow_right (by decide) (by decide))) ts.2.2
        unfold comb at c2 c3 c4 c5
        rw [c1, c2, c3, c4, c5]
        rfl
    · rw [xv, tv.2, yv.2]
      show rv t + rv p * rv (_, (m : Int)) + _ = rv t + (rv p * _ + _) / (m : Rat)
      unfold rv
      dsimp only
      rw [show ((m : Int) : Rat) = (m : Rat) from Rat.intCast_natCast m]
      grind
theorem plain_few : (List.range 25).all (fun k => match plainTo k with | some l => l.all fewB && decide (l.length = k + 1) | none => false) = true := by decide +kernel
theorem plain_ok {k : Nat} (h : k ≤ 24) : ∃ l, plainTo k = some l ∧ l.length = k + 1 ∧ ∀ p ∈ l, Few 40 p := by
  have c := List.all_eq_true.mp plain_few k (List.mem_range.mpr (by omega))
  split at c
  · rename_i l e
    rw [Bool.and_eq_true] at c
    exact ⟨l, e, of_decide_eq_true c.2, fun p hp => fewB_of (List.all_eq_true.mp c.1 p hp)⟩
  · cases c
end Ft

set_option exponentiation.threshold 9000
namespace Ft
open PySem L2
def BernV (k : Nat) (s : Int) (x : Fq) : Prop := LowT x ∧ (∀ l, plainTo k = some l → rv x = bsum s.natAbs k (psum s) 0 l / (s.natAbs : Rat)) ∧ x.1.natAbs < 2 ^ 1700 ∧ x.2.natAbs < 2 ^ 1200
theorem psumTo_le (s : Int) {e : Nat} (he : e ≤ 24) : ∀ n, n ≤ 64 → (psumTo s e n).natAbs ≤ n * 2 ^ 144
  | 0, _ => by show (0 : Int).natAbs ≤ _; simp
  | n + 1, h => by
    show (psumTo s e n + valueAt s (1 + (n : Int)) * (((1 + n) ^ e : Nat) : Int)).natAbs ≤ _
    refine Nat.le_trans (Int.natAbs_add_le _ _) ?_
    rw [Nat.add_mul, Nat.one_mul]
    refine Nat.add_le_add (psumTo_le s he n (by omega)) ?_
    rw [Int.natAbs_mul, Int.natAbs_natCast]
    have := Nat.mul_le_mul (valueAt_one s (1 + (n : Int))) (Nat.le_trans (Nat.pow_le_pow_left (by omega : 1 + n ≤ 2 ^ 6) e) (Nat.pow_le_pow_right (by decide) he))
    exact Nat.le_trans this (by decide)
theorem psum_le (s : Int) (h : s.natAbs ≤ 64) {e : Nat} (he : e ≤ 24) : (psum s e).natAbs ≤ 2 ^ 150 := Nat.le_trans (psumTo_le s he _ h) (Nat.le_trans (Nat.mul_le_mul_right _ h) (by decide))
theorem pb_of {s : Int} {k : Nat} (hs : isSign s = true) (h : s.natAbs ≤ 64) (hk : k ≤ 24) : PB s.natAbs k (psum s) := ⟨by have := (isSign_le hs).2.1; omega, h, hk, fun e he => psum_le s h he⟩
theorem bern_ex {s : Int} {k : Nat} (hs : isSign s = true) (h : s.natAbs ≤ 64) (hk : k ≤ 24) : ∃ l x, plainTo k = some l ∧ bernGo s.natAbs k (psum s) 0 l (0, 1) = some x ∧ BernV k s x := by
  obtain ⟨l, hl, ll, lf⟩ := plain_ok hk
  obtain ⟨x, hx, xl, xt, xv⟩ := bern_go (pb_of hs h hk) l 0 (0, 1) (by omega) lf ⟨by simp, by simp, by decide⟩ ⟨by decide, by decide⟩
  refine ⟨l, x, hl, hx, xl, fun l' hl' => ?_, (xt.small (by omega)).1, (xt.small (by omega)).2.1⟩
  obtain rfl : l = l' := Option.some.inj (hl.symm.trans hl')
  rw [xv, show rv (0, 1) = 0 by rw [rv_int]; rfl]
  grind
end Ft

set_option exponentiation.threshold 9000
namespace Ft
open PySem L2
def mid (x : Fq) : Bool := Nat.blt x.1.natAbs (2 ^ 1000) && Nat.blt x.2.natAbs (2 ^ 1000) && decide (0 < x.2)
theorem mid_of {x : Fq} (h : mid x = true) : x.1.natAbs < 2 ^ 1000 ∧ x.2.natAbs < 2 ^ 1000 ∧ 0 < x.2 := by
  unfold mid at h
  simp only [Bool.and_eq_true, decide_eq_true_eq, Nat.blt_eq] at h
  exact ⟨h.1.1, h.1.2, h.2⟩
def lin (k : Nat) : Nat → List Fq → Fq → Option Fq
  | _, [], t => some t
  | i, p :: ps, t => if mid t = true then lin k (i + 1) ps (low (t.1 * p.2 + comb (k + 1) i * p.1 * t.2) (t.2 * p.2)) else none
def chkP (k : Nat) : Bool := match plainTo k with
  | some l => match lin (k + 1) 0 l (0, 1) with
    | some t => mid t && decide (plainTo (k + 1) = some (l ++ [low (-t.1) (t.2 * ((k : Int) + 2))]))
    | none => false
  | none => false
theorem chkP_all : (List.range 24).all chkP = true := by decide +kernel
theorem chkP_of {k : Nat} (h : k < 24) {l : List Fq} (hl : plainTo k = some l) : ∃ t, lin (k + 1) 0 l (0, 1) = some t ∧ mid t = true ∧ plainTo (k + 1) = some (l ++ [low (-t.1) (t.2 * ((k : Int) + 2))]) := by
  have c := List.all_eq_true.mp chkP_all k (List.mem_range.mpr h)
  unfold chkP at c
  rw [hl] at c
  dsimp only at c
  split at c
  · rename_i t e
    rw [Bool.and_eq_true] at c
    exact ⟨t, e, c.1, of_decide_eq_true c.2⟩
  · cases c
theorem lin_step {k i : Nat} {p : Fq} {ps : List Fq} {t R : Fq} (h : lin k i (p :: ps) t = some R) : mid t = true ∧ lin k (i + 1) ps (low (t.1 * p.2 + comb (k + 1) i * p.1 * t.2) (t.2 * p.2)) = some R := by
  unfold lin at h
  split at h
  · exact ⟨by assumption, h⟩
  · cases h
theorem mulB {a b : Nat} {i j : Int} (h1 : i.natAbs < 2 ^ a) (h2 : j.natAbs < 2 ^ b) (ha : a ≤ 8000 := by decide) (hb : b ≤ 8000 := by decide) : CMulW i j := mul8 (Nat.lt_of_lt_of_le h1 (Nat.pow_le_pow_right (by decide) ha)) (Nat.lt_of_lt_of_le h2 (Nat.pow_le_pow_right (by decide) hb))
theorem absMul {a b : Nat} {i j : Int} (h1 : i.natAbs < 2 ^ a) (h2 : j.natAbs < 2 ^ b) : (i * j).natAbs < 2 ^ (a + b) := by
  rw [Int.natAbs_mul, Nat.pow_add]
  exact Nat.mul_lt_mul'' h1 h2
def rws (s : Int) (m e : Nat) : List Int := (List.range m).map fun j => valueAt s ((j + 1 : Nat) : Int) * (((j + 1) ^ e : Nat) : Int)
theorem rws_len (s : Int) (m e : Nat) : (rws s m e).length = m := by unfold rws; rw [List.length_map, List.length_range]
theorem rws_sum (s : Int) (e : Nat) : (rws s s.natAbs e).sum = psum s e := by
  unfold psum rws
  generalize s.natAbs = n
  induction n with
  | zero => rfl
  | succ n ih =>
    rw [List.range_succ, List.map_append, List.sum_append, ih]
    show psumTo s e n + (valueAt s ((n + 1 : Nat) : Int) * (((n + 1) ^ e : Nat) : Int) + 0) = psumTo s e n + valueAt s (1 + (n : Int)) * (((1 + n) ^ e : Nat) : Int)
    rw [Int.add_zero, show ((n + 1 : Nat) : Int) = 1 + (n : Int) by omega, Nat.add_comm n 1]
end Ft

namespace Ft
/-! the numbers of k26 -/
def divL (n : Nat) : List Nat := ((List.range n).filter fun i => decide (n % (i + 1) = 0)).map fun i => i + 1
def manyOf (N c : Nat) : Nat := ((List.range (Nat.gcd c (N / c))).filter fun i => decide (Nat.gcd (i + 1) (Nat.gcd c (N / c)) = 1)).length
abbrev Tri := Nat × Nat × Nat
def edgeOf (N c : Nat) : Tri := (c, manyOf N c, N / Nat.gcd (c * c) N)
def edges (N : Nat) : List Tri := (divL N).map (edgeOf N)
def sumE (l : List Tri) : Nat := l.foldl (fun s e => s + e.2.1 * e.2.2) 0
/-- the program's way to the divisors -/
def lowL (n r : Nat) : List Nat := ((List.range r).filter fun i => decide (n % (i + 1) = 0)).map fun i => i + 1
def divP (n r : Nat) : List Nat := lowL n r ++ (((lowL n r).reverse.filter fun d => decide (d * d ≠ n)).map fun d => n / d)
/-- Bool checks -/
def eqL : List Nat → List Nat → Bool
  | [], [] => true
  | a :: l, b :: m => Nat.beq a b && eqL l m
  | _, _ => false
def divF (n : Nat) : Nat → List Nat → List Nat
  | 0, acc => acc
  | i + 1, acc => divF n i (bif Nat.beq (n % (i + 1)) 0 then (i + 1) :: acc else acc)
end Ft

set_option exponentiation.threshold 9000
namespace Ft
open PySem L2
/-- the divisors, as the program lists them -/
def dvs (n : Nat) : List Nat := divP n (Float64.isqrt n)
theorem isqrt_316 {n : Nat} (h : n ≤ 100000) : Float64.isqrt n ≤ 316 := by
  have s := (Float64.isqrt_spec n).1
  rcases Nat.lt_or_ge 316 (Float64.isqrt n) with z | z
  · have := Nat.mul_le_mul (show 317 ≤ Float64.isqrt n from z) (show 317 ≤ Float64.isqrt n from z)
    omega
  · exact z
theorem lowL_mem {n r d : Nat} (h : d ∈ lowL n r) : 1 ≤ d ∧ d ≤ r ∧ n % d = 0 := by
  unfold lowL at h
  obtain ⟨j, hj, rfl⟩ := List.mem_map.mp h
  have h1 := List.mem_range.mp (List.mem_filter.mp hj).1
  have h2 := of_decide_eq_true (List.mem_filter.mp hj).2
  exact ⟨by omega, by omega, h2⟩
theorem lowL_len (n r : Nat) : (lowL n r).length ≤ r := by unfold lowL; rw [List.length_map]; exact filter_len _ _
theorem dvs_mem {n d : Nat} (n1 : 1 ≤ n) (h : d ∈ dvs n) : 1 ≤ d ∧ d ≤ n := by
  have r1 := isqrt_le n
  unfold dvs divP at h
  rcases List.mem_append.mp h with h | h
  · have := lowL_mem h
    omega
  · obtain ⟨e, he, rfl⟩ := List.mem_map.mp h
    have m := lowL_mem (List.mem_reverse.mp (List.mem_filter.mp he).1)
    have dv := Nat.dvd_of_mod_eq_zero m.2.2
    exact ⟨Nat.div_pos (Nat.le_of_dvd (by omega) dv) (by omega), Nat.div_le_self _ _⟩
theorem dvs_len {n : Nat} (h : n ≤ 100000) : (dvs n).length ≤ 632 := by
  have r1 := isqrt_316 h
  have l1 := lowL_len n (Float64.isqrt n)
  unfold dvs divP
  rw [List.length_append, List.length_map]
  have := List.length_filter_le (fun d => decide (d * d ≠ n)) (lowL n (Float64.isqrt n)).reverse
  rw [List.length_reverse] at this
  omega
def dsT (k : Nat) (D E : Int) (n d : Nat) : Int := valueAt D ((n / d : Nat) : Int) * valueAt E (d : Int) * ((d ^ k : Nat) : Int)
def dsF (k : Nat) (D E : Int) (n : Nat) : Int := ((dvs n).map (dsT k D E n)).sum
theorem one_mul_le {a b : Int} {c : Nat} (h1 : a.natAbs ≤ 1) (h2 : b.natAbs ≤ c) : (a * b).natAbs ≤ c := by
  rw [Int.natAbs_mul]
  have := Nat.mul_le_mul h1 h2
  omega
theorem val_le (s n : Int) : (valueAt s n).natAbs ≤ 1 := valueAt_one s n
theorem pow_100k {d k : Nat} (hd : d ≤ 100000) (hk : k ≤ 24) : d ^ k ≤ 2 ^ 408 := Nat.le_trans (Nat.pow_le_pow_left (by omega : d ≤ 2 ^ 17) k) (Nat.le_trans (Nat.pow_le_pow_right (by decide) hk) (by decide))
theorem dsT_le {k : Nat} {D E : Int} {n d : Nat} (hd : d ≤ 100000) (hk : k ≤ 24) : (dsT k D E n d).natAbs ≤ 2 ^ 408 := by
  unfold dsT
  refine one_mul_le ?_ (by rw [Int.natAbs_natCast]; exact pow_100k hd hk)
  exact one_mul_le (val_le _ _) (val_le _ _)
theorem sum_le {l : List Int} {B : Nat} (h : ∀ x ∈ l, x.natAbs ≤ B) : l.sum.natAbs ≤ l.length * B := by
  induction l with
  | nil => simp
  | cons x l ih =>
    rw [List.sum_cons, List.length_cons, Nat.add_mul]
    have h1 := h x List.mem_cons_self
    have h2 := ih fun y hy => h y (List.mem_cons_of_mem _ hy)
    have := Int.natAbs_add_le x l.sum
    omega
theorem dsF_le {k : Nat} {D E : Int} {n : Nat} (n1 : 1 ≤ n) (hn : n ≤ 100000) (hk : k ≤ 24) : (dsF k D E n).natAbs < 2 ^ 500 := by
  have h := sum_le (l := (dvs n).map (dsT k D E n)) (B := 2 ^ 408) fun x hx => by
    obtain ⟨d, hd, rfl⟩ := List.mem_map.mp hx
    have := dvs_mem n1 hd
    exact dsT_le (by omega) hk
  rw [List.length_map] at h
  exact Nat.lt_of_le_of_lt (Nat.le_trans h (Nat.mul_le_mul_right _ (dvs_len hn))) (by decide)
end Ft

set_option exponentiation.threshold 9000
namespace Ft
/-! ### the divisors are all divisors, ascending -/
theorem lowL_iff {n r d : Nat} : d ∈ lowL n r ↔ 1 ≤ d ∧ d ≤ r ∧ n % d = 0 := by
  refine ⟨lowL_mem, fun ⟨h1, h2, h3⟩ => ?_⟩
  unfold lowL
  refine List.mem_map.mpr ⟨d - 1, List.mem_filter.mpr ⟨List.mem_range.mpr (by omega), ?_⟩, by omega⟩
  rw [show d - 1 + 1 = d by omega]
  exact decide_eq_true h3
theorem lowL_asc (n r : Nat) : (lowL n r).Pairwise (· < ·) := by
  unfold lowL
  rw [List.pairwise_map]
  exact (List.Pairwise.filter _ List.pairwise_lt_range).imp fun h => by omega
theorem div_part {n d : Nat} (n1 : 1 ≤ n) (h : n % d = 0) (d1 : 1 ≤ d) : d * (n / d) = n ∧ 1 ≤ n / d ∧ n % (n / d) = 0 := by
  have e : d * (n / d) = n := Nat.mul_div_cancel' (Nat.dvd_of_mod_eq_zero h)
  refine ⟨e, Nat.div_pos (Nat.le_of_dvd (by omega) (Nat.dvd_of_mod_eq_zero h)) (by omega), ?_⟩
  exact Nat.mod_eq_zero_of_dvd ⟨d, by rw [Nat.mul_comm, e]⟩
theorem div_back {n d : Nat} (n1 : 1 ≤ n) (h : n % d = 0) (d1 : 1 ≤ d) : n / (n / d) = d := by
  obtain ⟨e, p, _⟩ := div_part n1 h d1
  exact Nat.div_eq_of_eq_mul_left (by omega) e.symm
theorem dvs_iff {n : Nat} (n1 : 1 ≤ n) (d : Nat) : d ∈ dvs n ↔ 1 ≤ d ∧ n % d = 0 := by
  have sp := PySem.Float64.isqrt_spec n
  unfold dvs divP
  generalize PySem.Float64.isqrt n = r at sp
  rw [List.mem_append, lowL_iff]
  constructor
  · rintro (h | h)
    · exact ⟨h.1, h.2.2⟩
    · obtain ⟨e, he, rfl⟩ := List.mem_map.mp h
      obtain ⟨a, b, c⟩ := lowL_iff.mp (List.mem_reverse.mp (List.mem_filter.mp he).1)
      exact (div_part n1 c a).2
  · rintro ⟨h1, h2⟩
    by_cases k : d ≤ r
    · exact .inl ⟨h1, k, h2⟩
    · obtain ⟨e, p, m⟩ := div_part n1 h2 h1
      have er : n / d ≤ r := by
        rcases Nat.lt_or_ge r (n / d) with z | z
        · have := Nat.mul_le_mul (show r + 1 ≤ d by omega) (show r + 1 ≤ n / d by omega)
          have := sp.2
          omega
        · exact z
      refine .inr (List.mem_map.mpr ⟨n / d, List.mem_filter.mpr ⟨List.mem_reverse.mpr (lowL_iff.mpr ⟨p, er, m⟩), decide_eq_true fun z => ?_⟩, div_back n1 h2 h1⟩)
      have := Nat.mul_lt_mul_of_pos_right (show n / d < d by omega) (show 0 < n / d by omega)
      omega
theorem div_lt {n a b : Nat} (n1 : 1 ≤ n) (ha : n % a = 0) (hb : n % b = 0) (a1 : 1 ≤ a) (h : a < b) : n / b < n / a := by
  obtain ⟨ea, pa, _⟩ := div_part n1 ha a1
  obtain ⟨eb, pb, _⟩ := div_part n1 hb (by omega)
  rcases Nat.lt_or_ge (n / b) (n / a) with z | z
  · exact z
  · have := Nat.mul_lt_mul_of_lt_of_le h z (by omega)
    omega
theorem dvs_asc {n : Nat} (n1 : 1 ≤ n) : (dvs n).Pairwise (· < ·) := by
  have sp := PySem.Float64.isqrt_spec n
  unfold dvs divP
  generalize PySem.Float64.isqrt n = r at sp
  rw [List.pairwise_append]
  refine ⟨lowL_asc n r, ?_, ?_⟩
  · rw [List.pairwise_map]
    refine List.Pairwise.imp_of_mem (R := fun a b => b < a) (fun {a b} ha hb h => ?_) (List.Pairwise.filter _ (List.pairwise_reverse.mpr (lowL_asc n r)))
    have ma := lowL_iff.mp (List.mem_reverse.mp (List.mem_filter.mp ha).1)
    have mb := lowL_iff.mp (List.mem_reverse.mp (List.mem_filter.mp hb).1)
    exact div_lt n1 mb.2.2 ma.2.2 mb.1 h
  · intro d hd y hy
    obtain ⟨e, he, rfl⟩ := List.mem_map.mp hy
    have hn := of_decide_eq_true (List.mem_filter.mp he).2
    obtain ⟨a, b, c⟩ := lowL_iff.mp (List.mem_reverse.mp (List.mem_filter.mp he).1)
    have hd := lowL_iff.mp hd
    obtain ⟨ee, pe, _⟩ := div_part n1 c a
    rcases Nat.lt_or_ge r (n / e) with z | z
    · omega
    · exfalso
      have h1 := Nat.mul_le_mul (show e ≤ r from b) z
      have h0 := sp.1
      have : e * (n / e) = r * r := by omega
      have er : e = r := by
        rcases Nat.lt_or_ge e r with y | y
        · have := Nat.mul_lt_mul_of_lt_of_le y z (by omega)
          omega
        · omega
      have qr : n / e = r := by
        rcases Nat.lt_or_ge (n / e) r with y | y
        · have := Nat.mul_lt_mul_of_le_of_lt b y (by omega)
          omega
        · omega
      rw [qr] at ee
      rw [← er] at ee
      exact hn ee
theorem asc_nodup {l : List Nat} (h : l.Pairwise (· < ·)) : l.Nodup := h.imp fun h => by omega
theorem perm_of {l1 l2 : List Nat} (h1 : l1.Nodup) (h2 : l2.Nodup) (h : ∀ a, a ∈ l1 ↔ a ∈ l2) : l1.Perm l2 := by
  rw [List.perm_iff_count]
  intro a
  rw [h1.count, h2.count]
  by_cases k : a ∈ l1
  · rw [if_pos k, if_pos ((h a).mp k)]
  · rw [if_neg k, if_neg fun z => k ((h a).mpr z)]
theorem dvs_perm {n : Nat} (n1 : 1 ≤ n) {l : List Nat} (h : l.Nodup) (m : ∀ d, d ∈ l ↔ 1 ≤ d ∧ n % d = 0) : (dvs n).Perm l := perm_of (asc_nodup (dvs_asc n1)) h fun a => (dvs_iff n1 a).trans (m a).symm
theorem perm_sum {l1 l2 : List Int} (h : l1.Perm l2) : l1.sum = l2.sum := by
  induction h with
  | nil => rfl
  | cons x _ ih => rw [List.sum_cons, List.sum_cons, ih]
  | swap x y l => simp only [List.sum_cons]; omega
  | trans _ _ a b => exact a.trans b
/-! ### products -/
def prods (m n : Nat) : List Nat := (dvs m).flatMap fun d => (dvs n).map fun e => d * e
theorem gcd_left {m n d e : Nat} (c : Nat.gcd m n = 1) (hd : d ∣ m) (he : e ∣ n) : Nat.gcd (d * e) m = d := by
  have c1 : Nat.Coprime e m := Nat.Coprime.coprime_dvd_left he (Nat.Coprime.symm c)
  rw [Nat.Coprime.gcd_mul_right_cancel d c1]
  exact Nat.gcd_eq_left hd
theorem gcd_right {m n d e : Nat} (c : Nat.gcd m n = 1) (hd : d ∣ m) (he : e ∣ n) : Nat.gcd (d * e) n = e := by
  rw [Nat.mul_comm]
  exact gcd_left (by rw [Nat.gcd_comm]; exact c) he hd
theorem prods_perm {m n : Nat} (m1 : 1 ≤ m) (n1 : 1 ≤ n) (c : Nat.gcd m n = 1) : (dvs (m * n)).Perm (prods m n) := by
  have mn1 : 1 ≤ m * n := Nat.mul_pos m1 n1
  have dm : ∀ d ∈ dvs m, d ∣ m := fun d h => Nat.dvd_of_mod_eq_zero ((dvs_iff m1 d).mp h).2
  have dn : ∀ d ∈ dvs n, d ∣ n := fun d h => Nat.dvd_of_mod_eq_zero ((dvs_iff n1 d).mp h).2
  refine dvs_perm mn1 ?_ fun x => ?_
  · unfold prods List.Nodup
    rw [List.pairwise_flatMap]
    refine ⟨fun d hd => ?_, ?_⟩
    · rw [List.pairwise_map]
      refine List.Pairwise.imp_of_mem (fun {a b} ha hb h z => h ?_) (asc_nodup (dvs_asc n1))
      rw [← gcd_right c (dm d hd) (dn a ha), z, gcd_right c (dm d hd) (dn b hb)]
    · refine List.Pairwise.imp_of_mem (fun {a b} ha hb h x hx y hy z => h ?_) (asc_nodup (dvs_asc m1))
      obtain ⟨e, he, rfl⟩ := List.mem_map.mp hx
      obtain ⟨f, hf, rfl⟩ := List.mem_map.mp hy
      rw [← gcd_left c (dm a ha) (dn e he), z, gcd_left c (dm b hb) (dn f hf)]
  · unfold prods
    rw [List.mem_flatMap]
    constructor
    · rintro ⟨d, hd, hx⟩
      obtain ⟨e, he, rfl⟩ := List.mem_map.mp hx
      have h1 := (dvs_iff m1 d).mp hd
      have h2 := (dvs_iff n1 e).mp he
      exact ⟨Nat.mul_pos h1.1 h2.1, Nat.mod_eq_zero_of_dvd (Nat.mul_dvd_mul (dm d hd) (dn e he))⟩
    · rintro ⟨h1, h2⟩
      have hx : x ∣ m * n := Nat.dvd_of_mod_eq_zero h2
      have e := Nat.Coprime.gcd_mul x (show Nat.Coprime m n from c)
      rw [Nat.gcd_eq_left hx] at e
      refine ⟨Nat.gcd x m, (dvs_iff m1 _).mpr ⟨Nat.gcd_pos_of_pos_left _ h1, Nat.mod_eq_zero_of_dvd (Nat.gcd_dvd_right _ _)⟩, List.mem_map.mpr ⟨Nat.gcd x n, (dvs_iff n1 _).mpr ⟨Nat.gcd_pos_of_pos_left _ h1, Nat.mod_eq_zero_of_dvd (Nat.gcd_dvd_right _ _)⟩, e.symm⟩⟩
/-! ### the sums -/
/-- what the sums want of a sign -/
structure Sm (s : Int) : Prop where
  mul : ∀ a b : Nat, valueAt s ((a * b : Nat) : Int) = valueAt s (a : Int) * valueAt s (b : Int)
  one : valueAt s ((1 : Nat) : Int) = 1
theorem sum_mul_left (c : Int) (l : List Nat) (f : Nat → Int) : (l.map fun x => c * f x).sum = c * (l.map f).sum := by
  induction l with
  | nil => simp
  | cons x l ih => simp only [List.map_cons, List.sum_cons, ih, Int.mul_add]
theorem sum_prods (f g : Nat → Int) (h : Nat → Int) (l1 l2 : List Nat) (e : ∀ a ∈ l1, ∀ b ∈ l2, h (a * b) = f a * g b) : ((l1.flatMap fun d => l2.map fun e => d * e).map h).sum = (l1.map f).sum * (l2.map g).sum := by
  induction l1 with
  | nil => simp
  | cons x l ih =>
    rw [List.flatMap_cons, List.map_append, List.sum_append, ih (fun a ha => e a (List.mem_cons_of_mem _ ha)), List.map_cons, List.sum_cons, Int.add_mul, List.map_map]
    congr 1
    rw [← sum_mul_left]
    congr 1
    exact List.map_congr_left fun b hb => e x List.mem_cons_self b hb
theorem mul4 (a b c d e f : Int) : a * b * (c * d) * (e * f) = a * c * e * (b * d * f) := by grind
theorem dsT_mul {k : Nat} {D E : Int} (hD : Sm D) (hE : Sm E) {m n d e : Nat} (hd : d ∣ m) (he : e ∣ n) : dsT k D E (m * n) (d * e) = dsT k D E m d * dsT k D E n e := by
  unfold dsT
  rw [Nat.mul_div_mul_comm hd he, hD.mul, hE.mul, Nat.mul_pow, Int.natCast_mul]
  exact mul4 _ _ _ _ _ _
theorem dsF_mul {k : Nat} {D E : Int} (hD : Sm D) (hE : Sm E) {m n : Nat} (m1 : 1 ≤ m) (n1 : 1 ≤ n) (c : Nat.gcd m n = 1) : dsF k D E (m * n) = dsF k D E m * dsF k D E n := by
  unfold dsF
  rw [perm_sum ((prods_perm m1 n1 c).map _)]
  exact sum_prods _ _ _ _ _ fun a ha b hb => dsT_mul hD hE (Nat.dvd_of_mod_eq_zero ((dvs_iff m1 a).mp ha).2) (Nat.dvd_of_mod_eq_zero ((dvs_iff n1 b).mp hb).2)
/-! ### two signs exchanged -/
theorem dsF_swap {D E : Int} {n : Nat} (n1 : 1 ≤ n) : dsF 0 D E n = dsF 0 E D n := by
  have dv := fun d (h : d ∈ dvs n) => (dvs_iff n1 d).mp h
  have p : (dvs n).Perm ((dvs n).map fun d => n / d) := by
    refine dvs_perm n1 ?_ fun x => ?_
    · unfold List.Nodup
      rw [List.pairwise_map]
      refine List.Pairwise.imp_of_mem (fun {a b} ha hb h z => h ?_) (asc_nodup (dvs_asc n1))
      rw [← div_back n1 (dv a ha).2 (dv a ha).1, z, div_back n1 (dv b hb).2 (dv b hb).1]
    · rw [List.mem_map]
      constructor
      · rintro ⟨d, hd, rfl⟩
        exact (div_part n1 (dv d hd).2 (dv d hd).1).2
      · rintro ⟨h1, h2⟩
        exact ⟨n / x, (dvs_iff n1 _).mpr (div_part n1 h2 h1).2, div_back n1 h2 h1⟩
  unfold dsF
  rw [perm_sum (p.map (dsT 0 D E n)), List.map_map]
  congr 1
  refine List.map_congr_left fun d hd => ?_
  show dsT 0 D E n (n / d) = dsT 0 E D n d
  unfold dsT
  rw [div_back n1 (dv d hd).2 (dv d hd).1, Nat.pow_zero, Nat.pow_zero, Int.mul_comm (valueAt D _)]
theorem dsF_ones {n : Nat} (h1 : ∀ x : Nat, valueAt 1 (x : Int) = 1) : dsF 0 1 1 n = ((dvs n).length : Int) := by
  unfold dsF
  have : ∀ l : List Nat, (l.map (dsT 0 1 1 n)).sum = (l.length : Int) := fun l => by
    induction l with
    | nil => rfl
    | cons x l ih =>
      rw [List.map_cons, List.sum_cons, ih, List.length_cons]
      unfold dsT
      rw [h1, h1, Nat.pow_zero]
      simp
      omega
  exact this _
/-! ### prime powers -/
def Pri (p : Nat) : Prop := 2 ≤ p ∧ ∀ d, d ∣ p → d = 1 ∨ d = p
theorem Pri.cop {p n : Nat} (h : Pri p) (k : ¬ n % p = 0) : Nat.gcd p n = 1 := by
  rcases h.2 _ (Nat.gcd_dvd_left p n) with e | e
  · exact e
  · exact absurd (Nat.mod_eq_zero_of_dvd (by rw [← e]; exact Nat.gcd_dvd_right p n)) k
theorem Pri.pow {p : Nat} (h : Pri p) : ∀ e d, d ∣ p ^ e → ∃ i, i ≤ e ∧ d = p ^ i
  | 0, d, hd => ⟨0, Nat.le_refl _, by rw [Nat.pow_zero] at hd ⊢; exact Nat.dvd_one.mp hd⟩
  | e + 1, d, hd => by
    by_cases k : d % p = 0
    · obtain ⟨c, rfl⟩ := Nat.dvd_of_mod_eq_zero k
      rw [Nat.pow_succ, Nat.mul_comm (p ^ e)] at hd
      obtain ⟨i, hi, rfl⟩ := h.pow e c (Nat.dvd_of_mul_dvd_mul_left (by have := h.1; omega) hd)
      exact ⟨i + 1, by omega, by rw [Nat.pow_succ, Nat.mul_comm]⟩
    · rw [Nat.pow_succ] at hd
      have c : Nat.Coprime d p := Nat.Coprime.symm (h.cop k)
      obtain ⟨i, hi, rfl⟩ := h.pow e d (Nat.Coprime.dvd_of_dvd_mul_right c hd)
      exact ⟨i, by omega, rfl⟩
def geo (a b : Int) (e : Nat) : Int := ((List.range (e + 1)).map fun i => a ^ (e - i) * b ^ i).sum
theorem geo_0 (a b : Int) : geo a b 0 = 1 := by unfold geo; simp
theorem geo_succ (a b : Int) (e : Nat) : geo a b (e + 1) = a * geo a b e + b ^ (e + 1) := by
  unfold geo
  rw [List.range_succ, List.map_append, List.sum_append, ← sum_mul_left]
  congr 1
  · congr 1
    refine List.map_congr_left fun i hi => ?_
    have := List.mem_range.mp hi
    rw [show e + 1 - i = (e - i) + 1 by omega, Int.pow_succ]
    grind
  · simp
theorem geo_1 (a b : Int) : geo a b 1 = a + b := by rw [geo_succ, geo_0]; grind
theorem geo_two (a b : Int) (e : Nat) : geo a b (e + 2) = (a + b) * geo a b (e + 1) - a * b * geo a b e := by
  rw [geo_succ a b (e + 1), geo_succ a b e, Int.pow_succ b (e + 1)]
  grind
theorem val_pow {s : Int} (h : Sm s) (p : Nat) : ∀ e, valueAt s ((p ^ e : Nat) : Int) = valueAt s (p : Int) ^ e
  | 0 => by rw [Nat.pow_zero, h.one, Int.pow_zero]
  | e + 1 => by rw [Nat.pow_succ, h.mul, val_pow h p e, Int.pow_succ]
theorem dsF_pow {k : Nat} {D E : Int} (hD : Sm D) (hE : Sm E) {p : Nat} (hp : Pri p) (e : Nat) : dsF k D E (p ^ e) = geo (valueAt D (p : Int)) (valueAt E (p : Int) * ((p ^ k : Nat) : Int)) e := by
  have p0 : 0 < p := by have := hp.1; omega
  have pe1 : 1 ≤ p ^ e := Nat.pow_pos p0
  have pm : (dvs (p ^ e)).Perm ((List.range (e + 1)).map fun i => p ^ i) := by
    refine dvs_perm pe1 ?_ fun x => ?_
    · unfold List.Nodup
      rw [List.pairwise_map]
      refine List.Pairwise.imp (fun {a b} h z => ?_) List.pairwise_lt_range
      have := Nat.pow_lt_pow_right (show 1 < p by have := hp.1; omega) h
      omega
    · rw [List.mem_map]
      constructor
      · rintro ⟨i, hi, rfl⟩
        have := List.mem_range.mp hi
        exact ⟨Nat.pow_pos p0, Nat.mod_eq_zero_of_dvd (Nat.pow_dvd_pow p (by omega))⟩
      · rintro ⟨h1, h2⟩
        obtain ⟨i, hi, rfl⟩ := hp.pow e x (Nat.dvd_of_mod_eq_zero h2)
        exact ⟨i, List.mem_range.mpr (by omega), rfl⟩
  unfold dsF geo
  rw [perm_sum (pm.map _), List.map_map]
  congr 1
  refine List.map_congr_left fun i hi => ?_
  have hi : i < e + 1 := List.mem_range.mp hi
  show dsT k D E (p ^ e) (p ^ i) = _
  unfold dsT
  rw [Nat.pow_div (by omega) p0, val_pow hD, val_pow hE, Int.mul_pow, ← Nat.pow_mul, Nat.mul_comm i k, Nat.pow_mul, Int.natCast_pow (p ^ k) i, Int.mul_assoc]
theorem dsF_one {k : Nat} {D E : Int} (hD : Sm D) (hE : Sm E) : dsF k D E 1 = 1 := by
  unfold dsF
  rw [show dvs 1 = [1] by decide +kernel, List.map_cons, List.map_nil, List.sum_cons]
  unfold dsT
  rw [show 1 / 1 = 1 from rfl, hD.one, hE.one, Nat.one_pow]
  rfl
/-! ### joined signs -/
theorem dsF_join {k : Nat} {D E J1 J2 t : Int} {n : Nat} (n1 : 1 ≤ n) (ht : Sm t) (h1 : ∀ d, d ∣ n → valueAt J1 (d : Int) = valueAt D (d : Int) * valueAt t (d : Int)) (h2 : ∀ d, d ∣ n → valueAt J2 (d : Int) = valueAt E (d : Int) * valueAt t (d : Int)) : dsF k J1 J2 n = dsF k D E n * valueAt t (n : Int) := by
  unfold dsF
  rw [Int.mul_comm, ← sum_mul_left]
  congr 1
  refine List.map_congr_left fun d hd => ?_
  obtain ⟨d1, dm⟩ := (dvs_iff n1 d).mp hd
  obtain ⟨e, _, m2⟩ := div_part n1 dm d1
  unfold dsT
  rw [h1 _ (Nat.dvd_of_mod_eq_zero m2), h2 _ (Nat.dvd_of_mod_eq_zero dm)]
  rw [show valueAt t (n : Int) = valueAt t (d : Int) * valueAt t ((n / d : Nat) : Int) by rw [← ht.mul, e]]
  grind
end Ft

namespace Ft
open PySem L2
/-- reading an item of a list, for an augmented store -/
def rGetL : V → V → Hp → VK → Prop := fun o i H Q => ∃ (p : Addr) (xs : List V) (k : Nat) (x : V), o = .ref p ∧ i = .int (k : Int) ∧ H p = some (.lst xs) ∧ xs[k]? = some x ∧ xs.length < 2 ^ 62 ∧ Q x H
theorem get_lst {X : Cx} : PGet X rGetL := by
  intro pins s σ H o i ov iv Q I ro ri h
  obtain ⟨p, xs, k, x, rfl, rfl, hp, hx, hl, q⟩ := h
  obtain rfl : ov = Value.ref p := ro
  obtain ⟨t, rfl⟩ : ∃ t, iv = Value.int (k : Int) t := ri
  have hk := I.hok _ _ hp
  simp only [ObjOk] at hk
  obtain ⟨_, its, n, rv, ho⟩ := hk
  obtain ⟨u, hu, ru⟩ := Vals.get rv hx
  have hkl : k < xs.length := (List.getElem?_eq_some_iff.mp hx).1
  refine PySem.wpAny_getItem_list (items := its.toArray) (k := (k : Int)) (x := u) ⟨_, ho, rfl, n, rfl⟩ (by omega) (by omega) ?_ ⟨x, H, I, ru, q⟩
  rw [Int.toNat_natCast, List.getElem?_toArray]
  exact hu
theorem rgC {d M : Nat} (hd : 1 ≤ d) (hd2 : d ≤ 400) (hM : M ≤ 400) : RgC (d : Int) (M : Int) (d : Int) ((M - 1) / d) := by
  have key : Builtin.Range.rangeSize (d : Int) (M : Int) (d : Int) = (((M - 1) / d : Nat) : Int) := by
    unfold Builtin.Range.rangeSize
    rw [if_pos (by omega)]
    by_cases h : (d : Int) < (M : Int)
    · rw [if_pos h]
      have e1 : ((M : Int) - (d : Int) - 1) = ((M - d - 1 : Nat) : Int) := by omega
      rw [e1]
      have e2 : (M - 1) / d = (M - d - 1) / d + 1 := by
        rw [show M - 1 = M - d - 1 + d by omega, Nat.add_div_right _ (by omega)]
      rw [e2]
      rfl
    · rw [if_neg h]
      have : (M - 1) / d = 0 := Nat.div_eq_of_lt (by omega)
      rw [this]
      rfl
  have hle : (M - 1) / d ≤ 400 := Nat.le_trans (Nat.div_le_self _ _) (by omega)
  have fit : ∀ z : Int, -2000 ≤ z → z ≤ 2000 → Builtin.Range.rangeFitsLong z = true := fun z a b => by
    unfold Builtin.Range.rangeFitsLong
    simp only [Bool.and_eq_true, decide_eq_true_eq]
    omega
  generalize (M - 1) / d = q at key hle
  refine ⟨by omega, by omega, ?_, key⟩
  unfold Builtin.Range.small
  rw [key, if_pos (by omega), fit _ (by omega) (by omega), fit _ (by omega) (by omega), fit _ (by omega) (by omega), fit ((M : Int) + ((d : Int) - 1)) (by omega) (by omega)]
  simp
theorem set_map {α : Type} (f : Nat → α) (v : α) {M k : Nat} (hk : k < M) : ((List.range M).map f).set k v = (List.range M).map fun n => if n = k then v else f n := by
  apply List.ext_getElem?
  intro i
  rw [List.getElem?_set, List.getElem?_map, List.getElem?_map]
  rcases Nat.lt_or_ge i M with hi | hi
  · rw [List.getElem?_range hi, List.length_map, List.length_range]
    by_cases h : k = i
    · rw [if_pos h, if_pos (by omega)]
      show some v = some (if i = k then v else f i)
      rw [if_pos h.symm]
    · rw [if_neg h]
      show some (f i) = some (if i = k then v else f i)
      rw [if_neg (fun z => h z.symm)]
  · rw [List.getElem?_eq_none (by rw [List.length_range]; exact hi)]
    by_cases h : k = i
    · omega
    · rw [if_neg h]
      rfl
end Ft

set_option exponentiation.threshold 9000
namespace Ft
open PySem L2
/-! ### the program's row of sums over divisors, divisor by divisor -/
def dsU (k : Nat) (D E : Int) : Nat → Nat → Int
  | 0, _ => 0
  | d + 1, n => dsU k D E d n + if n % (d + 1) = 0 ∧ 1 ≤ n then dsT k D E n (d + 1) else 0
def dsV (k : Nat) (D E : Int) (d i n : Nat) : Int := dsU k D E d n + if n % (d + 1) = 0 ∧ 1 ≤ n / (d + 1) ∧ n / (d + 1) ≤ i then dsT k D E n (d + 1) else 0
theorem dsV_zero {k : Nat} {D E : Int} {d n : Nat} : dsV k D E d 0 n = dsU k D E d n := by
  unfold dsV
  rw [if_neg (by omega)]
  omega
theorem dsV_last {k : Nat} {D E : Int} {d M n : Nat} (hn : n < M) : dsV k D E d ((M - 1) / (d + 1)) n = dsU k D E (d + 1) n := by
  show dsU k D E d n + _ = dsU k D E d n + _
  congr 1
  have hle : n / (d + 1) ≤ (M - 1) / (d + 1) := Nat.div_le_div_right (by omega)
  by_cases h : n % (d + 1) = 0 ∧ 1 ≤ n
  · have h1 : 1 ≤ n / (d + 1) := (Nat.le_div_iff_mul_le (by omega)).mpr (by rw [Nat.one_mul]; exact Nat.le_of_dvd (by omega) (Nat.dvd_of_mod_eq_zero h.1))
    rw [if_pos h, if_pos ⟨h.1, h1, hle⟩]
  · rw [if_neg h, if_neg fun z => h ⟨z.1, by
      rcases Nat.eq_zero_or_pos n with e | e
      · rw [e, Nat.zero_div] at z; omega
      · exact e⟩]
theorem dsV_step {k : Nat} {D E : Int} {d i n : Nat} : dsV k D E d (i + 1) n = if n = (d + 1) + i * (d + 1) then dsV k D E d i n + dsT k D E n (d + 1) else dsV k D E d i n := by
  unfold dsV
  have hp : 0 < d + 1 := by omega
  generalize dsU k D E d n = x
  generalize dsT k D E n (d + 1) = y
  generalize d + 1 = d at hp
  have key : n = d + i * d ↔ n % d = 0 ∧ n / d = i + 1 := by
    constructor
    · intro h
      have : n = d * (i + 1) := by rw [h, Nat.mul_add, Nat.mul_one, Nat.mul_comm, Nat.add_comm]
      rw [this]
      exact ⟨Nat.mul_mod_right _ _, Nat.mul_div_cancel_left _ hp⟩
    · rintro ⟨h1, h2⟩
      have := Nat.div_add_mod n d
      rw [h1, h2, Nat.add_zero, Nat.mul_add, Nat.mul_one, Nat.mul_comm] at this
      omega
  by_cases hk : n = d + i * d
  · obtain ⟨h1, h2⟩ := key.mp hk
    rw [if_pos hk, if_pos ⟨h1, by omega, by omega⟩, if_neg (by omega)]
    omega
  · rw [if_neg hk]
    have hne : ¬ (n % d = 0 ∧ n / d = i + 1) := fun z => hk (key.mpr z)
    by_cases hc : n % d = 0 ∧ 1 ≤ n / d ∧ n / d ≤ i
    · rw [if_pos hc, if_pos ⟨hc.1, hc.2.1, by omega⟩]
    · rw [if_neg hc, if_neg (fun z => hc ⟨z.1, z.2.1, by have : n / d ≠ i + 1 := fun k => hne ⟨z.1, k⟩; omega⟩)]
theorem dsU_0 (k : Nat) (D E : Int) : ∀ d, dsU k D E d 0 = 0
  | 0 => rfl
  | d + 1 => by
    show dsU k D E d 0 + _ = 0
    rw [dsU_0 k D E d, if_neg (by omega)]
    rfl
theorem dsU_sum (k : Nat) (D E : Int) {n : Nat} (n1 : 1 ≤ n) : ∀ d, dsU k D E d n = ((((List.range d).filter fun e => decide (n % (e + 1) = 0)).map fun e => e + 1).map (dsT k D E n)).sum
  | 0 => rfl
  | d + 1 => by
    show dsU k D E d n + _ = _
    rw [dsU_sum k D E n1 d, filter_succ, List.map_append, List.map_append, List.sum_append]
    congr 1
    by_cases h : n % (d + 1) = 0
    · rw [if_pos ⟨h, n1⟩, if_pos (decide_eq_true h)]
      simp
    · rw [if_neg (fun z => h z.1), if_neg (by simpa using h)]
      rfl
theorem dsU_all (k : Nat) (D E : Int) {n d : Nat} (n1 : 1 ≤ n) (h : n ≤ d) : dsU k D E d n = dsF k D E n := by
  rw [dsU_sum k D E n1]
  unfold dsF
  refine (perm_sum ((dvs_perm n1 ?_ fun x => ?_).map _)).symm
  · unfold List.Nodup
    rw [List.pairwise_map]
    exact (List.Pairwise.filter _ List.pairwise_lt_range).imp fun h => by omega
  · rw [List.mem_map]
    constructor
    · rintro ⟨e, he, rfl⟩
      exact ⟨by omega, of_decide_eq_true (List.mem_filter.mp he).2⟩
    · rintro ⟨h1, h2⟩
      have := Nat.le_of_dvd (by omega) (Nat.dvd_of_mod_eq_zero h2)
      refine ⟨x - 1, List.mem_filter.mpr ⟨List.mem_range.mpr (by omega), ?_⟩, by omega⟩
      rw [show x - 1 + 1 = x by omega]
      exact decide_eq_true h2
/-- the told row: 0 at 0 -/
def dsR (k : Nat) (D E : Int) (n : Nat) : Int := if n = 0 then 0 else dsF k D E n
theorem dsU_row (k : Nat) (D E : Int) {n M : Nat} (h : n < M) : dsU k D E (M - 1) n = dsR k D E n := by
  unfold dsR
  by_cases e : n = 0
  · rw [if_pos e, e, dsU_0]
  · rw [if_neg e, dsU_all k D E (by omega) (by omega)]
def rowL (M : Nat) (f : Nat → Int) : List V := (List.range M).map fun n => V.int (f n)
theorem rowL_len (M : Nat) (f : Nat → Int) : (rowL M f).length = M := by unfold rowL; rw [List.length_map, List.length_range]
theorem rowL_get {M : Nat} (f : Nat → Int) {k : Nat} (hk : k < M) : (rowL M f)[k]? = some (V.int (f k)) := by unfold rowL; rw [List.getElem?_map, List.getElem?_range hk]; rfl
theorem rowL_congr {M : Nat} {f g : Nat → Int} (h : ∀ n, n < M → f n = g n) : rowL M f = rowL M g := by
  unfold rowL
  exact List.map_congr_left fun n hn => by rw [h n (List.mem_range.mp hn)]
end Ft

set_option exponentiation.threshold 9000
namespace Ft
open PySem L2
def sp_dsums : Sp := fun vs H Q _ => ∃ (k M : Nat) (x y : Int), vs = [.int (k : Int), .int x, .int y, .int (M : Int)] ∧ k ≤ 24 ∧ isSign x = true ∧ isSign y = true ∧ 1 ≤ M ∧ M ≤ 400 ∧ ∀ H' p, Same H H' → H p = none → H' p = some (.lst (rowL M (dsR k x y))) → Q (.ref p) H'
theorem rep0 (v : V) : ∀ M : Nat, (List.replicate M [v]).flatten = List.replicate M v
  | 0 => rfl
  | M + 1 => by rw [List.replicate_succ, List.flatten_cons, rep0 v M, List.replicate_succ]; rfl
section
variable {P : Program} {w : World} {K : PySem.W.Frag} {mg : Str → Option Value} {base : Heap}
theorem ok_dsums (D : Df K mg "divisor_sums" s_divisor_sums ["k", "one", "other", "many"]) (B : Bi mg) (c_value_at : Cal P w K mg base 2 "value_at" sp_value_at) (c_raised : Cal P w K mg base 1 "raised" sp_raised) : Cal P w K mg base 3 "divisor_sums" sp_dsums := by
  obtain ⟨f, fd, F, m, b⟩ := D.ex
  have sc := sc_divisor_sums
  refine ⟨f, fd, _, F.ok sc (fun _ _ _ _ ⟨_, _, _, _, e, _⟩ => by rw [e]; rfl) (fun cdv A outer s H vs Q E hr h => ?_), m, F.kp, b⟩
  obtain ⟨k, M, x, y, rfl, k24, hx, hy, M1, M4, q⟩ := h
  refine ⟨_, (pss_cons (ps_set (i := 4) sc.nd rfl (Or.inl rfl) (pe_op op_rep (pe_lst (pa_cons pe_int pa_nil)) (pv 3)))
      (pss_cons (ps_for PassesOwn.never rfl (pi_range2 (by rfl) B.range (pa_cons pe_int (pa_cons (pv 3) pa_nil))) (pg_name (i := 5) sc.nd rfl (Or.inl rfl))
      (pss_cons (ps_set (i := 6) sc.nd rfl (Or.inl rfl) (pe_op op_mulW (pe_c c_value_at hr (by decide) (by rfl) (pa_cons (pv 2) (pa_cons (pv 5) pa_nil))) (pe_c c_raised hr (by decide) (by rfl) (pa_cons (pv 5) (pa_cons (pv 0) pa_nil)))))
        (pss_one (ps_for PassesOwn.never rfl (pi_range3 rfl B.range (pa_cons (pv 5) (pa_cons (pv 3) (pa_cons (pv 5) pa_nil)))) (pg_name (i := 7) sc.nd rfl (Or.inl rfl))
        (pss_one (ps_augS (pv 4) (pv 7) get_lst (pe_op op_mulW (pe_c c_value_at hr (by decide) (by rfl) (pa_cons (pv 1) (pa_cons (pe_op op_fdivW (pv 7) (pv 5)) pa_nil))) (pv 6)) ip_add set_list))))))
      (pss_one (ps_ret (pv 4))))), ?_⟩
  have x0 := (isSign_le hx).2.1
  have y0 := (isSign_le hy).2.1
  refine ⟨(by show (1 : Nat) ≤ sizeLine; decide), fun l0 hl0 => ?_⟩
  have s0 : Same H (upd H l0 (.lst [V.int 0])) := Same.upd_new hl0
  have h0 : (upd H l0 (.lst [V.int 0])) l0 = some (.lst [V.int 0]) := upd_same
  generalize upd H l0 (.lst [V.int 0]) = H0 at s0 h0
  refine ⟨_, rfl, l0, (M : Int), _, rfl, rfl, h0, by omega, by omega, ?_, fun L hL => ?_⟩
  · rw [Int.toNat_natCast]
    exact Nat.le_trans (by show 1 * M ≤ 400; omega) (by decide : 400 ≤ sizeLine)
  have hL0 : H L = none := s0.free hL
  have hz : (List.replicate ((M : Int)).toNat [V.int 0]).flatten = rowL M (dsU k x y 0) := by
    rw [Int.toNat_natCast, rep0]
    unfold rowL
    exact (List.map_const' .. ▸ by rw [List.length_range] : List.replicate M (V.int 0) = (List.range M).map fun _ => V.int 0)
  rw [hz]
  have s1 := s0.trans (Same.upd_new (o := .lst (rowL M (dsU k x y 0))) hL)
  have h1 : (upd H0 L (.lst (rowL M (dsU k x y 0)))) L = some (.lst (rowL M (dsU k x y 0))) := upd_same
  generalize upd H0 L (.lst (rowL M (dsU k x y 0))) = H1 at s1 h1
  dsimp only [gName]
  refine ⟨_, rfl, 1, (M : Int), rfl, by omega, for_range (lo := 1) (n := ((M : Int) - 1).toNat) (fun i σ H' => Same H H' ∧ H' L = some (.lst (rowL M (dsU k x y i))) ∧ ∃ o5 o6 o7 : Option V, σ = [some (.int (k : Int)), some (.int x), some (.int y), some (.int (M : Int)), some (.ref L), o5, o6, o7]) ⟨s1, h1, none, none, none, rfl⟩ ?_ ?_⟩
  · rintro i σ H2 hi ⟨s2, h2, o5, o6, o7, rfl⟩
    have hi : i + 1 < M := by omega
    have ei : (1 : Int) + (i : Int) = ((i + 1 : Nat) : Int) := by omega
    have dk : (i + 1) ^ k ≤ 2 ^ 408 := pow_100k (by omega) k24
    have mf : CMulW (valueAt y ((i + 1 : Nat) : Int)) (((i + 1) ^ k : Nat) : Int) := mul8 (Nat.lt_of_le_of_lt (val_le _ _) (by decide)) (by rw [Int.natAbs_natCast]; exact Nat.lt_of_le_of_lt dk (by decide))
    dsimp only [gName]
    rw [ei]
    refine ⟨_, rfl, _, rfl, y, _, rfl, y0, ?_⟩
    refine ⟨_, rfl, _, rfl, i + 1, k, rfl, by omega, Nat.lt_of_le_of_lt dk (Nat.pow_lt_pow_right (by decide) (by decide)), _, _, rfl, rfl, mf, ?_⟩
    have h2' : H2 L = some (.lst (rowL M (dsV k x y i 0))) := by rw [h2]; exact congrArg (fun z => some (HO.lst z)) (rowL_congr fun n _ => dsV_zero.symm)
    dsimp only [gName]
    refine ⟨_, rfl, _, rfl, _, rfl, ((i + 1 : Nat) : Int), (M : Int), ((i + 1 : Nat) : Int), (M - 1) / (i + 1), rfl, rgC (by omega) (by omega) (by omega), for_rangeC (lo := ((i + 1 : Nat) : Int)) (c := ((i + 1 : Nat) : Int)) (n := (M - 1) / (i + 1)) (fun j σ H' => Same H H' ∧ H' L = some (.lst (rowL M (dsV k x y i j))) ∧ ∃ o7 : Option V, σ = [some (.int (k : Int)), some (.int x), some (.int y), some (.int (M : Int)), some (.ref L), some (.int ((i + 1 : Nat) : Int)), some (.int (valueAt y ((i + 1 : Nat) : Int) * (((i + 1) ^ k : Nat) : Int))), o7]) ⟨s2, h2', o7, rfl⟩ ?_ ?_⟩
    · rintro j σ H3 hj ⟨s3, h3, o7, rfl⟩
      have en : ((i + 1 : Nat) : Int) + ((j : Nat) : Int) * ((i + 1 : Nat) : Int) = (((i + 1) + j * (i + 1) : Nat) : Int) := by rw [Int.natCast_add ((i + 1)) (j * (i + 1)), Int.natCast_mul]
      have kb : (i + 1) + j * (i + 1) ≤ M - 1 := by
        have h := Nat.mul_div_le (M - 1) (i + 1)
        have h2 : (i + 1) * (j + 1) ≤ (i + 1) * ((M - 1) / (i + 1)) := Nat.mul_le_mul_left _ hj
        rw [Nat.mul_add, Nat.mul_one, Nat.mul_comm] at h2
        omega
      have st := fun n => dsV_step (k := k) (D := x) (E := y) (d := i) (i := j) (n := n)
      have i1 : 0 < i + 1 := by omega
      have dk2 := dk
      have eT : ∀ n, valueAt x ((n / (i + 1) : Nat) : Int) * (valueAt y ((i + 1 : Nat) : Int) * (((i + 1) ^ k : Nat) : Int)) = dsT k x y n (i + 1) := fun n => by unfold dsT; rw [Int.mul_assoc]
      generalize hn : (i + 1) + j * (i + 1) = n at en kb st
      generalize hd : i + 1 = dd at *
      have hs : (rowL M (dsV k x y i j)).set n (V.int (dsV k x y i j n + dsT k x y n dd)) = rowL M (dsV k x y i (j + 1)) := by
        unfold rowL
        rw [set_map _ _ (by omega)]
        refine List.map_congr_left fun z _ => ?_
        rw [st]
        by_cases e : z = n
        · rw [if_pos e, if_pos e, e]
        · rw [if_neg e, if_neg e]
      dsimp only [gName]
      rw [en]
      have ed : ((n : Nat) : Int) / ((dd : Nat) : Int) = ((n / dd : Nat) : Int) := (Int.natCast_ediv n dd).symm
      refine ⟨_, rfl, _, rfl, L, _, n, _, rfl, rfl, h3, rowL_get _ (by omega), by rw [rowL_len]; exact Nat.lt_of_le_of_lt M4 (by decide), ?_⟩
      refine ⟨_, rfl, _, rfl, _, rfl, _, _, rfl, rfl, cdivN i1 (by omega), x, _, rfl, x0, _, rfl, _, _, rfl, rfl, ?_, _, _, rfl, rfl, L, _, _, n, rfl, rfl, h3, ?_, ?_⟩
      · exact mul8 (Nat.lt_of_le_of_lt (val_le _ _) (by decide)) (Nat.lt_of_le_of_lt (one_mul_le (val_le _ _) (by rw [Int.natAbs_natCast]; exact dk)) (by decide))
      · rw [rowL_len]
        unfold ixN
        rw [if_pos (by omega), if_pos (by omega), Int.toNat_natCast]
      · dsimp only
        rw [ed, eT, hs]
        refine ⟨fun b o e => ?_, upd_same, _, rfl⟩
        rw [upd_ne (ne_of_none e hL0)]
        exact s3 _ _ e
    · rintro σ H3 ⟨s3, h3, o7, rfl⟩
      rw [rowL_congr (fun n hn => dsV_last hn)] at h3
      exact ⟨s3, h3, _, _, _, rfl⟩
  · rintro σ H2 ⟨s2, h2, o5, o6, o7, rfl⟩
    rw [show ((M : Int) - 1).toNat = M - 1 by omega, rowL_congr (fun n hn => dsU_row k x y hn)] at h2
    exact ⟨_, rfl, q _ L s2 hL0 h2⟩
end
end Ft

set_option exponentiation.threshold 9000
namespace Ft
open PySem L2
/-- a divisor piece -/
def PcAt (H : Hp) (v : V) (k : Nat) (x y : Int) (t : Nat) : Prop := ∃ p, v = .ref p ∧ H p = some (.tup [.str (Str.ofString "sum"), .int (k : Int), .int x, .int y, .int (t : Int)])
theorem PcAt.same {H H' : Hp} {v : V} {k : Nat} {x y : Int} {t : Nat} (h : PcAt H v k x y t) (s : Same H H') : PcAt H' v k x y t := by
  obtain ⟨p, a, b⟩ := h
  exact ⟨p, a, s _ _ b⟩
def isPl (k : Nat) (x y : Int) : Bool := decide (k = 2) && (decide (x = 1) && decide (y = 1))
structure PcOk (k : Nat) (x y : Int) (t : Nat) : Prop where
  k1 : 1 ≤ k
  k24 : k ≤ 24
  sx : isSign x = true
  sy : isSign y = true
  t1 : 1 ≤ t
  par : decide (0 < x * y) = decide (k % 2 = 0)
  lev : (x * y).natAbs * t ≤ 400
  one : k = 1 → x < y
  pl : k ≠ 1 → 2 ≤ t ∨ isPl k x y = false
def sp_isTold : Sp := fun vs H Q _ => ∃ v k x y t, vs = [v, .str (Str.ofString "sum"), .int 5] ∧ PcAt H v k x y t ∧ ∀ H', Same H H' → Q (.bl true) H'
def sp_isPlain : Sp := fun vs H Q _ => ∃ v k x y t, vs = [v] ∧ PcAt H v k x y t ∧ ∀ H', Same H H' → Q (.bl (isPl k x y)) H'
def sp_isPiece : Sp := fun vs H Q _ => ∃ v k x y t, vs = [v] ∧ PcAt H v k x y t ∧ PcOk k x y t ∧ ∀ H', Same H H' → Q (.bl true) H'
def sp_checkPiece : Sp := fun vs H Q _ => ∃ v k x y t, vs = [v] ∧ PcAt H v k x y t ∧ PcOk k x y t ∧ ∀ H', Same H H' → Q .non H'
section
variable {P : Program} {w : World} {K : PySem.W.Frag} {mg : Str → Option Value} {base : Heap}
theorem ok_isTold (D : Df K mg "is_told" s_is_told ["thing", "word", "many"]) (B : Bi mg) : Cal P w K mg base 1 "is_told" sp_isTold := by
  obtain ⟨f, fd, F, m, b⟩ := D.ex
  have sc := sc_is_told
  refine ⟨f, fd, _, F.ok sc (fun _ _ _ _ ⟨_, _, _, _, _, e, _⟩ => by rw [e]; rfl) (fun cdv A outer s H vs Q E hr h => ?_), m, F.kp, b⟩
  obtain ⟨v, k, x, y, t, rfl, ⟨p, rfl, hp⟩, q⟩ := h
  refine ⟨_, (pss_one (ps_ret (pe_and (pe_callB call_isi (by rfl) B.isinstance (by decide +kernel) (pa_cons (pv 0) (pa_cons (pe_ty (n := "tuple") (by rfl) B.tuple (by decide +kernel)) pa_nil))) (pe_and (pe_cmpR op_eq (pe_callB call_len_seq (by rfl) B.len_ (by decide +kernel) (pa_cons (pv 0) pa_nil)) (pv 2) (nomark _)) (pe_one (pe_cmpR op_eq (pe_ix (show IxR _ (rIx K) from ix_seq) (pv 0) pe_int (fun _ _ => rfl)) (pv 1) (nomark _))))))), ?_⟩
  refine ⟨_, rfl, _, _, _, _, true, rfl, .ty _, .base (.tup hp), kit_tup_tup, true, rfl, iteT ?_⟩
  refine ⟨_, rfl, p, _, rfl, .inr (SqT.of hp), ?_⟩
  refine ⟨_, rfl, rfl, true, rfl, iteT ?_⟩
  refine ⟨_, rfl, .inr (.inl ⟨p, _, 0, _, rfl, rfl, SqT.of hp, atI_nat (j := 0) rfl, _, rfl, rfl, ?_⟩)⟩
  rw [decide_eq_true rfl]
  exact q _ (Same.refl H)
theorem ok_isPlain (D : Df K mg "is_plain" s_is_plain ["divisor_piece"]) : Cal P w K mg base 1 "is_plain" sp_isPlain := by
  obtain ⟨f, fd, F, m, b⟩ := D.ex
  have sc := sc_is_plain
  refine ⟨f, fd, _, F.ok sc (fun _ _ _ _ ⟨_, _, _, _, _, e, _⟩ => by rw [e]; rfl) (fun cdv A outer s H vs Q E hr h => ?_), m, F.kp, b⟩
  obtain ⟨v, k, x, y, t, rfl, ⟨p, rfl, hp⟩, q⟩ := h
  have h64 : (A.deeper (PyProof.Rows.envOfC "is_plain" (defScope s_is_plain) s.heap.objs.size f cdv)).units + 64 < cLine := by have := hr.un; omega
  refine ⟨_, (pss_one (ps_ret (pe_cmpR (op_eqD h64) (pe_slice sl_tup (pv 0) (po_some pe_int) (po_some pe_int)) (pe_tup (pa_cons pe_int (pa_cons pe_int (pa_cons pe_int pa_nil)))) (nomark _)))), ?_⟩
  refine ⟨_, rfl, _, rfl, _, rfl, p, _, rfl, SqT.of hp, (by show ¬ ((1 : Nat) = 0 ∧ (4 : Nat) = 5); decide), fun p1 hp1 => ?_⟩
  have ec : cutV [V.str (Str.ofString "sum"), V.int (k : Int), V.int x, V.int y, V.int (t : Int)] (some 1) (some 4) = [V.int (k : Int), V.int x, V.int y] := rfl
  rw [ec]
  have s1 : Same H (upd H p1 (.tup [V.int (k : Int), V.int x, V.int y])) := Same.upd_new hp1
  have h1 : (upd H p1 (.tup [V.int (k : Int), V.int x, V.int y])) p1 = some (.tup [V.int (k : Int), V.int x, V.int y]) := upd_same
  generalize upd H p1 (.tup [V.int (k : Int), V.int x, V.int y]) = H1 at s1 h1
  refine ⟨(by show (3 : Nat) ≤ sizeLine; decide), fun p2 hp2 => ?_⟩
  have s2 : Same H1 (upd H1 p2 (.tup [V.int 2, V.int 1, V.int 1])) := Same.upd_new hp2
  have h2 : (upd H1 p2 (.tup [V.int 2, V.int 1, V.int 1])) p2 = some (.tup [V.int 2, V.int 1, V.int 1]) := upd_same
  generalize upd H1 p2 (.tup [V.int 2, V.int 1, V.int 1]) = H2 at s2 h2
  refine ⟨.tuple [.int (k : Int), .int x, .int y], .tuple [.int 2, .int 1, .int 1], .tup (SqT.of (s2 _ _ h1)) (.cons (.int _) (.cons (.int _) (.cons (.int _) .nil))), .tup (SqT.of h2) (.cons (.int _) (.cons (.int _) (.cons (.int _) .nil))), rfl, rfl, ?_⟩
  have ee : PyData.eqv (.tuple [.int (k : Int), .int x, .int y]) (.tuple [.int 2, .int 1, .int 1]) = isPl k x y := by
    show (((k : Int) == 2) && ((x == 1) && ((y == 1) && true))) = isPl k x y
    have a1 : ((k : Int) == 2) = decide (k = 2) := by
      by_cases h : k = 2
      · rw [decide_eq_true h, h]; rfl
      · rw [decide_eq_false h]; exact beq_eq_false_iff_ne.mpr (by omega)
    have b1 : ∀ z : Int, (z == 1) = decide (z = 1) := fun z => by
      by_cases h : z = 1
      · rw [decide_eq_true h, h]; rfl
      · rw [decide_eq_false h]; exact beq_eq_false_iff_ne.mpr h
    rw [a1, b1, b1, Bool.and_true]
    rfl
  rw [ee]
  exact q _ (s1.trans s2)
theorem fn_isPiece {f : Addr} {fd : FuncData} (F : Fun K "is_divisor_piece" "is_divisor_piece" s_is_divisor_piece f fd) (B : Bi mg) (c_is_told : Cal P w K mg base 1 "is_told" sp_isTold) (c_is_from : Cal P w K mg base 2 "is_from" sp_from) (c_is_sign : Cal P w K mg base 3 "is_sign" sp_is_sign) (c_is_between : Cal P w K mg base 2 "is_between" sp_is_between) (c_is_plain : Cal P w K mg base 1 "is_plain" sp_isPlain) : FnOk P w K mg base CX0 4 f fd ["thing"] sp_isPiece := by
  have sc := sc_is_divisor_piece
  refine F.ok sc (fun _ _ _ _ ⟨_, _, _, _, _, e, _⟩ => by rw [e]; rfl) (fun cdv A outer s H vs Q E hr h => ?_)
  obtain ⟨v, k, x, y, t, rfl, ⟨p, rfl, hp⟩, ok, q⟩ := h
  refine ⟨_, (pss_cons (ps_if (pt_not (pt_val (pe_c c_is_told hr (by decide) (by rfl) (pa_cons (pv 0) (pa_cons pe_str (pa_cons pe_int pa_nil))))))
      (pss_one (ps_ret pe_bl))
      pss_nil)
      (pss_cons (ps_asg (pv 0) (pg_tup rfl (pgs_cons (pg_name (i := 1) sc.nd rfl (Or.inl rfl)) (pgs_cons (pg_name (i := 2) sc.nd rfl (Or.inl rfl)) (pgs_cons (pg_name (i := 3) sc.nd rfl (Or.inl rfl)) (pgs_cons (pg_name (i := 4) sc.nd rfl (Or.inl rfl)) (pgs_cons (pg_name (i := 5) sc.nd rfl (Or.inl rfl)) pgs_nil)))))))
      (pss_cons (ps_if (PW.pt (pw_or (pt_not (pt_val (pe_c c_is_between hr (by decide) (by rfl) (pa_cons (pv 2) (pa_cons pe_int (pa_cons pe_int pa_nil)))))) (pw_or (pt_not (pt_val (pe_c c_is_sign hr (by decide) (by rfl) (pa_cons (pv 3) pa_nil)))) (pw_or (pt_not (pt_val (pe_c c_is_sign hr (by decide) (by rfl) (pa_cons (pv 4) pa_nil)))) (pw_or1 (pt_not (pt_val (pe_c c_is_from hr (by decide) (by rfl) (pa_cons (pv 5) (pa_cons pe_int pa_nil))))))))))
      (pss_one (ps_ret pe_bl))
      pss_nil)
      (pss_cons (ps_if (PW.pt (pw_or (pt_cmpR op_ne (pe_cmpR op_gt (pe_op op_mulW (pv 3) (pv 4)) pe_int (nomark _)) (pe_cmpR op_eq (pe_op op_mod (pv 2) pe_int) pe_int (nomark _)) (nomark _)) (pw_or1 (pt_cmpR op_gt (pe_op op_mulW (pe_callB call_abs (by rfl) B.abs (by decide +kernel) (pa_cons (pe_op op_mulW (pv 3) (pv 4)) pa_nil)) (pv 5)) pe_int (nomark _)))))
      (pss_one (ps_ret pe_bl))
      pss_nil)
      (pss_cons (ps_if (pt_cmpR op_eq (pv 2) pe_int (nomark _))
      (pss_one (ps_ret (pe_cmpR op_lt (pv 3) (pv 4) (nomark _))))
      pss_nil)
      (pss_one (ps_ret (pe_or (pe_cmpR op_ge (pv 5) pe_int (nomark _)) (pe_one (pe_not (pe_c c_is_plain hr (by decide) (by rfl) (pa_cons (pv 0) pa_nil)))))))))))), ?_⟩
  have hP : PcAt H (.ref p) k x y t := ⟨p, rfl, hp⟩
  obtain ⟨x4, x0, _⟩ := isSign_le ok.sx
  obtain ⟨y4, y0, _⟩ := isSign_le ok.sy
  refine ⟨_, rfl, _, k, x, y, t, rfl, hP, fun H1 s1 => ⟨true, rfl, iteF ?_⟩⟩
  refine ⟨_, rfl, p, _, rfl, SqT.of (s1 _ _ hp), rfl, _, _, rfl, _, _, rfl, _, _, rfl, _, _, rfl, _, _, rfl, rfl, ?_⟩
  dsimp only [gName]
  have bt : (decide ((1 : Int) ≤ (k : Int)) && decide ((k : Int) ≤ 24)) = true := by
    have := ok.k1
    have := ok.k24
    rw [decide_eq_true (by omega), decide_eq_true (by omega)]
    rfl
  refine ⟨_, rfl, (k : Int), 1, 24, rfl, trivial, true, congrArg V.bl bt, iteF ?_⟩
  refine ⟨_, rfl, x, rfl, trivial, true, congrArg V.bl ok.sx, iteF ?_⟩
  refine ⟨_, rfl, y, rfl, trivial, true, congrArg V.bl ok.sy, iteF ?_⟩
  refine ⟨_, rfl, (t : Int), 1, rfl, true, congrArg V.bl (decide_eq_true (by have := ok.t1; omega)), iteF ?_⟩
  have mxy : CMulW x y := mul8 (Nat.lt_of_le_of_lt x4 (by decide)) (Nat.lt_of_le_of_lt y4 (by decide))
  dsimp only [tNext]
  refine ⟨_, rfl, _, rfl, _, _, rfl, rfl, mxy, _, _, rfl, rfl, _, rfl, _, _, rfl, rfl, (by show (0 : Int) < 2; decide), rfl, ?_⟩
  have e2 : decide (V.int ((k : Int) % 2) = V.int 0) = decide (k % 2 = 0) := by
    by_cases z : k % 2 = 0
    · rw [decide_eq_true z]
      exact decide_eq_true (congrArg V.int (by omega))
    · rw [decide_eq_false z]
      exact decide_eq_false fun w => z (by have := V.int.inj w; omega)
  have e3 : decide (V.bl (decide (0 < x * y)) = V.bl (decide (V.int ((k : Int) % 2) = V.int 0))) = true := by
    rw [e2, ok.par]
    exact decide_eq_true rfl
  refine ⟨rfl, false, ?_, iteF ?_⟩
  · show V.bl (!decide (V.bl (decide (0 < x * y)) = V.bl (decide (V.int ((k : Int) % 2) = V.int 0)))) = V.bl false
    rw [e3]
    rfl
  have mx : ((if x * y < 0 then -(x * y) else x * y) : Int) = ((x * y).natAbs : Int) := by split <;> omega
  have lxy : (x * y).natAbs ≤ 160000 := by
    rw [Int.natAbs_mul]
    exact Nat.mul_le_mul x4 y4
  have t4 : t ≤ 400 := by
    have h1 : 1 ≤ (x * y).natAbs := by
      rw [Int.natAbs_mul]
      exact Nat.mul_pos (by omega) (by omega)
    have := Nat.mul_le_mul_right t h1
    have := ok.lev
    omega
  refine ⟨_, rfl, _, rfl, _, _, rfl, rfl, mxy, _, rfl, _, rfl, _, _, rfl, rfl, ?_, ?_⟩
  · rw [mx]
    exact mul8 (by rw [Int.natAbs_natCast]; exact Nat.lt_of_le_of_lt lxy (by decide)) (by rw [Int.natAbs_natCast]; exact Nat.lt_of_le_of_lt t4 (by decide))
  refine ⟨_, _, rfl, rfl, false, congrArg V.bl (decide_eq_false ?_), iteF ?_⟩
  · rw [mx, ← Int.natCast_mul]
    have := ok.lev
    omega
  dsimp only [tNext]
  refine ⟨_, rfl, rfl, _, rfl, ifI (fun e => ?_) fun e => ?_⟩
  · refine ⟨_, rfl, _, rfl, _, _, rfl, rfl, ?_⟩
    dsimp only
    rw [decide_eq_true (ok.one (by omega))]
    exact q _ s1
  · dsimp only [tNext]
    refine ⟨_, rfl, _, _, rfl, rfl, _, rfl, ?_⟩
    rcases ok.pl (by omega) with h2 | h2
    · rw [if_pos (decide_eq_true (by omega))]
      exact q _ s1
    · by_cases h3 : 2 ≤ t
      · rw [if_pos (decide_eq_true (by omega))]
        exact q _ s1
      · rw [if_neg (by rw [decide_eq_false (by omega)]; decide)]
        refine ⟨_, rfl, _, k, x, y, t, rfl, hP.same s1, fun H2 s2 => ⟨_, rfl, ?_⟩⟩
        rw [h2]
        exact q _ (s1.trans s2)
end
end Ft

namespace Ft
open PySem L2
/-- two keywords, in the other order -/
def swapV : List V → List V → List V := fun us zs => match us, zs with
  | [], [a, b] => [b, a]
  | _, _ => []
def swapU : List Value → List Value → List Value := fun us zs => match us, zs with
  | [], [a, b] => [b, a]
  | _, _ => []
theorem swap_rel : ∀ {vs : List V} {us : List Value} {zs : List V} {ws : List Value}, Vals vs us → Vals zs ws → Vals (swapV vs zs) (swapU us ws)
  | _, _, _, _, .nil, .nil => .nil
  | _, _, _, _, .nil, .cons _ .nil => .nil
  | _, _, _, _, .nil, .cons a (.cons b .nil) => .cons b (.cons a .nil)
  | _, _, _, _, .nil, .cons _ (.cons _ (.cons _ _)) => .nil
  | _, _, _, _, .cons _ _, _ => .nil
end Ft

set_option exponentiation.threshold 9000
namespace Ft
open PySem L2
theorem kb_bernoulli {K : PySem.W.Frag} {f : Addr} {fd : FuncData} (F : Fun K "bernoulli" "bernoulli" s_bernoulli f fd) : KBinds K fd ["k", "sign"] ["sign", "k"] swapU swapV := by
  obtain ⟨oc, od, kV, doc, pm, an, cdv, ct, osl, rfl, lk, hcd⟩ := F.ex
  refine ⟨fun s us ws _ hl => ?_, swap_rel⟩
  match us, ws, hl with
  | [], [a, b], _ => exact .of_eq rfl
theorem comb_all : (List.range 26).all (fun a => (List.range 26).all fun b => Nat.blt (PySem.W.mcComb (a : Int) (b : Int)).natAbs (2 ^ 64)) = true := by decide +kernel
theorem comb_small {a b : Nat} (ha : a < 26) (hb : b < 26) : (PySem.W.mcComb (a : Int) (b : Int)).natAbs < 2 ^ 4000 := by
  have c := List.all_eq_true.mp (List.all_eq_true.mp comb_all a (List.mem_range.mpr ha)) b (List.mem_range.mpr hb)
  rw [Nat.blt_eq] at c
  exact Nat.lt_trans c (Nat.pow_lt_pow_right (by decide) (by decide))
/-- the program's number -/
def IsBern (k : Nat) (s : Int) (x : Fq) : Prop := ∃ l, plainTo k = some l ∧ bernGo s.natAbs k (psum s) 0 l (0, 1) = some x
def sp_bern : Sp := fun vs H Q _ => ∃ (k : Nat) (s : Int) (x : Fq), vs = [.int (k : Int), .int s] ∧ k ≤ 24 ∧ isSign s = true ∧ IsBern k s x ∧ ∀ H' v, Same H H' → Fr H' v x → Q v H'
section
variable {P : Program} {w : World} {K : PySem.W.Frag} {mg : Str → Option Value} {base : Heap}
theorem fn_bernoulli {f : Addr} {fd : FuncData} (F : Fun K "bernoulli" "bernoulli" s_bernoulli f fd) (B : Bi mg) (c_check_between : Cal P w K mg base 3 "check_between" (sp3 (fun n a b => a ≤ n ∧ n ≤ b) fun _ _ _ => .non)) (c_check_sign : Cal P w K mg base 4 "check_sign" sp_check_sign) (c_plain_numbers : Cal P w K mg base 3 "plain_numbers" sp_plain) (c_raised : Cal P w K mg base 1 "raised" sp_raised) (c_power_sum : Cal P w K mg base 3 "power_sum" sp_psum)
    (c_number_sum : Cal P w K mg base 2 "number_sum" (sp_num nsum)) (c_number_product : Cal P w K mg base 2 "number_product" (sp_num nprod)) : FnOk P w K mg base CX0 5 f fd ["k", "sign"] sp_bern := by
  have sc := sc_bernoulli
  refine F.ok sc (fun _ _ _ _ ⟨_, _, _, e, _⟩ => by rw [e]; rfl) (fun cdv A outer s H vs Q E hr h => ?_)
  obtain ⟨k, z, x, rfl, hk, hz, ⟨l, hl, hb⟩, q⟩ := h
  have hu := hu_of hr
  refine ⟨_, (pss_cons (ps_expr (pe_c c_check_between hr (by decide) (by rfl) (pa_cons (pv 0) (pa_cons pe_int (pa_cons pe_int pa_nil)))))
      (pss_cons (ps_expr (pe_c c_check_sign hr (by decide) (by rfl) (pa_cons (pv 1) pa_nil)))
      (pss_cons (ps_set (i := 2) sc.nd rfl (Or.inl rfl) (pe_callB call_abs (by rfl) B.abs (by decide +kernel) (pa_cons (pv 1) pa_nil)))
      (pss_cons (ps_set (i := 3) sc.nd rfl (Or.inl rfl) (pe_tup (pa_cons pe_int (pa_cons pe_int pa_nil))))
      (pss_cons (ps_for PassesOwn.never rfl (pi_enum (by rfl) B.enumerate (pa_cons (pe_c c_plain_numbers hr (by decide) (by rfl) (pa_cons (pv 0) pa_nil)) pa_nil)) (pg_tup rfl (pgs_cons (pg_name (i := 4) sc.nd rfl (Or.inl rfl)) (pgs_cons (pg_name (i := 5) sc.nd rfl (Or.inl rfl)) pgs_nil)))
      (pss_cons (ps_set (i := 6) sc.nd rfl (Or.inl rfl) (pe_op op_mulW (pe_op op_mulW (pe_callBfun cr_comb (by rfl) B.comb (pa_cons (pv 0) (pa_cons (pv 4) pa_nil))) (pe_c c_raised hr (by decide) (by rfl) (pa_cons (pv 2) (pa_cons (pv 4) pa_nil)))) (pe_c c_power_sum hr (by decide) (by rfl) (pa_cons (pv 1) (pa_cons (pe_op op_sub (pv 0) (pv 4)) pa_nil)))))
        (pss_one (ps_set (i := 3) sc.nd rfl (Or.inl rfl) (pe_c c_number_sum hr (by decide) (by rfl) (pa_cons (pv 3) (pa_cons (pe_c c_number_product hr (by decide) (by rfl) (pa_cons (pv 5) (pa_cons (pe_tup (pa_cons (pv 6) (pa_cons (pv 2) pa_nil))) pa_nil))) pa_nil)))))))
      (pss_one (ps_ret (pv 3)))))))), ?_⟩
  have hzl := isSign_le hz
  have ea : (if z < 0 then -z else z) = (z.natAbs : Int) := by split <;> omega
  have sm := plain_small k l hl
  refine ⟨_, rfl, _, _, _, rfl, ⟨by omega, by omega⟩, ?_⟩
  refine ⟨_, rfl, z, rfl, hz, ?_⟩
  refine ⟨_, rfl, z, rfl, ?_⟩
  rw [ea]
  refine ⟨(by show (2 : Nat) ≤ sizeLine; decide), fun p1 hp1 => ?_⟩
  have s1 : Same H (upd H p1 (.tup [V.int 0, V.int 1])) := Same.upd_new hp1
  have f1 : Fr (upd H p1 (.tup [V.int 0, V.int 1])) (.ref p1) (0, 1) := Fr.new
  generalize hH1 : upd H p1 (.tup [V.int 0, V.int 1]) = H1 at s1 f1
  refine ⟨_, rfl, k, l, rfl, hk, hl, fun H2 p us s2 hp hf => ?_⟩
  refine ⟨p, _, rfl, SqL.of hp, ?_⟩
  refine for_it (walk_enum (xs := us)) (fun j σ H' => Same H2 H' ∧ ∃ (v : V) (t : Fq) (o3 o4 o5 : Option V), σ = [some (.int (k : Int)), some (.int z), some (.int (z.natAbs : Int)), some v, o3, o4, o5] ∧ Fr H' v t ∧ Small 4000 t ∧ bernGo z.natAbs k (psum z) j (l.drop j) t = some x) ⟨Same.refl _, _, _, _, _, _, rfl, f1.same s2, smallB_of (by decide +kernel), hb⟩ (fun j σ H' _ ⟨s5, _⟩ => SqL.of (s5 _ _ hp)) ?_ ?_
  · rintro j x0 σ H5 H6 hj ⟨s5, v, t, o3, o4, o5, rfl, fv, tS, hin⟩ ⟨T, u, y, rfl, hT, rfl, hu, hy⟩
    obtain rfl : u = V.int (j : Nat) := (Option.some.inj hu).symm
    obtain ⟨y', x', hy', hx, _, hxm, hdrop⟩ := hf.get hj
    obtain rfl : y = y' := Option.some.inj (hy.symm.trans hy')
    have fy : Fr H2 y x' := hf.2 j y x' hy' hx
    rw [hdrop] at hin
    obtain ⟨k1, k2, k3, k4, k5, k6⟩ := bernGo_step hin
    have s6 : Same H5 (upd H5 T (.tup [V.int (j : Nat), y])) := Same.upd_new hT
    have hTT : (upd H5 T (.tup [V.int (j : Nat), y])) T = some (.tup [V.int (j : Nat), y]) := upd_same
    generalize hH6 : upd H5 T (.tup [V.int (j : Nat), y]) = H6 at s6 hTT
    have sl := sm.1
    have ul := hf.1
    have hjk : j ≤ k := by omega
    refine ⟨T, _, rfl, SqT.of hTT, rfl, ?_⟩
    refine ⟨_, _, rfl, _, _, rfl, rfl, ?_⟩
    have hpw : z.natAbs ^ j < 2 ^ 4000 := pow_400 hzl.1 (by omega)
    refine ⟨_, rfl, _, rfl, _, _, rfl, (by omega), (by omega), (by omega), ?_⟩
    refine ⟨_, rfl, _, rfl, z.natAbs, j, rfl, (by omega), hpw, ?_⟩
    refine ⟨_, _, rfl, rfl, ?_, ?_⟩
    · exact wide_mul (comb_small (by omega) (by omega)) hpw (by decide) (by decide) (by decide)
    have ek : (k : Int) - (j : Int) = ((k - j : Nat) : Int) := by omega
    refine ⟨_, rfl, _, rfl, _, rfl, _, _, rfl, rfl, z, k - j, ?_, hzl.2.1, hzl.1, by omega, ?_⟩
    · show [V.int z, V.int ((k : Int) - (j : Int))] = _
      rw [ek]
    refine ⟨_, _, rfl, rfl, wide_mul k2 k1 (by decide) (by decide) (by decide), ?_⟩
    refine ⟨_, rfl, _, rfl, _, rfl, _, rfl, ?_⟩
    refine ⟨(by show (2 : Nat) ≤ sizeLine; decide), fun p5 hp5 => ?_⟩
    generalize hH7 : upd H6 p5 _ = H7
    have s7 : Same H6 H7 := by rw [← hH7]; exact Same.upd_new hp5
    have f7 : Fr H7 (.ref p5) (PySem.W.mcComb (k : Int) (j : Int) * ((z.natAbs ^ j : Nat) : Int) * psum z (k - j), (z.natAbs : Int)) := by rw [← hH7]; exact Fr.new
    have s27 : Same H2 H7 := s5.trans (s6.trans s7)
    refine ⟨_, _, x', _, rfl, fy.same s27, f7, sm.2 x' hxm, k3, fun H8 r s8 f8 => ?_⟩
    refine ⟨_, _, t, _, rfl, fv.same (s6.trans (s7.trans s8)), f8, tS, k4, fun H9 r9 s9 f9 => ?_⟩
    exact ⟨s5.trans (s6.trans (s7.trans (s8.trans s9))), _, _, _, _, _, rfl, f9, k5, k6⟩
  · rintro σ H5 ⟨s5, v, t, o3, o4, o5, rfl, fv, tS, hin⟩
    have hd : l.drop us.length = [] := by rw [hf.1]; exact List.drop_length
    rw [hd] at hin
    obtain rfl : t = x := Option.some.inj hin
    exact ⟨_, rfl, q _ _ (s1.trans (s2.trans s5)) fv⟩
end
end Ft

set_option exponentiation.threshold 9000
namespace Ft
open PySem L2
/-- the program's number of k and a sign -/
def bnv (k : Nat) (s : Int) : Fq := match plainTo k with
  | some l => (bernGo s.natAbs k (psum s) 0 l (0, 1)).getD (0, 1)
  | none => (0, 1)
theorem bnv_ok {k : Nat} {s : Int} (hs : isSign s = true) (h : s.natAbs ≤ 64) (hk : k ≤ 24) : IsBern k s (bnv k s) ∧ (bnv k s).1.natAbs < 2 ^ 1700 ∧ (bnv k s).2.natAbs < 2 ^ 1200 ∧ 0 < (bnv k s).2 := by
  obtain ⟨l, x, hl, hb, bv⟩ := bern_ex hs h hk
  have e : bnv k s = x := by
    unfold bnv
    rw [hl]
    dsimp only
    rw [hb]
    rfl
  rw [e]
  exact ⟨⟨l, hl, hb⟩, bv.2.2.1, bv.2.2.2, bv.1.1⟩
def fstV (k : Nat) (x y : Int) (t : Nat) : Fq := if isPl k x y = true then low ((t : Int) - 1) 24 else if k = 1 then (if y = 1 then nprod (bnv 1 x) (-1, 2) else (0, 1)) else if x = 1 then nprod (bnv k y) (-1, 2 * (k : Int)) else (0, 1)
/-- the signs whose number is wanted are small -/
def PcS (x y : Int) : Prop := (y = 1 → x.natAbs ≤ 64) ∧ (x = 1 → y.natAbs ≤ 64)
theorem low_le3 {a b : Int} (hb : 0 < b) : (low a b).1.natAbs ≤ a.natAbs ∧ (low a b).2.natAbs ≤ b.natAbs ∧ 0 < (low a b).2 := by
  have g0 : 0 < Nat.gcd a.natAbs b.natAbs := Nat.gcd_pos_of_pos_right _ (by omega)
  have gl : Nat.gcd a.natAbs b.natAbs ≤ b.natAbs := Nat.le_of_dvd (by omega) (Nat.gcd_dvd_right _ _)
  have gd : ((Nat.gcd a.natAbs b.natAbs : Nat) : Int) ∣ b := Int.dvd_natAbs.mp (Int.natCast_dvd_natCast.mpr (Nat.gcd_dvd_right _ _))
  unfold low
  dsimp only
  generalize Nat.gcd a.natAbs b.natAbs = g at g0 gl gd
  refine ⟨?_, ?_, ?_⟩
  · exact Int.natAbs_ediv_le_natAbs a _
  · exact Int.natAbs_ediv_le_natAbs b _
  · exact Int.ediv_pos_of_pos_of_dvd hb (by omega) gd
theorem fst_le {k : Nat} {x y : Int} {t : Nat} (ok : PcOk k x y t) (ps : PcS x y) : (fstV k x y t).1.natAbs < 2 ^ 1800 ∧ (fstV k x y t).2.natAbs < 2 ^ 1300 ∧ 0 < (fstV k x y t).2 := by
  have z : ((0 : Int), (1 : Int)).1.natAbs < 2 ^ 1800 ∧ ((0 : Int), (1 : Int)).2.natAbs < 2 ^ 1300 ∧ 0 < ((0 : Int), (1 : Int)).2 := ⟨by decide, by decide, by decide⟩
  unfold fstV
  split
  · have := low_le3 (a := (t : Int) - 1) (b := 24) (by decide)
    have t4 : t ≤ 400 := by
      have h1 : 1 ≤ (x * y).natAbs := by
        rw [Int.natAbs_mul]
        exact Nat.mul_pos (by have := (isSign_le ok.sx).2.1; omega) (by have := (isSign_le ok.sy).2.1; omega)
      have := Nat.mul_le_mul_right t h1
      have := ok.lev
      omega
    refine ⟨Nat.lt_of_le_of_lt (by omega : _ ≤ 400) (by decide), Nat.lt_of_le_of_lt (by omega : _ ≤ 24) (by decide), this.2.2⟩
  · split
    · split
      · rename_i hy
        obtain ⟨_, b1, b2, b3⟩ := bnv_ok (k := 1) ok.sx (ps.1 hy) (by decide)
        have := low_le3 (a := (bnv 1 x).1 * -1) (b := (bnv 1 x).2 * 2) (by omega)
        rw [Int.natAbs_mul, Int.natAbs_mul] at this
        refine ⟨Nat.lt_of_le_of_lt this.1 (Nat.lt_of_lt_of_le (Nat.mul_lt_mul_of_pos_right b1 (by decide)) (by decide)), Nat.lt_of_le_of_lt this.2.1 (Nat.lt_of_lt_of_le (Nat.mul_lt_mul_of_pos_right b2 (by decide)) (by decide)), this.2.2⟩
      · exact z
    · split
      · rename_i hx
        have k1 := ok.k1
        have k24 := ok.k24
        obtain ⟨_, b1, b2, b3⟩ := bnv_ok (k := k) ok.sy (ps.2 hx) k24
        have := low_le3 (a := (bnv k y).1 * -1) (b := (bnv k y).2 * (2 * (k : Int))) (Int.mul_pos b3 (by omega))
        rw [Int.natAbs_mul, Int.natAbs_mul] at this
        have m2 : (bnv k y).2.natAbs * (2 * (k : Int)).natAbs < 2 ^ 1200 * 64 := Nat.mul_lt_mul_of_lt_of_le b2 (by omega) (by decide)
        refine ⟨Nat.lt_of_le_of_lt this.1 (Nat.lt_of_lt_of_le (Nat.mul_lt_mul_of_pos_right b1 (by decide)) (by decide)), Nat.lt_of_le_of_lt this.2.1 (Nat.lt_of_lt_of_le m2 (by decide)), this.2.2⟩
      · exact z
/-- the terms behind the first one, times nothing -/
def latV (k : Nat) (x y : Int) (t n : Nat) : Int := if isPl k x y = true then dsR (k - 1) x y n - (if n % t = 0 then (t : Int) * dsR (k - 1) x y (n / t) else 0) else if n % t = 0 then dsR (k - 1) x y (n / t) else 0
def rowT (k : Nat) (x y : Int) (t M : Nat) : List Int := (fstV k x y t).1 :: (List.range (M - 1)).map fun i => (fstV k x y t).2 * latV k x y t (i + 1)
theorem rowT_len {k : Nat} {x y : Int} {t M : Nat} (h : 1 ≤ M) : (rowT k x y t M).length = M := by
  unfold rowT
  rw [List.length_cons, List.length_map, List.length_range]
  omega
def sp_sumFirst : Sp := fun vs H Q _ => ∃ v k x y t, vs = [v] ∧ PcAt H v k x y t ∧ PcOk k x y t ∧ PcS x y ∧ ∀ H' r, Same H H' → Fr H' r (fstV k x y t) → Q r H'
def sp_sumRow : Sp := fun vs H Q _ => ∃ v k x y t M, vs = [v, .int ((M : Nat) : Int)] ∧ PcAt H v k x y t ∧ PcOk k x y t ∧ PcS x y ∧ 1 ≤ M ∧ M ≤ 400 ∧ ∀ H' p q, Same H H' → H' p = some (.tup [.int (fstV k x y t).2, .ref q]) → H' q = some (.lst ((rowT k x y t M).map V.int)) → Q (.ref p) H'
def sp_sumTerms : Sp := fun vs H Q _ => ∃ v k x y t M, vs = [v, .int ((M : Nat) : Int)] ∧ PcAt H v k x y t ∧ PcOk k x y t ∧ PcS x y ∧ 1 ≤ M ∧ M ≤ 400 ∧ ∀ H' r, Same H H' → Bg H' r (lowB (fstV k x y t).2 (rowT k x y t M)) (lowT (fstV k x y t).2 (rowT k x y t M)) → Q r H'
section
variable {P : Program} {w : World} {K : PySem.W.Frag} {mg : Str → Option Value} {base : Heap}
theorem ok_checkPiece (D : Df K mg "check_divisor_piece" s_check_divisor_piece ["divisor_piece"]) (c_is_divisor_piece : Cal P w K mg base 4 "is_divisor_piece" sp_isPiece) : Cal P w K mg base 5 "check_divisor_piece" sp_checkPiece := by
  obtain ⟨f, fd, F, m, b⟩ := D.ex
  have sc := sc_check_divisor_piece
  refine ⟨f, fd, _, F.ok sc (fun _ _ _ _ ⟨_, _, _, _, _, e, _⟩ => by rw [e]; rfl) (fun cdv A outer s H vs Q E hr h => ?_), m, F.kp, b⟩
  obtain ⟨v, k, x, y, t, rfl, hP, ok, q⟩ := h
  refine ⟨_, (pss_one (ps_if (pt_not (pt_val (pe_c c_is_divisor_piece hr (by decide) (by rfl) (pa_cons (pv 0) pa_nil))))
      (pss_one ps_never)
      pss_nil)), ?_⟩
  exact ⟨_, rfl, v, k, x, y, t, rfl, hP, ok, fun H1 s1 => ⟨true, rfl, iteF (q _ s1)⟩⟩
theorem fn_sumFirst {f : Addr} {fd : FuncData} (F : Fun K "sum_first" "sum_first" s_sum_first f fd) (B : Bi mg) (c_check_divisor_piece : Cal P w K mg base 5 "check_divisor_piece" sp_checkPiece) (c_is_plain : Cal P w K mg base 1 "is_plain" sp_isPlain) (c_lowest_terms : Cal P w K mg base 1 "lowest_terms" sp_low) (c_number_product : Cal P w K mg base 2 "number_product" (sp_num nprod)) (c_bernoulli : Cal P w K mg base 5 "bernoulli" sp_bern) : FnOk P w K mg base CX0 6 f fd ["divisor_piece"] sp_sumFirst := by
  have sc := sc_sum_first
  refine F.ok sc (fun _ _ _ _ ⟨_, _, _, _, _, e, _⟩ => by rw [e]; rfl) (fun cdv A outer s H vs Q E hr h => ?_)
  obtain ⟨v, k, x, y, t, rfl, hP, ok, ps, q⟩ := h
  refine ⟨_, (pss_cons (ps_expr (pe_c c_check_divisor_piece hr (by decide) (by rfl) (pa_cons (pv 0) pa_nil)))
      (pss_cons (ps_asg (pv 0) (pg_tup rfl (pgs_cons (pg_name (i := 1) sc.nd rfl (Or.inl rfl)) (pgs_cons (pg_name (i := 2) sc.nd rfl (Or.inl rfl)) (pgs_cons (pg_name (i := 3) sc.nd rfl (Or.inl rfl)) (pgs_cons (pg_name (i := 4) sc.nd rfl (Or.inl rfl)) (pgs_cons (pg_name (i := 5) sc.nd rfl (Or.inl rfl)) pgs_nil)))))))
      (pss_cons (ps_if (pt_val (pe_c c_is_plain hr (by decide) (by rfl) (pa_cons (pv 0) pa_nil)))
      (pss_one (ps_ret (pe_c c_lowest_terms hr (by decide) (by rfl) (pa_cons (pe_op op_sub (pv 5) pe_int) (pa_cons pe_int pa_nil)))))
      pss_nil)
      (pss_cons (ps_if (pt_cmpR op_eq (pv 2) pe_int (nomark _))
      (pss_one (ps_ret (pe_ifExp (pt_cmpR op_eq (pv 4) pe_int (nomark _)) (pe_c c_number_product hr (by decide) (by rfl) (pa_cons (pe_c c_bernoulli hr (by decide) (by rfl) (pa_cons pe_int (pa_cons (pv 3) pa_nil))) (pa_cons (pe_tup (pa_cons (pe_un un_neg pe_int) (pa_cons pe_int pa_nil))) pa_nil))) (pe_tup (pa_cons pe_int (pa_cons pe_int pa_nil))))))
      pss_nil)
      (pss_one (ps_ret (pe_ifExp (pt_cmpR op_eq (pv 3) pe_int (nomark _)) (pe_c c_number_product hr (by decide) (by rfl) (pa_cons (pe_c c_bernoulli hr (by decide) (by rfl) (pa_cons (pv 2) (pa_cons (pv 4) pa_nil))) (pa_cons (pe_tup (pa_cons (pe_un un_neg pe_int) (pa_cons (pe_op op_mulW pe_int (pv 2)) pa_nil))) pa_nil))) (pe_tup (pa_cons pe_int (pa_cons pe_int pa_nil)))))))))), ?_⟩
  refine ⟨_, rfl, v, k, x, y, t, rfl, hP, ok, fun H1 s1 => ?_⟩
  have hP1 := hP.same s1
  obtain ⟨p, rfl, hp⟩ := hP1
  refine ⟨_, rfl, p, _, rfl, SqT.of hp, rfl, _, _, rfl, _, _, rfl, _, _, rfl, _, _, rfl, _, _, rfl, rfl, ?_⟩
  dsimp only [gName]
  have q' : ∀ {H2 H3 : Hp} {r : V} {z : Fq}, Same H1 H2 → Same H2 H3 → fstV k x y t = z → Fr H3 r z → Q r H3 := fun a b e f => q _ _ (s1.trans (a.trans b)) (by rw [e]; exact f)
  have e0 : fstV k x y t = if isPl k x y = true then low ((t : Int) - 1) 24 else if k = 1 then (if y = 1 then nprod (bnv 1 x) (-1, 2) else (0, 1)) else if x = 1 then nprod (bnv k y) (-1, 2 * (k : Int)) else (0, 1) := rfl
  have k1 := ok.k1
  have k24 := ok.k24
  have up : ∀ {a b : Nat} {z : Fq}, z.1.natAbs < 2 ^ a → z.2.natAbs < 2 ^ b → 0 < z.2 → a ≤ 4000 → b ≤ 4000 → Small 4000 z := fun h1 h2 h3 h4 h5 => ⟨Nat.lt_of_lt_of_le h1 (Nat.pow_le_pow_right (by decide) h4), Nat.lt_of_lt_of_le h2 (Nat.pow_le_pow_right (by decide) h5), h3⟩
  refine ⟨_, rfl, _, k, x, y, t, rfl, ⟨p, rfl, hp⟩, fun H2 s2 => ⟨_, rfl, ?_⟩⟩
  cases hpl : isPl k x y with
  | true =>
    rw [hpl, if_pos rfl] at e0
    refine iteT ⟨_, rfl, _, _, rfl, rfl, _, _, rfl, by decide, by decide, fun H3 r s3 f3 => ?_⟩
    exact q' s2 s3 e0 f3
  | false =>
    rw [hpl, if_neg (by decide)] at e0
    refine iteF ?_
    dsimp only [tNext]
    refine ⟨_, rfl, rfl, _, rfl, ifI (fun e => ?_) fun e => ?_⟩
    · have k1' : k = 1 := by omega
      rw [if_pos k1'] at e0
      refine ⟨_, rfl, rfl, _, rfl, ifI (fun e2 => ?_) fun e2 => ?_⟩
      · rw [if_pos e2] at e0
        obtain ⟨ib, b1, b2, b3⟩ := bnv_ok (k := 1) ok.sx (ps.1 e2) (by decide)
        refine ⟨_, rfl, 1, x, bnv 1 x, rfl, by decide, ok.sx, ib, fun H3 u s3 f3 => ?_⟩
        refine ⟨_, rfl, (by show (2 : Nat) ≤ sizeLine; decide), fun p2 hp2 => ?_⟩
        have s4 : Same H3 (upd H3 p2 (.tup [V.int (-1), V.int 2])) := Same.upd_new hp2
        refine ⟨_, _, bnv 1 x, (-1, 2), rfl, f3.same s4, Fr.new, up b1 b2 b3 (by decide) (by decide), ⟨by decide, by decide, by decide⟩, fun H5 r s5 f5 => ?_⟩
        exact q' s2 (s3.trans (s4.trans s5)) e0 f5
      · rw [if_neg e2] at e0
        refine ⟨(by show (2 : Nat) ≤ sizeLine; decide), fun p2 hp2 => ?_⟩
        exact q' s2 (Same.upd_new hp2) e0 Fr.new
    · have k1' : ¬ k = 1 := by omega
      rw [if_neg k1'] at e0
      dsimp only [tNext]
      refine ⟨_, rfl, rfl, _, rfl, ifI (fun e2 => ?_) fun e2 => ?_⟩
      · rw [if_pos e2] at e0
        obtain ⟨ib, b1, b2, b3⟩ := bnv_ok (k := k) ok.sy (ps.2 e2) k24
        refine ⟨_, rfl, _, rfl, k, y, bnv k y, rfl, k24, ok.sy, ib, fun H3 u s3 f3 => ?_⟩
        refine ⟨_, rfl, _, rfl, _, _, rfl, rfl, mul8 (by decide) (Nat.lt_of_le_of_lt (by omega : _ ≤ 24) (by decide)), (by show (2 : Nat) ≤ sizeLine; decide), fun p2 hp2 => ?_⟩
        have s4 : Same H3 (upd H3 p2 (.tup [V.int (-1), V.int (2 * (k : Int))])) := Same.upd_new hp2
        refine ⟨_, _, bnv k y, (-1, 2 * (k : Int)), rfl, f3.same s4, Fr.new, up b1 b2 b3 (by decide) (by decide), ⟨(by show (-1 : Int).natAbs < 2 ^ 4000; decide), Nat.lt_of_le_of_lt (by dsimp only; omega : _ ≤ 48) (by decide), by dsimp only; omega⟩, fun H5 r s5 f5 => ?_⟩
        exact q' s2 (s3.trans (s4.trans s5)) e0 f5
      · rw [if_neg e2] at e0
        refine ⟨(by show (2 : Nat) ≤ sizeLine; decide), fun p2 hp2 => ?_⟩
        exact q' s2 (Same.upd_new hp2) e0 Fr.new
end
end Ft

set_option exponentiation.threshold 9000
namespace Ft
open PySem L2
theorem dsR_le {k n : Nat} {x y : Int} (hn : n ≤ 400) (hk : k ≤ 24) : (dsR k x y n).natAbs < 2 ^ 500 := by
  unfold dsR
  split
  · decide
  · exact dsF_le (by omega) (by omega) hk
theorem PcOk.t4 {k : Nat} {x y : Int} {t : Nat} (ok : PcOk k x y t) : t ≤ 400 := by
  have h1 : 1 ≤ (x * y).natAbs := by
    rw [Int.natAbs_mul]
    exact Nat.mul_pos (by have := (isSign_le ok.sx).2.1; omega) (by have := (isSign_le ok.sy).2.1; omega)
  have := Nat.mul_le_mul_right t h1
  have := ok.lev
  omega
theorem latV_le {k n : Nat} {x y : Int} {t : Nat} (ok : PcOk k x y t) (hn : n ≤ 400) : (latV k x y t n).natAbs < 2 ^ 600 := by
  have k24 := ok.k24
  have t4 := ok.t4
  have a := dsR_le (x := x) (y := y) hn (show k - 1 ≤ 24 by omega)
  have b := dsR_le (x := x) (y := y) (n := n / t) (Nat.le_trans (Nat.div_le_self _ _) hn) (show k - 1 ≤ 24 by omega)
  have p : 2 ^ 500 + 400 * 2 ^ 500 < 2 ^ 600 := by decide
  unfold latV
  split
  · split
    · have c : ((t : Int) * dsR (k - 1) x y (n / t)).natAbs ≤ 400 * 2 ^ 500 := by
        rw [Int.natAbs_mul, Int.natAbs_natCast]
        exact Nat.mul_le_mul t4 (Nat.le_of_lt b)
      exact Nat.lt_of_le_of_lt (Nat.le_trans (Int.natAbs_sub_le _ _) (Nat.add_le_add (Nat.le_of_lt a) c)) p
    · rw [Int.sub_zero]
      exact Nat.lt_trans a (Nat.pow_lt_pow_right (by decide) (by decide))
  · split
    · exact Nat.lt_trans b (Nat.pow_lt_pow_right (by decide) (by decide))
    · decide
def sp_checkCount : Sp := fun vs H Q _ => ∃ n : Nat, vs = [.int (n : Int)] ∧ 1 ≤ n ∧ n ≤ 400 ∧ Q .non H
section
variable {P : Program} {w : World} {K : PySem.W.Frag} {mg : Str → Option Value} {base : Heap}
theorem ok_check_count (D : Df K mg "check_count" s_check_count ["many"]) (c_is_between : Cal P w K mg base 2 "is_between" sp_is_between) : Cal P w K mg base 3 "check_count" sp_checkCount := by
  obtain ⟨f, fd, F, m, b⟩ := D.ex
  have sc := sc_check_count
  refine ⟨f, fd, _, F.ok sc (fun _ _ _ _ ⟨_, e, _⟩ => by rw [e]; rfl) (fun cdv A outer s H vs Q E hr h => ?_), m, F.kp, b⟩
  obtain ⟨n, rfl, h1, h2, q⟩ := h
  refine ⟨_, (pss_one (ps_if (pt_not (pt_val (pe_c c_is_between hr (by decide) (by rfl) (pa_cons (pv 0) (pa_cons pe_int (pa_cons pe_int pa_nil))))))
      (pss_one ps_never)
      pss_nil)), ?_⟩
  refine ⟨_, rfl, (n : Int), 1, 400, rfl, trivial, _, rfl, ?_⟩
  rw [decide_eq_true (show (1 : Int) ≤ (n : Int) by omega), decide_eq_true (show (n : Int) ≤ 400 by omega)]
  exact iteF q
set_option maxHeartbeats 1000000 in
theorem ok_sumRow (D : Df K mg "sum_row" s_sum_row ["divisor_piece", "many"]) (B : Bi mg) (c_sum_first : Cal P w K mg base 6 "sum_first" sp_sumFirst) (c_divisor_sums : Cal P w K mg base 3 "divisor_sums" sp_dsums) (c_is_plain : Cal P w K mg base 1 "is_plain" sp_isPlain) : Cal P w K mg base 7 "sum_row" sp_sumRow := by
  obtain ⟨f, fd, F, m, b⟩ := D.ex
  have sc := sc_sum_row
  refine ⟨f, fd, _, F.ok sc (fun _ _ _ _ ⟨_, _, _, _, _, _, e, _⟩ => by rw [e]; rfl) (fun cdv A outer s H vs Q E hr h => ?_), m, F.kp, b⟩
  obtain ⟨v, k, x, y, t, M, rfl, hP, ok, ps, M1, M4, q⟩ := h
  refine ⟨_, (pss_cons (ps_asg (pv 0) (pg_tup rfl (pgs_cons (pg_name (i := 2) sc.nd rfl (Or.inl rfl)) (pgs_cons (pg_name (i := 3) sc.nd rfl (Or.inl rfl)) (pgs_cons (pg_name (i := 4) sc.nd rfl (Or.inl rfl)) (pgs_cons (pg_name (i := 5) sc.nd rfl (Or.inl rfl)) (pgs_cons (pg_name (i := 6) sc.nd rfl (Or.inr rfl)) pgs_nil)))))))
      (pss_cons (ps_asg (pe_c c_sum_first hr (by decide) (by rfl) (pa_cons (pv 0) pa_nil)) (pg_tup rfl (pgs_cons (pg_name (i := 7) sc.nd rfl (Or.inl rfl)) (pgs_cons (pg_name (i := 8) sc.nd rfl (Or.inr rfl)) pgs_nil))))
      (pss_cons (ps_set (i := 9) sc.nd rfl (Or.inr rfl) (pe_c c_divisor_sums hr (by decide) (by rfl) (pa_cons (pe_op op_sub (pv 3) pe_int) (pa_cons (pv 4) (pa_cons (pv 5) (pa_cons (pv 1) pa_nil))))))
      (pss_cons (ps_if (pt_val (pe_c c_is_plain hr (by decide) (by rfl) (pa_cons (pv 0) pa_nil)))
      (pss_one (ps_setLc (i := 11) (own := [("n", 10)]) (g := gName 10) (tt := tYes) (by rfl) sc.nd rfl rfl (sw_true rfl rfl rfl (by decide +kernel)) (pi_range2 (by rfl) B.range (pa_cons pe_int (pa_cons (pv 1) pa_nil))) (blkOk_by (own := [("n", 10)]) (N := N_sum_row) (sc := defScope s_sum_row) (by decide +kernel)) (fun _ _ _ _ _ => (pg_name (i := 10) sc.nd rfl (Or.inl rfl))) (fun _ _ _ _ _ => pts_nil) (fun _ _ _ _ _ => (pe_op op_sub (pe_ix (show IxR _ (rIx K) from ix_seq) (pv 9) (pv 10) (fun _ _ => rfl)) (pe_ifExp (pt_cmpR op_eq (pe_op op_mod (pv 10) (pv 6)) pe_int (nomark _)) (pe_op op_mulW (pv 6) (pe_ix (show IxR _ (rIx K) from ix_seq) (pv 9) (pe_op op_fdivW (pv 10) (pv 6)) (fun _ _ => rfl))) pe_int)))))
      (pss_one (ps_setLc (i := 11) (own := [("n", 10)]) (g := gName 10) (tt := tYes) (by rfl) sc.nd rfl rfl (sw_true rfl rfl rfl (by decide +kernel)) (pi_range2 (by rfl) B.range (pa_cons pe_int (pa_cons (pv 1) pa_nil))) (blkOk_by (own := [("n", 10)]) (N := N_sum_row) (sc := defScope s_sum_row) (by decide +kernel)) (fun _ _ _ _ _ => (pg_name (i := 10) sc.nd rfl (Or.inl rfl))) (fun _ _ _ _ _ => pts_nil) (fun _ _ _ _ _ => (pe_ifExp (pt_cmpR op_eq (pe_op op_mod (pv 10) (pv 6)) pe_int (nomark _)) (pe_ix (show IxR _ (rIx K) from ix_seq) (pv 9) (pe_op op_fdivW (pv 10) (pv 6)) (fun _ _ => rfl)) pe_int)))))
      (pss_one (ps_ret (pe_tup (pa_cons (pv 8) (pa_cons (pe_op op_cat (pe_lst (pa_cons (pv 7) pa_nil)) (pe_lc (own := [("term", 12)]) (g := gName 12) (tt := tYes) (by rfl) sc.nd (pi_list (pv 11)) (blkOk_by (own := [("term", 12)]) (N := N_sum_row) (sc := defScope s_sum_row) (by decide +kernel)) (fun _ _ _ _ _ => (pg_name (i := 12) sc.nd rfl (Or.inl rfl))) (fun _ _ _ _ _ => pts_nil) (fun _ _ _ _ _ => (pe_op op_mulW (pv 8) (pv 12))))) pa_nil))))))))), ?_⟩
  have k1 := ok.k1
  have k24 := ok.k24
  have t1 := ok.t1
  have t4 := ok.t4
  obtain ⟨f1, f2, f3⟩ := fst_le ok ps
  obtain ⟨p, rfl, hp⟩ := id hP
  refine ⟨_, rfl, p, _, rfl, SqT.of hp, rfl, _, _, rfl, _, _, rfl, _, _, rfl, _, _, rfl, _, _, rfl, rfl, ?_⟩
  dsimp only [gName]
  refine ⟨_, rfl, _, k, x, y, t, rfl, hP, ok, ps, fun H1 r s1 fr => ?_⟩
  obtain ⟨tt, rfl, htt⟩ := fr
  refine ⟨tt, _, rfl, SqT.of htt, rfl, _, _, rfl, _, _, rfl, rfl, ?_⟩
  dsimp only [gName]
  refine ⟨_, rfl, _, _, rfl, rfl, _, rfl, _, rfl, _, rfl, k - 1, M, x, y, (by show [V.int ((k : Int) - 1), V.int x, V.int y, V.int (M : Int)] = _; rw [show (k : Int) - 1 = ((k - 1 : Nat) : Int) by omega]), by omega, ok.sx, ok.sy, M1, M4, fun H2 pS s2 _ hS => ?_⟩
  dsimp only [gName]
  have hP2 := hP.same (s1.trans s2)
  refine tSeq_join (fun σ H' => Same H H' ∧ ∃ (L : Addr) (o10 : Option V), H' L = some (.lst ((List.range (M - 1)).map fun i => V.int (latV k x y t (i + 1)))) ∧ σ = [some (.ref p), some (.int (M : Int)), some (.str (Str.ofString "sum")), some (.int (k : Int)), some (.int x), some (.int y), some (.int (t : Int)), some (.int (fstV k x y t).1), some (.int (fstV k x y t).2), some (.ref pS), o10, some (.ref L), none]) (fun N hN => ?_) ?_
  · refine ⟨_, rfl, _, k, x, y, t, rfl, hP2, fun H3 s3 => ⟨_, rfl, ?_⟩⟩
    have hS3 := s3 _ _ hS
    have s03 := s1.trans (s2.trans s3)
    have lat : ∀ n, latV k x y t n = if isPl k x y = true then dsR (k - 1) x y n - (if n % t = 0 then (t : Int) * dsR (k - 1) x y (n / t) else 0) else if n % t = 0 then dsR (k - 1) x y (n / t) else 0 := fun n => rfl
    have last : ∀ {D1 : Addr} {H' : Hp}, Same H3 H' → H' D1 = some (.lst ((List.range ((M : Int) - 1).toNat).map fun i => V.int (latV k x y t (i + 1)))) → Same H H' ∧ H' D1 = some (.lst ((List.range (M - 1)).map fun i => V.int (latV k x y t (i + 1)))) := fun {D1 H'} s h => ⟨s03.trans s, by rw [h, show ((M : Int) - 1).toNat = M - 1 by omega]⟩
    have fin : ∀ {D1 : Addr} {i : Nat} {H4 : Hp} (z : Int), H3 D1 = none → Same H3 H4 → H4 D1 = some (.lst ((List.range i).map fun i => V.int (latV k x y t (i + 1)))) → i ≤ 400 → z = latV k x y t (i + 1) → ∃ acc, H4 D1 = some (.lst acc) ∧ acc.length < sizeLine ∧ (Same H3 (upd H4 D1 (.lst (acc ++ [V.int z]))) ∧ (upd H4 D1 (.lst (acc ++ [V.int z]))) D1 = some (.lst ((List.range (i + 1)).map fun i => V.int (latV k x y t (i + 1))))) := fun {D1 i H4} z hD1 s4 h4 hi e => by
      subst e
      refine ⟨_, h4, ?_, fun b o e => ?_, ?_⟩
      · rw [List.length_map, List.length_range]
        exact Nat.lt_of_le_of_lt hi (by decide)
      · rw [upd_ne (ne_of_none e hD1)]
        exact s4 _ _ e
      · rw [upd_same, List.range_succ, List.map_append]
        rfl
    have dl : ∀ n, n ≤ 400 → (dsR (k - 1) x y n).natAbs < 2 ^ 8000 := fun n hn => Nat.lt_trans (dsR_le hn (show k - 1 ≤ 24 by omega)) (Nat.pow_lt_pow_right (by decide) (by decide))
    have tl : ((t : Nat) : Int).natAbs < 2 ^ 8000 := by rw [Int.natAbs_natCast]; exact Nat.lt_of_le_of_lt t4 (by decide)
    cases hpl : isPl k x y with
    | true =>
      refine iteT ?_
      simp only [hpl, if_true] at lat
      refine ⟨_, rfl, 1, (M : Int), rfl, ⟨by decide, by decide, by omega, by omega⟩, fun D1 hD1 => ?_⟩
      refine lc_range (lo := 1) (n := ((M : Int) - 1).toNat) (fun i H' => Same H3 H' ∧ H' D1 = some (.lst ((List.range i).map fun i => V.int (latV k x y t (i + 1))))) ⟨Same.upd_new hD1, upd_same⟩ ?_ ?_
      · rintro i H4 hi ⟨s4, h4⟩
        have ei : (1 : Int) + (i : Int) = ((i + 1 : Nat) : Int) := by omega
        have hi : i + 1 < M := by omega
        have hS4 := s4 _ _ hS3
        have li := lat (i + 1)
        dsimp only [gName]
        rw [ei]
        have fn := fun z => fin (i := i) z hD1 s4 h4 (by omega)
        generalize hn : i + 1 = n at hi li fn
        refine ⟨rfl, ?_⟩
        refine ⟨_, rfl, _, rfl, .inl ⟨pS, _, ((n : Nat) : Int), _, rfl, rfl, SqL.of hS4, atI_nat (rowL_get (dsR (k - 1) x y) hi), ?_⟩⟩
        refine ⟨_, rfl, _, rfl, _, _, rfl, rfl, (by omega : (0 : Int) < (t : Int)), rfl, _, rfl, ifI (fun e => ?_) fun e => ?_⟩
        · have e' : n % t = 0 := Int.ofNat.inj e
          rw [if_pos e'] at li
          have hd : n / t < M := Nat.lt_of_le_of_lt (Nat.div_le_self _ _) hi
          refine ⟨_, rfl, _, rfl, _, rfl, _, rfl, _, _, rfl, rfl, cdivN (by omega) (by omega), .inl ⟨pS, _, ((n / t : Nat) : Int), _, rfl, congrArg V.int (Int.natCast_ediv n t).symm, SqL.of hS4, atI_nat (rowL_get (dsR (k - 1) x y) hd), ?_⟩⟩
          exact ⟨_, _, rfl, rfl, mul8 tl (dl _ (by omega)), _, _, rfl, rfl, fn _ li.symm⟩
        · have e' : ¬ n % t = 0 := fun z => e (congrArg Int.ofNat z)
          rw [if_neg e'] at li
          exact ⟨_, _, rfl, rfl, fn _ li.symm⟩
      · rintro H4 ⟨s4, h4⟩
        obtain ⟨a1, a2⟩ := last s4 h4
        exact hN _ _ ⟨a1, D1, _, a2, rfl⟩
    | false =>
      refine iteF ?_
      simp only [hpl, Bool.false_eq_true, if_false] at lat
      refine ⟨_, rfl, 1, (M : Int), rfl, ⟨by decide, by decide, by omega, by omega⟩, fun D1 hD1 => ?_⟩
      refine lc_range (lo := 1) (n := ((M : Int) - 1).toNat) (fun i H' => Same H3 H' ∧ H' D1 = some (.lst ((List.range i).map fun i => V.int (latV k x y t (i + 1))))) ⟨Same.upd_new hD1, upd_same⟩ ?_ ?_
      · rintro i H4 hi ⟨s4, h4⟩
        have ei : (1 : Int) + (i : Int) = ((i + 1 : Nat) : Int) := by omega
        have hi : i + 1 < M := by omega
        have hS4 := s4 _ _ hS3
        have li := lat (i + 1)
        dsimp only [gName]
        rw [ei]
        have fn := fun z => fin (i := i) z hD1 s4 h4 (by omega)
        generalize hn : i + 1 = n at hi li fn
        refine ⟨rfl, ?_⟩
        refine ⟨_, rfl, _, rfl, _, _, rfl, rfl, (by omega : (0 : Int) < (t : Int)), rfl, _, rfl, ifI (fun e => ?_) fun e => ?_⟩
        · have e' : n % t = 0 := Int.ofNat.inj e
          rw [if_pos e'] at li
          have hd : n / t < M := Nat.lt_of_le_of_lt (Nat.div_le_self _ _) hi
          refine ⟨_, rfl, _, rfl, _, rfl, _, _, rfl, rfl, cdivN (by omega) (by omega), .inl ⟨pS, _, ((n / t : Nat) : Int), _, rfl, congrArg V.int (Int.natCast_ediv n t).symm, SqL.of hS4, atI_nat (rowL_get (dsR (k - 1) x y) hd), ?_⟩⟩
          exact fn _ li.symm
        · have e' : ¬ n % t = 0 := fun z => e (congrArg Int.ofNat z)
          rw [if_neg e'] at li
          exact fn _ li.symm
      · rintro H4 ⟨s4, h4⟩
        obtain ⟨a1, a2⟩ := last s4 h4
        exact hN _ _ ⟨a1, D1, _, a2, rfl⟩
  rintro _ H3 ⟨s3, L, o10, hL, rfl⟩
  have lb : ∀ n, n < M → CMulW (fstV k x y t).2 (latV k x y t n) := fun n hn => mul8 (Nat.lt_trans f2 (Nat.pow_lt_pow_right (by decide) (by decide))) (Nat.lt_trans (latV_le ok (by omega)) (Nat.pow_lt_pow_right (by decide) (by decide)))
  have er : (rowT k x y t M).map V.int = V.int (fstV k x y t).1 :: (List.range (M - 1)).map fun i => V.int ((fstV k x y t).2 * latV k x y t (i + 1)) := by
    unfold rowT
    rw [List.map_cons, List.map_map]
    rfl
  replace q := fun H' p q' => q H' p q'
  rw [er] at q
  generalize (fstV k x y t).1 = F1 at q
  generalize (fstV k x y t).2 = F2 at q lb
  refine ⟨_, rfl, _, rfl, (by show (1 : Nat) ≤ sizeLine; decide), fun l1 hl1 => ?_⟩
  have s4 : Same H3 (upd H3 l1 (.lst [V.int F1])) := Same.upd_new hl1
  have h4 : (upd H3 l1 (.lst [V.int F1])) l1 = some (.lst [V.int F1]) := upd_same
  generalize upd H3 l1 (.lst [V.int F1]) = H4 at s4 h4
  have hL4 := s4 _ _ hL
  refine ⟨_, rfl, L, rfl, ⟨_, SqL.of hL4⟩, fun D2 hD2 => ?_⟩
  refine lc_it (walk_list (xs := (List.range (M - 1)).map fun i => V.int (latV k x y t (i + 1)))) (fun i H' => Same H4 H' ∧ H' D2 = some (.lst ((List.range i).map fun i => V.int (F2 * latV k x y t (i + 1))))) ⟨Same.upd_new hD2, upd_same⟩ (fun i H' _ ⟨z, _⟩ => SqL.of (z _ _ hL4)) ?_ ?_
  · rintro i v H5 _ hi ⟨s5, h5⟩ ⟨rfl, hv⟩
    rw [List.length_map, List.length_range] at hi
    obtain rfl : v = V.int (latV k x y t (i + 1)) := by
      rw [List.getElem?_map, List.getElem?_range hi] at hv
      exact (Option.some.inj hv).symm
    refine ⟨rfl, _, rfl, _, rfl, _, _, rfl, rfl, lb _ (by omega), ?_⟩
    refine ⟨_, h5, ?_, fun b o e => ?_, ?_⟩
    · rw [List.length_map, List.length_range]
      exact Nat.lt_of_le_of_lt (by omega : i ≤ 400) (by decide)
    · rw [upd_ne (ne_of_none e hD2)]
      exact s5 _ _ e
    · rw [upd_same, List.range_succ, List.map_append]
      rfl
  rintro H5 ⟨s5, h5⟩
  rw [List.length_map, List.length_range] at h5
  refine ⟨l1, D2, _, _, rfl, rfl, s5 _ _ h4, h5, ?_, fun p4 hp4 => ?_⟩
  · rw [List.length_map, List.length_range]
    exact Nat.le_trans (by show 1 + (M - 1) ≤ 400; omega) (by decide)
  refine ⟨(by show (2 : Nat) ≤ sizeLine; decide), fun p5 hp5 => ?_⟩
  have s6 := Same.upd_new (o := .lst ([V.int F1] ++ (List.range (M - 1)).map fun i => V.int (F2 * latV k x y t (i + 1)))) hp4
  exact q _ p5 p4 (s3.trans (s4.trans (s5.trans (s6.trans (Same.upd_new hp5))))) upd_same ((Same.upd_new hp5) _ _ upd_same)
theorem fn_sumTerms {f : Addr} {fd : FuncData} (F : Fun K "sum_terms" "sum_terms" s_sum_terms f fd) (B : Bi mg) (c_check_divisor_piece : Cal P w K mg base 5 "check_divisor_piece" sp_checkPiece) (c_check_count : Cal P w K mg base 3 "check_count" sp_checkCount) (c_sum_row : Cal P w K mg base 7 "sum_row" sp_sumRow) (c_lowered : Cal P w K mg base 1 "lowered" sp_lowered) : FnOk P w K mg base CX0 8 f fd ["divisor_piece", "many"] sp_sumTerms := by
  have sc := sc_sum_terms
  refine F.ok sc (fun _ _ _ _ ⟨_, _, _, _, _, _, e, _⟩ => by rw [e]; rfl) (fun cdv A outer s H vs Q E hr h => ?_)
  obtain ⟨v, k, x, y, t, M, rfl, hP, ok, ps, M1, M4, q⟩ := h
  refine ⟨_, (pss_cons (ps_expr (pe_c c_check_divisor_piece hr (by decide) (by rfl) (pa_cons (pv 0) pa_nil)))
      (pss_cons (ps_expr (pe_c c_check_count hr (by decide) (by rfl) (pa_cons (pv 1) pa_nil)))
      (pss_cons (ps_asg (pe_c c_sum_row hr (by decide) (by rfl) (pa_cons (pv 0) (pa_cons (pv 1) pa_nil))) (pg_tup rfl (pgs_cons (pg_name (i := 2) sc.nd rfl (Or.inl rfl)) (pgs_cons (pg_name (i := 3) sc.nd rfl (Or.inl rfl)) pgs_nil))))
      (pss_one (ps_ret (pe_c c_lowered hr (by decide) (by rfl) (pa_cons (pv 2) (pa_cons (pv 3) pa_nil)))))))), ?_⟩
  refine ⟨_, rfl, v, k, x, y, t, rfl, hP, ok, fun H1 s1 => ?_⟩
  refine ⟨_, rfl, M, rfl, M1, M4, ?_⟩
  refine ⟨_, rfl, _, rfl, v, k, x, y, t, M, rfl, hP.same s1, ok, ps, M1, M4, fun H2 p r s2 hp hr2 => ?_⟩
  refine ⟨p, _, rfl, SqT.of hp, rfl, _, _, rfl, _, _, rfl, rfl, ?_⟩
  dsimp only [gName]
  obtain ⟨f1, f2, f3⟩ := fst_le ok ps
  refine ⟨_, rfl, _, rfl, _, r, _, rfl, hr2, f3, Nat.lt_trans f2 (Nat.pow_lt_pow_right (by decide) (by decide)), ?_, fun H3 u s3 g3 => q _ _ (s1.trans (s2.trans s3)) g3⟩
  rw [rowT_len M1]
  omega
end
end Ft

set_option exponentiation.threshold 9000
namespace Ft
open PySem L2
theorem abs_ifN (z : Int) : (if z < 0 then -z else z) = (z.natAbs : Int) := by split <;> omega
def sp_gcd : Sp := fun vs H Q _ => ∃ a b : Int, vs = [.int a, .int b] ∧ Q (.int ((Nat.gcd a.natAbs b.natAbs : Nat) : Int)) H
def sp_pow : Sp := fun vs H Q _ => ∃ x k : Nat, vs = [.int (x : Int), .int (k : Int)] ∧ 1 ≤ x ∧ x ≤ 100000 ∧ k ≤ 24 ∧ Q (.int ((x ^ k : Nat) : Int)) H
/-- an integer without the squares of the numbers from 2 on, as the law takes them out -/
def sqI (d : Int) : Nat → Int → Int
  | 0, z => z
  | f + 1, z => if z % (d * d) = 0 then sqI d f (z / (d * d)) else z
def sqA (z : Int) : Nat → Int
  | 0 => z
  | i + 1 => sqI ((2 : Int) + (i : Int)) 20 (sqA z i)
def lawSgnOf (z : Int) : Int := if sqA z 398 % 4 = 1 then sqA z 398 else 4 * sqA z 398
theorem sqI_half {d : Int} (hd : 2 ≤ d) {z : Int} (hz : z ≠ 0) (hm : z % (d * d) = 0) : z / (d * d) ≠ 0 ∧ 2 * (z / (d * d)).natAbs ≤ z.natAbs := by
  have p : 4 ≤ d * d := by have := Int.mul_le_mul hd hd (by decide) (by omega); omega
  obtain ⟨c, rfl⟩ := Int.dvd_of_emod_eq_zero hm
  rw [Int.mul_ediv_cancel_left _ (by omega)]
  refine ⟨fun e => hz (by rw [e, Int.mul_zero]), ?_⟩
  rw [Int.natAbs_mul]
  exact Nat.mul_le_mul_right _ (by omega)
theorem sqI_stop {d : Int} {f : Nat} {z : Int} (h : ¬ z % (d * d) = 0) : sqI d f z = z := by
  cases f with
  | zero => rfl
  | succ f => exact if_neg h
theorem sqI_ok {d : Int} (hd : 2 ≤ d) : ∀ (f : Nat) {z : Int}, z ≠ 0 → sqI d f z ≠ 0 ∧ (sqI d f z).natAbs ≤ z.natAbs
  | 0, z, hz => ⟨hz, Nat.le_refl _⟩
  | f + 1, z, hz => by
    show (if z % (d * d) = 0 then sqI d f (z / (d * d)) else z) ≠ 0 ∧ (if z % (d * d) = 0 then sqI d f (z / (d * d)) else z).natAbs ≤ z.natAbs
    split
    · rename_i h
      obtain ⟨a, b⟩ := sqI_half hd hz h
      obtain ⟨c, e⟩ := sqI_ok hd f a
      exact ⟨c, by omega⟩
    · exact ⟨hz, Nat.le_refl _⟩
theorem sqA_ok {z : Int} (hz : z ≠ 0) : ∀ i, sqA z i ≠ 0 ∧ (sqA z i).natAbs ≤ z.natAbs
  | 0 => ⟨hz, Nat.le_refl _⟩
  | i + 1 => by
    obtain ⟨a, b⟩ := sqA_ok hz i
    obtain ⟨c, e⟩ := sqI_ok (d := (2 : Int) + (i : Int)) (by omega) 20 a
    exact ⟨c, Nat.le_trans e b⟩
def sp_sgnOf : Sp := fun vs H Q _ => ∃ z : Int, vs = [.int z] ∧ z ≠ 0 ∧ z.natAbs < 1048576 ∧ Q (.int (lawSgnOf z)) H
section
variable {P : Program} {w : World} {K : PySem.W.Frag} {mg : Str → Option Value} {base : Heap}
theorem ok_gcd (D : Df K mg "_law_gcd" s__law_gcd ["_law_one", "_law_other"]) (B : Bi mg)  : Cal P w K mg base 1 "_law_gcd" sp_gcd := by
  obtain ⟨f, fd, F, m, b⟩ := D.ex
  have sc := sc__law_gcd
  refine ⟨f, fd, _, F.ok sc (fun _ _ _ _ ⟨_, _, e, _⟩ => by rw [e]; rfl) (fun cdv A outer s H vs Q E hr h => ?_), m, F.kp, b⟩
  obtain ⟨x, y, rfl, q⟩ := h
  refine ⟨_, (pss_cons (ps_par (i := 0) (j := 1) (by rfl) sc.nd rfl rfl (by decide) rfl rfl (pa_cons (pe_callB call_abs (by rfl) B.abs (by decide +kernel) (pa_cons (pv 0) pa_nil)) (pa_cons (pe_callB call_abs (by rfl) B.abs (by decide +kernel) (pa_cons (pv 1) pa_nil)) pa_nil)) (by rfl))
      (pss_cons (ps_while PassesOwn.never (pt_cmpR op_ne (pv 1) pe_int (nomark _))
      (pss_one (ps_par (i := 0) (j := 1) (by rfl) sc.nd rfl rfl (by decide) rfl rfl (pa_cons (pv 1) (pa_cons (pe_op op_mod (pe_callTy call_int1 (by rfl) B.int_ (by decide +kernel) (pa_cons (pv 0) pa_nil)) (pv 1)) pa_nil)) (by rfl))))
      (pss_one (ps_ret (pv 0))))), ?_⟩
  refine ⟨_, rfl, x, rfl, _, rfl, y, rfl, _, _, rfl, ?_⟩
  refine while_go (fun σ H' => H = H' ∧ ∃ a b : Nat, σ = [some (.int (a : Nat)), some (.int (b : Nat))] ∧ Nat.gcd a b = Nat.gcd x.natAbs y.natAbs) (fun σ _ => m0 1 σ)
    ⟨rfl, x.natAbs, y.natAbs, by show [some (V.int (if x < 0 then -x else x)), some (V.int (if y < 0 then -y else y))] = _; rw [abs_ifN, abs_ifN], rfl⟩ ?_
  rintro σ _ ⟨rfl, a, b, rfl, hg⟩
  refine ⟨_, rfl, rfl, _, rfl, ifNI (fun hne => ?_) fun he => ?_⟩
  · have hb : 0 < b := by omega
    refine ⟨fun σ' H' => H = H' ∧ ∃ a' b' : Nat, σ' = [some (.int (a' : Nat)), some (.int (b' : Nat))] ∧ Nat.gcd a' b' = Nat.gcd x.natAbs y.natAbs ∧ b' < b, ?_, ?_⟩
    · rintro σ' _ ⟨rfl, a', b', rfl, h1, h2⟩
      exact ⟨_, (by show ((b' : Int)).toNat < ((b : Int)).toNat; omega), rfl, rfl, a', b', rfl, h1⟩
    refine ⟨_, rfl, _, rfl, .inl ⟨_, rfl, _, rfl, _, _, rfl, rfl, (by show (0 : Int) < (b : Int); omega), _, _, rfl, ?_⟩⟩
    refine ⟨rfl, b, a % b, rfl, ?_, Nat.mod_lt _ hb⟩
    rw [← hg, Nat.gcd_comm b, ← Nat.gcd_rec, Nat.gcd_comm]
  · have hb : b = 0 := by omega
    subst hb
    rw [Nat.gcd_zero_right] at hg
    refine ⟨_, rfl, ?_⟩
    rw [hg]
    exact q
theorem ok_pow (D : Df K mg "_law_power" s__law_power ["_law_base", "_law_often"]) (B : Bi mg) : Cal P w K mg base 1 "_law_power" sp_pow := by
  obtain ⟨f, fd, F, m, b⟩ := D.ex
  have sc := sc__law_power
  refine ⟨f, fd, _, F.ok sc (fun _ _ _ _ ⟨_, _, e, _⟩ => by rw [e]; rfl) (fun cdv A outer s H vs Q E hr h => ?_), m, F.kp, b⟩
  obtain ⟨x, k, rfl, x1, x5, k24, q⟩ := h
  refine ⟨_, (pss_cons (ps_set (i := 2) sc.nd rfl (Or.inl rfl) pe_int)
      (pss_cons (ps_for PassesOwn.never rfl (pi_range1 rfl B.range (pa_cons (pv 1) pa_nil)) (pg_name (i := 3) sc.nd rfl (Or.inl rfl))
      (pss_one (ps_set (i := 2) sc.nd rfl (Or.inl rfl) (pe_op op_mulW (pv 2) (pv 0)))))
      (pss_one (ps_ret (pv 2))))), ?_⟩
  refine ⟨_, rfl, (k : Int), rfl, by omega, by omega, for_range (lo := 0) (n := ((k : Int)).toNat) (fun i σ H' => H = H' ∧ ∃ o : Option V, σ = [some (.int (x : Int)), some (.int (k : Int)), some (.int ((x ^ i : Nat) : Int)), o]) ⟨rfl, none, rfl⟩ ?_ ?_⟩
  · rintro i σ _ hi ⟨rfl, o, rfl⟩
    have hi : i < k := by omega
    have xi := pow_100k x5 (show i ≤ 24 by omega)
    refine ⟨_, rfl, _, rfl, _, _, rfl, rfl, mul8 (by rw [Int.natAbs_natCast]; exact Nat.lt_of_le_of_lt xi (Nat.pow_lt_pow_right (by decide) (by decide))) (by rw [Int.natAbs_natCast]; exact Nat.lt_of_le_of_lt x5 (by decide)), rfl, some (.int (0 + (i : Int))), ?_⟩
    rw [Nat.pow_succ, Int.natCast_mul]
    rfl
  · rintro σ _ ⟨rfl, o, rfl⟩
    rw [Int.toNat_natCast]
    exact ⟨_, rfl, q⟩
theorem ok_sgnOf (D : Df K mg "_law_sign_of" s__law_sign_of ["_law_m"]) (B : Bi mg) : Cal P w K mg base 1 "_law_sign_of" sp_sgnOf := by
  obtain ⟨f, fd, F, m, b⟩ := D.ex
  have sc := sc__law_sign_of
  refine ⟨f, fd, _, F.ok sc (fun _ _ _ _ ⟨_, e, _⟩ => by rw [e]; rfl) (fun cdv A outer s H vs Q E hr h => ?_), m, F.kp, b⟩
  obtain ⟨z, rfl, z0, zl, q⟩ := h
  refine ⟨_, (pss_cons (ps_set (i := 1) sc.nd rfl (Or.inl rfl) (pv 0))
      (pss_cons (ps_for PassesOwn.never rfl (pi_range2 (by rfl) B.range (pa_cons pe_int (pa_cons pe_int pa_nil))) (pg_name (i := 2) sc.nd rfl (Or.inl rfl))
      (pss_one (ps_while PassesOwn.never (pt_cmpR op_eq (pe_op op_mod (pe_callTy call_int1 (by rfl) B.int_ (by decide +kernel) (pa_cons (pv 1) pa_nil)) (pe_op op_mulW (pv 2) (pv 2))) pe_int (nomark _))
        (pss_one (ps_set (i := 1) sc.nd rfl (Or.inl rfl) (pe_op op_fdivW (pv 1) (pe_op op_mulW (pv 2) (pv 2))))))))
      (pss_one (ps_ret (pe_ifExp (pt_cmpR op_eq (pe_op op_mod (pe_callTy call_int1 (by rfl) B.int_ (by decide +kernel) (pa_cons (pv 1) pa_nil)) pe_int) pe_int (nomark _)) (pv 1) (pe_op op_mulW pe_int (pv 1))))))), ?_⟩
  refine ⟨_, rfl, ?_⟩
  dsimp only [gName]
  refine ⟨2, 400, rfl, by decide, for_range (lo := 2) (n := 398) (fun i σ H' => H = H' ∧ ∃ o : Option V, σ = [some (.int z), some (.int (sqA z i)), o]) ⟨rfl, none, rfl⟩ ?_ ?_⟩
  · rintro i σ _ hi ⟨rfl, o, rfl⟩
    obtain ⟨a0, al⟩ := sqA_ok z0 i
    have d2 : (2 : Int) ≤ 2 + (i : Int) := by omega
    have dl : ((2 : Int) + (i : Int)).natAbs ≤ 400 := by omega
    have e1 : sqA z (i + 1) = sqI ((2 : Int) + (i : Int)) 20 (sqA z i) := rfl
    rw [e1]
    generalize sqA z i = y at a0 al
    generalize (2 : Int) + (i : Int) = dd at d2 dl
    have mdd : CMulW dd dd := mul8 (Nat.lt_of_le_of_lt dl (by decide)) (Nat.lt_of_le_of_lt dl (by decide))
    have ddp : 0 < dd * dd := Int.mul_pos (by omega) (by omega)
    dsimp only [gName]
    refine while_go (fun σ H' => H = H' ∧ ∃ (f : Nat) (w : Int), σ = [some (.int z), some (.int w), some (.int dd)] ∧ w ≠ 0 ∧ w.natAbs < 2 ^ f ∧ w.natAbs ≤ z.natAbs ∧ sqI dd f w = sqI dd 20 y) (fun σ _ => match σ with | [_, some (.int x), _] => x.natAbs | _ => 0) ⟨rfl, 20, y, rfl, a0, by omega, al, rfl⟩ ?_
    rintro σ _ ⟨rfl, f, w, rfl, w0, wf, wz, es⟩
    refine ⟨_, rfl, .inl ⟨_, rfl, _, rfl, _, rfl, _, _, rfl, rfl, mdd, _, _, rfl, rfl, ddp, rfl, _, rfl, ifI (fun e => ?_) fun e => ?_⟩⟩
    · obtain ⟨n0, nh⟩ := sqI_half d2 w0 e
      obtain ⟨g, rfl⟩ : ∃ g, f = g + 1 := by
        cases f with
        | zero => rw [Nat.pow_zero] at wf; omega
        | succ g => exact ⟨g, rfl⟩
      rw [Nat.pow_succ] at wf
      have es' : sqI dd g (w / (dd * dd)) = sqI dd 20 y := by rw [← es]; exact (if_pos e).symm
      refine ⟨fun σ' H' => H = H' ∧ ∃ v : Int, v = w / (dd * dd) ∧ σ' = [some (.int z), some (.int v), some (.int dd)], ?_, ?_⟩
      · rintro σ' _ ⟨rfl, v, rfl, rfl⟩
        exact ⟨_, (by show (w / (dd * dd)).natAbs < w.natAbs; omega), rfl, rfl, g, _, rfl, n0, by omega, by omega, es'⟩
      · have ddl : (dd * dd).natAbs ≤ 160000 := by rw [Int.natAbs_mul]; exact Nat.mul_le_mul dl dl
        refine ⟨_, rfl, _, rfl, _, rfl, _, _, rfl, rfl, mdd, _, _, rfl, rfl, ?_, rfl, _, rfl, rfl⟩
        exact wide_div (b := 64) (by omega) (by omega) (by decide) (by decide)
    · rw [sqI_stop e] at es
      exact ⟨rfl, some (.int dd), by rw [← es]⟩
  · rintro σ _ ⟨rfl, o, rfl⟩
    have e0 : lawSgnOf z = if sqA z 398 % 4 = 1 then sqA z 398 else 4 * sqA z 398 := rfl
    obtain ⟨a0, al⟩ := sqA_ok z0 398
    generalize sqA z 398 = y at e0 a0 al
    dsimp only
    refine ⟨_, rfl, .inl ⟨_, rfl, _, _, rfl, rfl, (by show (0 : Int) < 4; decide), rfl, _, rfl, ifI (fun e => ?_) fun e => ?_⟩⟩
    · rw [if_pos e] at e0
      refine ⟨_, rfl, ?_⟩
      rw [← e0]
      exact q
    · rw [if_neg e] at e0
      refine ⟨_, rfl, _, _, rfl, rfl, mul8 (by decide) (Nat.lt_of_le_of_lt (by omega : _ ≤ 1048576) (by decide)), ?_⟩
      rw [e0] at q
      exact q
end
end Ft

set_option exponentiation.threshold 9000
namespace Ft
open PySem L2
/-! ### the law's own numbers -/
def sp_lowest : Sp := fun vs H Q _ => ∃ a b : Int, vs = [.int a, .int b] ∧ 0 < b ∧ b.natAbs < 2 ^ 8000 ∧ ∀ H' v, Same H H' → Fr H' v (low a b) → Q v H'
def choL (n : Nat) : Nat → Int
  | 0 => 1
  | i + 1 => choL n i * ((n : Int) - (i : Int)) / ((i : Int) + 1)
theorem cho_all : (List.range 26).all (fun n => (List.range 26).all fun k => decide (choL n k = comb n k) && Nat.blt (choL n k).natAbs (2 ^ 64)) = true := by decide +kernel
theorem cho_of {n k : Nat} (hn : n ≤ 25) (hk : k ≤ 25) : choL n k = comb n k ∧ (choL n k).natAbs < 2 ^ 64 := by
  have c := List.all_eq_true.mp (List.all_eq_true.mp cho_all n (List.mem_range.mpr (by omega))) k (List.mem_range.mpr (by omega))
  rw [Bool.and_eq_true, Nat.blt_eq] at c
  exact ⟨of_decide_eq_true c.1, c.2⟩
def sp_choose : Sp := fun vs H Q _ => ∃ n k : Nat, vs = [.int (n : Int), .int (k : Int)] ∧ n ≤ 25 ∧ k ≤ 25 ∧ Q (.int (comb n k)) H
section
variable {P : Program} {w : World} {K : PySem.W.Frag} {mg : Str → Option Value} {base : Heap}
theorem ok_lowest (D : Df K mg "_law_lowest" s__law_lowest ["_law_top", "_law_bottom"]) (B : Bi mg) (c__law_gcd : Cal P w K mg base 1 "_law_gcd" sp_gcd) : Cal P w K mg base 2 "_law_lowest" sp_lowest := by
  obtain ⟨f, fd, F, m, b⟩ := D.ex
  have sc := sc__law_lowest
  refine ⟨f, fd, _, F.ok sc (fun _ _ _ _ ⟨_, _, e, _⟩ => by rw [e]; rfl) (fun cdv A outer s H vs Q E hr h => ?_), m, F.kp, b⟩
  obtain ⟨a, b, rfl, b0, b8, q⟩ := h
  refine ⟨_, (pss_cons (ps_set (i := 2) sc.nd rfl (Or.inl rfl) (pe_c c__law_gcd hr (by decide) (by rfl) (pa_cons (pv 0) (pa_cons (pv 1) pa_nil))))
      (pss_cons (ps_if (pt_cmpR op_lt (pv 1) pe_int (nomark _))
      (pss_one (ps_set (i := 2) sc.nd rfl (Or.inl rfl) (pe_un un_neg (pv 2))))
      pss_nil)
      (pss_one (ps_ret (pe_tup (pa_cons (pe_op op_fdivW (pv 0) (pv 2)) (pa_cons (pe_op op_fdivW (pv 1) (pv 2)) pa_nil))))))), ?_⟩
  refine ⟨_, rfl, _, rfl, a, b, rfl, ?_⟩
  have g0 : 0 < Nat.gcd a.natAbs b.natAbs := Nat.gcd_pos_of_pos_right _ (by omega)
  have gl : Nat.gcd a.natAbs b.natAbs ≤ b.natAbs := Nat.le_of_dvd (by omega) (Nat.gcd_dvd_right _ _)
  refine ⟨_, rfl, _, _, rfl, rfl, _, rfl, ifD (fun e => absurd e (by omega)) fun _ => ?_⟩
  have cd : ∀ i : Int, CDivW i ((Nat.gcd a.natAbs b.natAbs : Nat) : Int) := fun i => wide_div (b := 8000) (by omega) (by rw [Int.natAbs_natCast]; exact Nat.lt_of_le_of_lt gl b8) (by decide) (by decide)
  refine ⟨_, rfl, _, rfl, _, _, rfl, rfl, cd a, _, rfl, _, rfl, _, _, rfl, rfl, cd b, (by show (2 : Nat) ≤ sizeLine; decide), fun p hp => q _ _ (Same.upd_new hp) ?_⟩
  exact Fr.new
theorem ok_plus (D : Df K mg "_law_plus" s__law_plus ["_law_one", "_law_other"]) (c__law_lowest : Cal P w K mg base 2 "_law_lowest" sp_lowest) : Cal P w K mg base 3 "_law_plus" (sp_num nsum) := by
  obtain ⟨f, fd, F, m, b⟩ := D.ex
  have sc := sc__law_plus
  refine ⟨f, fd, _, F.ok sc (fun _ _ _ _ ⟨_, _, _, _, e, _⟩ => by rw [e]; rfl) (fun cdv A outer s H vs Q E hr h => ?_), m, F.kp, b⟩
  obtain ⟨u, v, x, y, rfl, hu, hv, sx, sy, q⟩ := h
  refine ⟨_, (pss_one (ps_ret (pe_c c__law_lowest hr (by decide) (by rfl) (pa_cons (pe_op op_add (pe_op op_mulW (pe_ix (show IxR _ (rIx K) from ix_seq) (pv 0) pe_int (fun _ _ => rfl)) (pe_ix (show IxR _ (rIx K) from ix_seq) (pv 1) pe_int (fun _ _ => rfl))) (pe_op op_mulW (pe_ix (show IxR _ (rIx K) from ix_seq) (pv 1) pe_int (fun _ _ => rfl)) (pe_ix (show IxR _ (rIx K) from ix_seq) (pv 0) pe_int (fun _ _ => rfl)))) (pa_cons (pe_op op_mulW (pe_ix (show IxR _ (rIx K) from ix_seq) (pv 0) pe_int (fun _ _ => rfl)) (pe_ix (show IxR _ (rIx K) from ix_seq) (pv 1) pe_int (fun _ _ => rfl))) pa_nil))))), ?_⟩
  refine ⟨_, rfl, fr0 hu ⟨_, rfl, fr1 hv ⟨_, _, rfl, rfl, mulS sx.1 sy.2.1, ?_⟩⟩⟩
  refine ⟨_, rfl, fr0 hv ⟨_, rfl, fr1 hu ⟨_, _, rfl, rfl, mulS sy.1 sx.2.1, ?_⟩⟩⟩
  refine ⟨_, _, rfl, rfl, ?_⟩
  refine ⟨_, rfl, fr1 hu ⟨_, rfl, fr1 hv ⟨_, _, rfl, rfl, mulS sx.2.1 sy.2.1, ?_⟩⟩⟩
  exact ⟨_, _, rfl, Int.mul_pos sx.2.2 sy.2.2, Nat.lt_of_lt_of_le (wide_lt sx.2.1 sy.2.1) (Nat.pow_le_pow_right (by decide) (by decide)), q⟩
theorem ok_by (D : Df K mg "_law_by" s__law_by ["_law_one", "_law_other"]) (c__law_lowest : Cal P w K mg base 2 "_law_lowest" sp_lowest) : Cal P w K mg base 3 "_law_by" (sp_num nprod) := by
  obtain ⟨f, fd, F, m, b⟩ := D.ex
  have sc := sc__law_by
  refine ⟨f, fd, _, F.ok sc (fun _ _ _ _ ⟨_, _, _, _, e, _⟩ => by rw [e]; rfl) (fun cdv A outer s H vs Q E hr h => ?_), m, F.kp, b⟩
  obtain ⟨u, v, x, y, rfl, hu, hv, sx, sy, q⟩ := h
  refine ⟨_, (pss_one (ps_ret (pe_c c__law_lowest hr (by decide) (by rfl) (pa_cons (pe_op op_mulW (pe_ix (show IxR _ (rIx K) from ix_seq) (pv 0) pe_int (fun _ _ => rfl)) (pe_ix (show IxR _ (rIx K) from ix_seq) (pv 1) pe_int (fun _ _ => rfl))) (pa_cons (pe_op op_mulW (pe_ix (show IxR _ (rIx K) from ix_seq) (pv 0) pe_int (fun _ _ => rfl)) (pe_ix (show IxR _ (rIx K) from ix_seq) (pv 1) pe_int (fun _ _ => rfl))) pa_nil))))), ?_⟩
  refine ⟨_, rfl, fr0 hu ⟨_, rfl, fr0 hv ⟨_, _, rfl, rfl, mulS sx.1 sy.1, ?_⟩⟩⟩
  refine ⟨_, rfl, fr1 hu ⟨_, rfl, fr1 hv ⟨_, _, rfl, rfl, mulS sx.2.1 sy.2.1, ?_⟩⟩⟩
  exact ⟨_, _, rfl, Int.mul_pos sx.2.2 sy.2.2, Nat.lt_of_lt_of_le (wide_lt sx.2.1 sy.2.1) (Nat.pow_le_pow_right (by decide) (by decide)), q⟩
theorem ok_choose (D : Df K mg "_law_choose" s__law_choose ["_law_n", "_law_k"]) (B : Bi mg) : Cal P w K mg base 1 "_law_choose" sp_choose := by
  obtain ⟨f, fd, F, m, b⟩ := D.ex
  have sc := sc__law_choose
  refine ⟨f, fd, _, F.ok sc (fun _ _ _ _ ⟨_, _, e, _⟩ => by rw [e]; rfl) (fun cdv A outer s H vs Q E hr h => ?_), m, F.kp, b⟩
  obtain ⟨n, k, rfl, n25, k25, q⟩ := h
  refine ⟨_, (pss_cons (ps_set (i := 2) sc.nd rfl (Or.inl rfl) pe_int)
      (pss_cons (ps_for PassesOwn.never rfl (pi_range1 rfl B.range (pa_cons (pv 1) pa_nil)) (pg_name (i := 3) sc.nd rfl (Or.inl rfl))
      (pss_one (ps_set (i := 2) sc.nd rfl (Or.inl rfl) (pe_op op_fdivW (pe_op op_mulW (pv 2) (pe_op op_sub (pv 0) (pv 3))) (pe_op op_add (pv 3) pe_int)))))
      (pss_one (ps_ret (pv 2))))), ?_⟩
  refine ⟨_, rfl, (k : Int), rfl, by omega, by omega, for_range (lo := 0) (n := ((k : Int)).toNat) (fun i σ H' => H = H' ∧ ∃ o : Option V, σ = [some (.int (n : Int)), some (.int (k : Int)), some (.int (choL n i)), o]) ⟨rfl, none, rfl⟩ ?_ ?_⟩
  · rintro i σ _ hi ⟨rfl, o, rfl⟩
    have hi : i < k := by omega
    have c := (cho_of n25 (show i ≤ 25 by omega)).2
    dsimp only [gName]
    rw [show (0 : Int) + (i : Int) = (i : Int) by omega]
    refine ⟨_, rfl, _, rfl, _, rfl, _, _, rfl, rfl, _, _, rfl, rfl, mul8 (Nat.lt_trans c (Nat.pow_lt_pow_right (by decide) (by decide))) (Nat.lt_of_le_of_lt (show ((n : Int) - (i : Int)).natAbs ≤ 50 by omega) (by decide)), ?_⟩
    refine ⟨_, rfl, _, _, rfl, rfl, _, _, rfl, rfl, ?_, rfl, _, rfl⟩
    exact wide_div (b := 64) (by omega) (Nat.lt_of_le_of_lt (show ((i : Int) + 1).natAbs ≤ 30 by omega) (by decide)) (by decide) (by decide)
  · rintro σ _ ⟨rfl, o, rfl⟩
    rw [Int.toNat_natCast, (cho_of n25 k25).1]
    exact ⟨_, rfl, q⟩
end
end Ft

set_option exponentiation.threshold 9000
namespace Ft
open PySem L2
/-! ### the law's own values of signs: by the least divisors -/
def pvx (s : Int) (p : Nat) : Nat → Bool
  | 0 => false
  | j + 1 => decide ((((j + 1 : Nat) : Int) * ((j + 1 : Nat) : Int) - s) % (p : Int) = 0) || pvx s p j
def pvL (s : Int) (p : Nat) : Int := if s % (p : Int) = 0 then 0 else if p = 2 then (if s % 8 = 1 then 1 else -1) else if pvx s p (p - 1) = true then 1 else -1
def dv2 (n j : Nat) : List Nat := ((List.range j).filter fun j => decide ((j + 2) * (j + 2) ≤ n) && Nat.beq (n % (j + 2)) 0).map (· + 2)
def lpL (n : Nat) : Nat := (dv2 n 19 ++ [n]).headD n
def chkW (s : Int) : Bool := decide (valueAt s ((0 : Nat) : Int) = if s = 1 then 1 else 0) && (decide (valueAt s ((1 : Nat) : Int) = 1) && (List.range 400).all fun j => decide (pvL s (lpL (j + 2)) * valueAt s (((j + 2) / lpL (j + 2) : Nat) : Int) = valueAt s ((j + 2 : Nat) : Int)))
theorem chkW_0 : (List.range 64).all (fun i => !isSign ((i : Int) - 64) || chkW ((i : Int) - 64)) = true := by decide +kernel
theorem chkW_1 : (List.range 65).all (fun i => !isSign (i : Int) || chkW (i : Int)) = true := by decide +kernel
theorem chkW_of {s : Int} (hs : isSign s = true) (h : s.natAbs ≤ 64) : chkW s = true := by
  rcases Int.lt_or_le s 0 with k | k
  · have c := List.all_eq_true.mp chkW_0 (s + 64).toNat (List.mem_range.mpr (by omega))
    rw [show (((s + 64).toNat : Nat) : Int) - 64 = s by omega, hs, Bool.not_true, Bool.false_or] at c
    exact c
  · have c := List.all_eq_true.mp chkW_1 s.toNat (List.mem_range.mpr (by omega))
    rw [show ((s.toNat : Nat) : Int) = s by omega, hs, Bool.not_true, Bool.false_or] at c
    exact c
theorem chkW_at {s : Int} (hs : isSign s = true) (h : s.natAbs ≤ 64) : valueAt s ((0 : Nat) : Int) = (if s = 1 then 1 else 0) ∧ valueAt s ((1 : Nat) : Int) = 1 ∧ ∀ n, 2 ≤ n → n ≤ 401 → pvL s (lpL n) * valueAt s ((n / lpL n : Nat) : Int) = valueAt s (n : Int) := by
  have c := chkW_of hs h
  unfold chkW at c
  rw [Bool.and_eq_true, Bool.and_eq_true] at c
  refine ⟨of_decide_eq_true c.1, of_decide_eq_true c.2.1, fun n n2 n4 => ?_⟩
  have := of_decide_eq_true (List.all_eq_true.mp c.2.2 (n - 2) (List.mem_range.mpr (by omega)))
  rwa [show n - 2 + 2 = n by omega] at this
end Ft

set_option exponentiation.threshold 9000
namespace Ft
open PySem L2
theorem dv2_succ (n j : Nat) : dv2 n (j + 1) = dv2 n j ++ if (j + 2) * (j + 2) ≤ n ∧ n % (j + 2) = 0 then [j + 2] else [] := by
  unfold dv2
  rw [List.range_succ, List.filter_append, List.map_append]
  congr 1
  by_cases h : (j + 2) * (j + 2) ≤ n ∧ n % (j + 2) = 0
  · rw [if_pos h, List.filter_cons_of_pos (by rw [decide_eq_true h.1, h.2]; rfl)]; rfl
  · rw [if_neg h, List.filter_cons_of_neg (by
      intro z
      rw [Bool.and_eq_true] at z
      exact h ⟨of_decide_eq_true z.1, Nat.eq_of_beq_eq_true z.2⟩)]; rfl
theorem dv2_len (n j : Nat) : (dv2 n j).length ≤ j := by
  unfold dv2
  rw [List.length_map]
  exact Nat.le_trans (List.length_filter_le _ _) (by rw [List.length_range]; exact Nat.le_refl _)
theorem lpL_ok {n : Nat} (h : 2 ≤ n) : ∃ rest, dv2 n 19 ++ [n] = lpL n :: rest ∧ 2 ≤ lpL n ∧ lpL n ∣ n := by
  unfold lpL
  cases e : dv2 n 19 with
  | nil => exact ⟨[], rfl, h, Nat.dvd_refl n⟩
  | cons a l =>
    have ha : a ∈ dv2 n 19 := by rw [e]; exact List.mem_cons_self
    unfold dv2 at ha
    obtain ⟨j, hj, rfl⟩ := List.mem_map.mp ha
    have := (List.mem_filter.mp hj).2
    rw [Bool.and_eq_true] at this
    exact ⟨l ++ [n], rfl, by show 2 ≤ j + 2; omega, Nat.dvd_of_mod_eq_zero (Nat.eq_of_beq_eq_true this.2)⟩
def valsV (s : Int) (n : Nat) : List Int := (List.range n).map fun j : Nat => valueAt s (j : Int)
theorem valsV_len (s : Int) (n : Nat) : (valsV s n).length = n := by unfold valsV; rw [List.length_map, List.length_range]
theorem valsV_succ (s : Int) (n : Nat) : valsV s (n + 1) = valsV s n ++ [valueAt s (n : Int)] := by unfold valsV; rw [List.range_succ, List.map_append]; rfl
theorem valsV_at {s : Int} {n a : Nat} (h : a < n) : ((valsV s n).map V.int)[a]? = some (V.int (valueAt s (a : Int))) := by
  unfold valsV
  rw [List.getElem?_map, List.getElem?_map, List.getElem?_range h]
  rfl
def sp_pval : Sp := fun vs H Q _ => ∃ (s : Int) (p : Nat), vs = [.int s, .int (p : Int)] ∧ 2 ≤ p ∧ p ≤ 401 ∧ s.natAbs ≤ 400 ∧ ∀ H', Same H H' → Q (.int (pvL s p)) H'
def sp_lvals : Sp := fun vs H Q _ => ∃ (s : Int) (M : Nat), vs = [.int s, .int (M : Int)] ∧ isSign s = true ∧ s.natAbs ≤ 64 ∧ 2 ≤ M ∧ M ≤ 401 ∧ ∀ H' p, Same H H' → H p = none → H' p = some (.lst ((valsV s M).map V.int)) → Q (.ref p) H'
section
variable {P : Program} {w : World} {K : PySem.W.Frag} {mg : Str → Option Value} {base : Heap}
theorem ok_pval (D : Df K mg "_law_prime_value" s__law_prime_value ["_law_sign", "_law_p"]) (B : Bi mg) : Cal P w K mg base 1 "_law_prime_value" sp_pval := by
  obtain ⟨f, fd, F, m, b⟩ := D.ex
  have sc := sc__law_prime_value
  refine ⟨f, fd, _, F.ok sc (fun _ _ _ _ ⟨_, _, e, _⟩ => by rw [e]; rfl) (fun cdv A outer s0 H vs Q E hr h => ?_), m, F.kp, b⟩
  obtain ⟨s, p, rfl, p2, p4, s4, q⟩ := h
  have h64 : (A.deeper (PyProof.Rows.envOfC "_law_prime_value" (defScope s__law_prime_value) s0.heap.objs.size f cdv)).units + 64 < cLine := by have := hr.un; omega
  refine ⟨_, (pss_cons (ps_if (pt_cmpR op_eq (pe_op op_mod (pe_callTy call_int1 (by rfl) B.int_ (by decide +kernel) (pa_cons (pv 0) pa_nil)) (pv 1)) pe_int (nomark _))
      (pss_one (ps_ret pe_int))
      pss_nil)
      (pss_cons (ps_if (pt_cmpR op_eq (pv 1) pe_int (nomark _))
      (pss_one (ps_ret (pe_ifExp (pt_cmpR op_eq (pe_op op_mod (pe_callTy call_int1 (by rfl) B.int_ (by decide +kernel) (pa_cons (pv 0) pa_nil)) pe_int) pe_int (nomark _)) pe_int (pe_un un_neg pe_int))))
      pss_nil)
      (pss_one (ps_ret (pe_ifExp (pt_cmpR (op_neD h64) (pe_lc (own := [("_law_x", 2)]) (g := gName 2)  (by rfl) sc.nd (pi_range2 (by rfl) B.range (pa_cons pe_int (pa_cons (pv 1) pa_nil))) (blkOk_by (own := [("_law_x", 2)]) (N := N__law_prime_value) (sc := defScope s__law_prime_value) (by decide +kernel)) (fun _ _ _ _ _ => (pg_name (i := 2) sc.nd rfl (Or.inl rfl))) (fun _ _ _ _ _ => (pts_one (pt_cmpR op_eq (pe_op op_mod (pe_callTy call_int1 (by rfl) B.int_ (by decide +kernel) (pa_cons (pe_op op_sub (pe_op op_mulW (pv 2) (pv 2)) (pv 0)) pa_nil)) (pv 1)) pe_int (nomark _)))) (fun _ _ _ _ _ => pe_int)) (pe_lst pa_nil) (nomark _)) pe_int (pe_un un_neg pe_int)))))), ?_⟩
  unfold pvL at q
  have p0 : (0 : Int) < (p : Int) := by omega
  refine ⟨_, rfl, .inl ⟨_, rfl, _, rfl, _, _, rfl, rfl, p0, rfl, _, rfl, ifI (fun e => ?_) fun e => ?_⟩⟩
  · rw [if_pos e] at q
    exact q _ (Same.refl _)
  rw [if_neg e] at q
  refine ⟨_, rfl, rfl, _, rfl, ifI (fun e2 => ?_) fun e2 => ?_⟩
  · rw [if_pos (by omega)] at q
    refine ⟨_, rfl, .inl ⟨_, rfl, _, _, rfl, rfl, (by show (0 : Int) < 8; decide), rfl, _, rfl, ifI (fun e3 => ?_) fun e3 => ?_⟩⟩
    · rw [if_pos e3] at q
      exact q _ (Same.refl _)
    · rw [if_neg e3] at q
      exact ⟨_, rfl, q _ (Same.refl _)⟩
  rw [if_neg (by omega)] at q
  refine ⟨_, rfl, 1, (p : Int), rfl, ⟨by decide, by decide, by omega, by omega⟩, fun C hC => ?_⟩
  refine lc_range (lo := 1) (n := ((p : Int) - 1).toNat) (fun i H' => Same H H' ∧ ∃ c : Nat, c ≤ i ∧ decide (0 < c) = pvx s p i ∧ H' C = some (.lst ((List.replicate c (1 : Int)).map V.int))) ⟨Same.upd_new hC, 0, Nat.le_refl _, rfl, upd_same⟩ ?_ ?_
  · rintro i H2 hi ⟨s2, c, ci, cp, h2⟩
    have bk : ((i + 1 : Nat) : Int).natAbs < 2 ^ 8000 := Nat.lt_of_le_of_lt (by omega : _ ≤ 402) (by decide)
    dsimp only [gName]
    rw [show (1 : Int) + (i : Int) = ((i + 1 : Nat) : Int) by omega]
    refine ⟨rfl, _, rfl, _, rfl, _, _, rfl, rfl, mul8 bk bk, _, rfl, _, _, rfl, rfl, .inl ⟨_, rfl, _, rfl, _, _, rfl, rfl, p0, rfl, _, rfl, ifI (fun e3 => ?_) fun e3 => ?_⟩⟩
    · refine ⟨_, h2, ?_, fun b o z => ?_, c + 1, by omega, ?_, ?_⟩
      · rw [List.length_map, List.length_replicate]; exact Nat.lt_of_le_of_lt (by omega : c ≤ 402) (by decide)
      · rw [upd_ne (ne_of_none z hC)]
        exact s2 _ _ z
      · show _ = (decide _ || pvx s p i)
        rw [decide_eq_true e3, Bool.true_or]
        exact decide_eq_true (Nat.succ_pos _)
      · rw [upd_same, List.replicate_succ', List.map_append]
        rfl
    · refine ⟨s2, c, by omega, ?_, h2⟩
      show _ = (decide _ || pvx s p i)
      rw [decide_eq_false e3, Bool.false_or]
      exact cp
  rintro H2 ⟨s2, c, ci, cp, h2⟩
  rw [show ((p : Int) - 1).toNat = p - 1 by omega] at cp
  rw [← cp] at q
  refine ⟨(by show (0 : Nat) ≤ sizeLine; decide), fun p4 hp4 => ?_⟩
  have s4 : Same H2 (upd H2 p4 (.lst [])) := Same.upd_new hp4
  have h4 : (upd H2 p4 (.lst [])) p4 = some (.lst []) := upd_same
  generalize upd H2 p4 (.lst []) = H4 at s4 h4
  refine ⟨_, _, .lst (SqL.of (s4 _ _ h2)) (dp_ints _), .lst (SqL.of h4) .nil, shaped_ints _, by decide, _, congrArg (fun z : Bool => V.bl (!z)) (eqv_nil _), ?_⟩
  cases c with
  | zero =>
    rw [if_neg (by decide)] at q
    exact iteF ⟨_, rfl, q _ (s2.trans s4)⟩
  | succ c =>
    rw [if_pos (decide_eq_true (Nat.succ_pos c))] at q
    exact iteT (q _ (s2.trans s4))
theorem ok_lvals (D : Df K mg "_law_values" s__law_values ["_law_sign", "_law_many"]) (B : Bi mg) (c__law_prime_value : Cal P w K mg base 1 "_law_prime_value" sp_pval) : Cal P w K mg base 2 "_law_values" sp_lvals := by
  obtain ⟨f, fd, F, m, b⟩ := D.ex
  have sc := sc__law_values
  refine ⟨f, fd, _, F.ok sc (fun _ _ _ _ ⟨_, _, e, _⟩ => by rw [e]; rfl) (fun cdv A outer s0 H vs Q E hr h => ?_), m, F.kp, b⟩
  obtain ⟨s, M, rfl, hs, s64, M2, M4, q⟩ := h
  have hu := hu_of hr
  refine ⟨_, (pss_cons (ps_par (i := 2) (j := 3) (by rfl) sc.nd rfl rfl (by decide) rfl rfl (pa_cons (pe_lst (pa_cons (pe_ifExp (pt_cmpR op_eq (pv 0) pe_int (nomark _)) pe_int pe_int) (pa_cons pe_int pa_nil))) (pa_cons (pe_dnewK) pa_nil)) (by rfl))
      (pss_cons (ps_for PassesOwn.never rfl (pi_range2 (by rfl) B.range (pa_cons pe_int (pa_cons (pv 1) pa_nil))) (pg_name (i := 4) sc.nd rfl (Or.inr rfl))
      (pss_cons (ps_set (i := 6) sc.nd rfl (Or.inl rfl) (pe_ix (show IxR _ (rIx K) from ix_seq) (pe_op op_cat (pe_lc (own := [("_law_d", 5)]) (g := gName 5)  (by rfl) sc.nd (pi_range2 (by rfl) B.range (pa_cons pe_int (pa_cons pe_int pa_nil))) (blkOk_by (own := [("_law_d", 5)]) (N := N__law_values) (sc := defScope s__law_values) (by decide +kernel)) (fun _ _ _ _ _ => (pg_name (i := 5) sc.nd rfl (Or.inl rfl))) (fun _ _ _ _ _ => (pts_one (PW.pt (pw_and (pt_cmpR op_le (pe_op op_mulW (pv 5) (pv 5)) (pv 4) (nomark _)) (pw_and1 (pt_cmpR op_eq (pe_op op_mod (pe_callTy call_int1 (by rfl) B.int_ (by decide +kernel) (pa_cons (pv 4) pa_nil)) (pv 5)) pe_int (nomark _))))))) (fun _ _ _ _ _ => (pv 5))) (pe_lst (pa_cons (pv 4) pa_nil))) pe_int (fun _ _ => rfl)))
        (pss_cons (ps_if (pt_cmp (pc_dnotin hu (pv 6) (pv 3)))
        (pss_one (ps_dput hu (pv 3) (pv 6) (pe_c c__law_prime_value hr (by decide) (by rfl) (pa_cons (pv 0) (pa_cons (pv 6) pa_nil))) rfl))
        pss_nil)
        (pss_one (ps_expr (pe_bm PySem.F.plainAttrs_list PySem.F.slot_list_append PySem.F.type_list_append mt_append (pv 2) (pa_cons (pe_op op_mulW (pe_dget hu (pv 3) (pv 6) (fun _ _ => rfl)) (pe_ix (show IxR _ (rIx K) from ix_seq) (pv 2) (pe_op op_fdivW (pv 4) (pv 6)) (fun _ _ => rfl))) pa_nil)))))))
      (pss_one (ps_ret (pv 2))))), ?_⟩
  obtain ⟨w0, w1, wn⟩ := chkW_at hs s64
  have v2 : valsV s 2 = [if s = 1 then 1 else 0, 1] := by
    show [valueAt s ((0 : Nat) : Int), valueAt s ((1 : Nat) : Int)] = _
    rw [w0, w1]
  refine tSeq_join (fun σ H' => Same H H' ∧ ∃ p pd : Addr, H p = none ∧ H pd = none ∧ p ≠ pd ∧ H' p = some (.lst ((valsV s 2).map V.int)) ∧ H' pd = some (.dK []) ∧ σ = [some (.int s), some (.int (M : Int)), some (.ref p), some (.ref pd), none, none, none]) (fun N hN => ?_) ?_
  · have fin : ∀ {z : Int}, z = (if s = 1 then 1 else 0) → ∀ p, H p = none → ∀ pd, (upd H p (.lst [V.int z, V.int 1])) pd = none → N [some (.int s), some (.int (M : Int)), some (.ref p), some (.ref pd), none, none, none] (upd (upd H p (.lst [V.int z, V.int 1])) pd (.dK [])) := by
      rintro z rfl p hp pd hpd
      have s1 : Same H (upd H p (.lst [V.int (if s = 1 then 1 else 0), V.int 1])) := Same.upd_new hp
      have ne : p ≠ pd := fun e => by rw [e, upd_same] at hpd; cases hpd
      refine hN _ _ ⟨s1.trans (Same.upd_new hpd), p, pd, hp, s1.free hpd, ne, ?_, upd_same, rfl⟩
      rw [upd_ne ne, upd_same, v2]
      rfl
    refine ⟨_, rfl, rfl, _, rfl, ifI (fun e => ?_) fun e => ?_⟩
    · exact ⟨(by show (2 : Nat) ≤ sizeLine; decide), fun p hp pd hpd => ⟨_, _, rfl, fin (if_pos e).symm p hp pd hpd⟩⟩
    · exact ⟨(by show (2 : Nat) ≤ sizeLine; decide), fun p hp pd hpd => ⟨_, _, rfl, fin (if_neg e).symm p hp pd hpd⟩⟩
  rintro _ H1 ⟨s1, p, pd, hp, hpd, npd, hp1, hpd1, rfl⟩
  refine ⟨_, rfl, 2, (M : Int), rfl, by omega, ?_⟩
  refine for_range (lo := 2) (n := ((M : Int) - 2).toNat) (fun i σ H' => Same H H' ∧ ∃ (kvs : List (Key × V)) (o4 o5 o6 : Option V), σ = [some (.int s), some (.int (M : Int)), some (.ref p), some (.ref pd), o4, o5, o6] ∧ H' p = some (.lst ((valsV s (i + 2)).map V.int)) ∧ H' pd = some (.dK kvs) ∧ kvs.length ≤ i ∧ ∀ (e : Nat) (v : V), valV kvs (.inl (e : Int)) = some v → v = V.int (pvL s e)) ⟨s1, [], none, none, none, rfl, hp1, hpd1, Nat.le_refl _, fun _ _ h => by cases h⟩ ?_ ?_
  · rintro i σ H2 hi ⟨s2, kvs, o4, o5, o6, rfl, hp2, hpd2, lk, vk⟩
    have hi : i + 2 < M := by omega
    dsimp only [gName]
    rw [show (2 : Int) + (i : Int) = ((i + 2 : Nat) : Int) by omega]
    obtain ⟨n, hn⟩ : ∃ n, i + 2 = n := ⟨_, rfl⟩
    rw [hn] at hp2 hi ⊢
    have hw := wn n (by omega) (by omega)
    have sn : ((n : Nat) : Int).natAbs < 2 ^ 8000 := Nat.lt_of_le_of_lt (by omega : _ ≤ 401) (by decide)
    refine ⟨2, 21, rfl, by decide, fun C hC => ?_⟩
    refine lc_range (lo := 2) (n := ((21 : Int) - 2).toNat) (fun j H' => Same H2 H' ∧ H' C = some (.lst (((dv2 n j).map fun x : Nat => (x : Int)).map V.int))) ⟨Same.upd_new hC, upd_same⟩ ?_ ?_
    · rintro j H3 hj ⟨s3, h3⟩
      dsimp only [gName]
      rw [show (2 : Int) + (j : Int) = ((j + 2 : Nat) : Int) by omega]
      have jl : j < 19 := hj
      have bk : ((j + 2 : Nat) : Int).natAbs < 2 ^ 8000 := Nat.lt_of_le_of_lt (by omega : _ ≤ 402) (by decide)
      have ej : ((j + 2 : Nat) : Int) * ((j + 2 : Nat) : Int) = (((j + 2) * (j + 2) : Nat) : Int) := (Int.natCast_mul _ _).symm
      have stay : ¬ ((j + 2) * (j + 2) ≤ n ∧ n % (j + 2) = 0) → Same H2 H3 ∧ H3 C = some (.lst (((dv2 n (j + 1)).map fun x : Nat => (x : Int)).map V.int)) := fun h => by
        rw [dv2_succ, if_neg h, List.append_nil]
        exact ⟨s3, h3⟩
      refine ⟨rfl, _, rfl, _, rfl, _, _, rfl, rfl, mul8 bk bk, _, rfl, _, _, rfl, rfl, _, rfl, ifD (fun e1 => ?_) fun e1 => stay fun z => e1 (by rw [ej]; exact Int.ofNat_le.mpr z.1)⟩
      have e1 : (j + 2) * (j + 2) ≤ n := by rw [ej] at e1; exact Int.ofNat_le.mp e1
      refine ⟨_, rfl, .inl ⟨_, rfl, _, rfl, _, _, rfl, rfl, (by show (0 : Int) < ((j + 2 : Nat) : Int); omega), rfl, _, rfl, ifI (fun e2 => ?_) fun e2 => stay fun z => e2 (congrArg Int.ofNat z.2)⟩⟩
      have e2 : n % (j + 2) = 0 := Int.ofNat.inj e2
      refine ⟨_, rfl, _, h3, ?_, fun b o z => ?_, ?_⟩
      · rw [List.length_map, List.length_map]
        exact Nat.lt_of_le_of_lt (Nat.le_trans (dv2_len n j) (by omega : j ≤ 64)) (by decide)
      · rw [upd_ne (ne_of_none z hC)]
        exact s3 _ _ z
      · rw [upd_same, dv2_succ, if_pos ⟨e1, e2⟩, List.map_append, List.map_append]
        rfl
    rintro H3 ⟨s3, h3⟩
    rw [show ((21 : Int) - 2).toNat = 19 from rfl] at h3
    obtain ⟨rest, hl, l2, ld⟩ := lpL_ok (show 2 ≤ n by omega)
    have ll := Nat.le_of_dvd (by omega) ld
    generalize lpL n = r at hw hl l2 ld ll
    refine ⟨_, rfl, (by show (1 : Nat) ≤ sizeLine; decide), fun l4 hl4 => ?_⟩
    have s4 : Same H3 (upd H3 l4 (.lst [V.int (n : Int)])) := Same.upd_new hl4
    have h4 : (upd H3 l4 (.lst [V.int (n : Int)])) l4 = some (.lst [V.int (n : Int)]) := upd_same
    generalize upd H3 l4 (.lst [V.int (n : Int)]) = H4 at s4 h4
    refine ⟨C, l4, _, _, rfl, rfl, s4 _ _ h3, h4, ?_, fun l5 hl5 => ?_⟩
    · rw [List.length_map, List.length_map]
      exact Nat.le_trans (Nat.add_le_add_right (dv2_len n 19) 1) (by decide)
    have e5 : ((dv2 n 19).map fun x : Nat => (x : Int)).map V.int ++ [V.int (n : Int)] = V.int (r : Int) :: (rest.map fun x : Nat => (x : Int)).map V.int := by
      have := congrArg (fun z : List Nat => (z.map fun x : Nat => (x : Int)).map V.int) hl
      rw [← List.map_cons, ← List.map_cons (f := fun x : Nat => (x : Int))]
      rw [← hl, List.map_append, List.map_append]
      rfl
    rw [e5]
    have s5 : Same H4 (upd H4 l5 (.lst (V.int (r : Int) :: (rest.map fun x : Nat => (x : Int)).map V.int))) := Same.upd_new hl5
    have h5 : (upd H4 l5 (.lst (V.int (r : Int) :: (rest.map fun x : Nat => (x : Int)).map V.int))) l5 = some (.lst (V.int (r : Int) :: (rest.map fun x : Nat => (x : Int)).map V.int)) := upd_same
    generalize upd H4 l5 (.lst (V.int (r : Int) :: (rest.map fun x : Nat => (x : Int)).map V.int)) = H5 at s5 h5
    have s25 := s3.trans (s4.trans s5)
    have hp5 := s25 _ _ hp2
    have hpd5 := s25 _ _ hpd2
    have s05 := s2.trans s25
    clear s25 s3 s4 s5 h3 h4 hl4 hl5 e5 hl
    refine .inl ⟨l5, _, 0, _, rfl, rfl, SqL.of h5, atI_nat (j := 0) rfl, ?_⟩
    dsimp only [gName]
    refine tSeq_join (fun σ H' => Same H H' ∧ ∃ kvs : List (Key × V), σ = [some (.int s), some (.int (M : Int)), some (.ref p), some (.ref pd), some (.int (n : Int)), o5, some (.int (r : Int))] ∧ H' p = some (.lst ((valsV s n).map V.int)) ∧ H' pd = some (.dK kvs) ∧ kvs.length ≤ i + 1 ∧ (valV kvs (.inl (r : Int)) = some (V.int (pvL s r))) ∧ ∀ (e : Nat) (v : V), valV kvs (.inl (e : Int)) = some v → v = V.int (pvL s e)) (fun N hN => ?_) ?_
    · refine ⟨_, rfl, _, rfl, pd, valV kvs (.inl (r : Int)), rfl, DGet.k (k := .inl (r : Int)) hpd5, _, rfl, ?_⟩
      cases hv : valV kvs (.inl (r : Int)) with
      | some v =>
        refine iteF ?_
        have := vk r v hv
        exact hN _ _ ⟨s05, kvs, rfl, hp5, hpd5, by omega, by rw [hv, this], vk⟩
      | none =>
        refine iteT ?_
        refine ⟨_, rfl, _, rfl, s, r, rfl, l2, by omega, by omega, fun H6 s6 => ⟨_, rfl, _, rfl, pd, _, rfl, DPut.k (k := .inl (r : Int)) (s6 _ _ hpd5) (Nat.lt_of_le_of_lt (by omega : kvs.length ≤ 400) (by decide)), ?_⟩⟩
        have pl : (putK kvs (.inl (r : Int)) (V.int (pvL s r))).length ≤ i + 1 := by
          have e : putK kvs (.inl (r : Int)) (V.int (pvL s r)) = kvs ++ [(.inl (r : Int), V.int (pvL s r))] := by
            unfold putK
            rw [if_neg (by rw [valV_any, hv]; decide)]
          rw [e, List.length_append]
          exact Nat.add_le_add_right lk 1
        refine hN _ _ ⟨fun b o z => ?_, putK kvs (.inl (r : Int)) (V.int (pvL s r)), rfl, ?_, upd_same, pl, ?_, fun e v he => ?_⟩
        · rw [upd_ne (ne_of_none z hpd)]
          exact s6 _ _ (s05 _ _ z)
        · rw [upd_ne npd]
          exact s6 _ _ hp5
        · rw [valV_put, if_pos rfl]
        · rw [valV_put] at he
          split at he
          · rename_i e2
            have : e = r := by have := Sum.inl.inj e2; omega
            rw [this]
            exact (Option.some.inj he).symm
          · exact vk e v he
    clear s05 hp5 hpd5 h5
    rintro _ H6 ⟨s6, kvs, rfl, hp6, hpd6, lk, vr, vk⟩
    have q1 : 1 ≤ n / r := Nat.div_pos ll (by omega)
    have q2 : n / r < n := Nat.div_lt_self (by omega) l2
    refine ⟨_, rfl, .inl ⟨rfl, _, SqL.of hp6⟩, _, rfl, _, rfl, pd, _, rfl, (by have g := DGet.k (k := .inl (r : Int)) hpd6; rw [vr] at g; exact g), ?_⟩
    refine ⟨_, rfl, _, rfl, _, rfl, _, _, rfl, rfl, cdivN (by omega) (by omega), ?_⟩
    refine .inl ⟨p, _, ((n / r : Nat) : Int), _, rfl, congrArg V.int (Int.natCast_ediv n r).symm, SqL.of hp6, atI_nat (valsV_at q2), ?_⟩
    have pv1 : (pvL s r).natAbs ≤ 1 := by
      unfold pvL
      split
      · decide
      · split
        · split <;> decide
        · split <;> decide
    refine ⟨_, _, rfl, rfl, mul8 (Nat.lt_of_le_of_lt pv1 (by decide)) (Nat.lt_of_le_of_lt (val_le _ _) (by decide)), ?_⟩
    refine ⟨p, _, _, rfl, rfl, hp6, ?_, fun b o z => ?_, kvs, _, _, _, rfl, ?_, ?_, lk, vk⟩
    · rw [List.length_map, valsV_len]
      exact Nat.lt_of_le_of_lt (by omega : n ≤ 401) (by decide)
    · rw [upd_ne (ne_of_none z hp)]
      exact s6 _ _ z
    · rw [upd_same, show i + 1 + 2 = n + 1 by omega, valsV_succ, List.map_append, ← hw]
      rfl
    · rw [upd_ne npd.symm]
      exact hpd6
  · rintro σ H2 ⟨s2, kvs, o4, o5, o6, rfl, hp2, hpd2, lk, vk⟩
    rw [show ((M : Int) - 2).toNat + 2 = M by omega] at hp2
    exact ⟨_, rfl, q _ p s2 hp hp2⟩
end
end Ft

set_option exponentiation.threshold 9000
namespace Ft
open PySem L2
theorem bnv_V {k : Nat} {s : Int} (hs : isSign s = true) (h : s.natAbs ≤ 64) (hk : k ≤ 24) : BernV k s (bnv k s) := by
  obtain ⟨l, x, hl, hb, bv⟩ := bern_ex hs h hk
  have e : bnv k s = x := by
    unfold bnv
    rw [hl]
    dsimp only
    rw [hb]
    rfl
  rw [e]
  exact bv
def sp_lbern : Sp := fun vs H Q _ => ∃ (k : Nat) (s : Int), vs = [.int (k : Int), .int s] ∧ k ≤ 24 ∧ isSign s = true ∧ s.natAbs ≤ 64 ∧ ∀ H' v, Same H H' → Fr H' v (bnv k s) → Q v H'
section
variable {P : Program} {w : World} {K : PySem.W.Frag} {mg : Str → Option Value} {base : Heap}
theorem ok_lsmall (D : Df K mg "_law_small_bernoulli" s__law_small_bernoulli ["_law_k"]) (B : Bi mg) (c__law_plus : Cal P w K mg base 3 "_law_plus" (sp_num nsum)) (c__law_choose : Cal P w K mg base 1 "_law_choose" sp_choose) (c__law_lowest : Cal P w K mg base 2 "_law_lowest" sp_lowest) : Cal P w K mg base 4 "_law_small_bernoulli" sp_plain := by
  obtain ⟨f, fd, F, m, b⟩ := D.ex
  have sc := sc__law_small_bernoulli
  refine ⟨f, fd, _, F.ok sc (fun _ _ _ _ ⟨_, _, e, _⟩ => by rw [e]; rfl) (fun cdv A outer s H vs Q E hr h => ?_), m, F.kp, b⟩
  obtain ⟨k, l, rfl, hk, hl, q⟩ := h
  refine ⟨_, (pss_cons (ps_set (i := 1) sc.nd rfl (Or.inl rfl) (pe_lst (pa_cons (pe_tup (pa_cons pe_int (pa_cons pe_int pa_nil))) pa_nil)))
      (pss_cons (ps_for PassesOwn.never rfl (pi_range2 (by rfl) B.range (pa_cons pe_int (pa_cons (pe_op op_add (pv 0) pe_int) pa_nil))) (pg_name (i := 2) sc.nd rfl (Or.inl rfl))
      (pss_cons (ps_set (i := 3) sc.nd rfl (Or.inl rfl) (pe_tup (pa_cons pe_int (pa_cons pe_int pa_nil))))
        (pss_cons (ps_for PassesOwn.never rfl (pi_enum (by rfl) B.enumerate (pa_cons (pv 1) pa_nil)) (pg_tup rfl (pgs_cons (pg_name (i := 4) sc.nd rfl (Or.inl rfl)) (pgs_cons (pg_name (i := 5) sc.nd rfl (Or.inl rfl)) pgs_nil)))
        (pss_one (ps_set (i := 3) sc.nd rfl (Or.inl rfl) (pe_c c__law_plus hr (by decide) (by rfl) (pa_cons (pv 3) (pa_cons (pe_tup (pa_cons (pe_op op_mulW (pe_c c__law_choose hr (by decide) (by rfl) (pa_cons (pe_op op_add (pv 2) pe_int) (pa_cons (pv 4) pa_nil))) (pe_ix (show IxR _ (rIx K) from ix_seq) (pv 5) pe_int (fun _ _ => rfl))) (pa_cons (pe_ix (show IxR _ (rIx K) from ix_seq) (pv 5) pe_int (fun _ _ => rfl)) pa_nil))) pa_nil))))))
        (pss_one (ps_expr (pe_bm PySem.F.plainAttrs_list PySem.F.slot_list_append PySem.F.type_list_append mt_append (pv 1) (pa_cons (pe_c c__law_lowest hr (by decide) (by rfl) (pa_cons (pe_un un_neg (pe_ix (show IxR _ (rIx K) from ix_seq) (pv 3) pe_int (fun _ _ => rfl))) (pa_cons (pe_op op_mulW (pe_ix (show IxR _ (rIx K) from ix_seq) (pv 3) pe_int (fun _ _ => rfl)) (pe_op op_add (pv 2) pe_int)) pa_nil))) pa_nil)))))))
      (pss_one (ps_ret (pv 1))))), ?_⟩
  refine ⟨(by show (2 : Nat) ≤ sizeLine; decide), fun p1 hp1 => ?_⟩
  have s1 : Same H (upd H p1 (.tup [V.int 1, V.int 1])) := Same.upd_new hp1
  have f1 : Fr (upd H p1 (.tup [V.int 1, V.int 1])) (.ref p1) (1, 1) := Fr.new
  generalize upd H p1 (.tup [V.int 1, V.int 1]) = H1 at s1 f1
  refine ⟨(by show (1 : Nat) ≤ sizeLine; decide), fun p hp => ?_⟩
  have s2 : Same H1 (upd H1 p (.lst [V.ref p1])) := Same.upd_new hp
  have hpl : (upd H1 p (.lst [V.ref p1])) p = some (.lst [V.ref p1]) := upd_same
  generalize upd H1 p (.lst [V.ref p1]) = H2 at s2 hpl
  have hp0 : H p = none := s1.free hp
  have s02 : Same H H2 := s1.trans s2
  refine ⟨_, rfl, _, _, rfl, rfl, 1, _, rfl, (by omega), ?_⟩
  refine for_range (lo := 1) (n := ((k : Int) + 1 - 1).toNat) (fun i σ H' => Same H H' ∧ ∃ (us : List V) (l : List Fq) (o1 o2 o3 o4 : Option V), σ = [some (.int (k : Int)), some (.ref p), o1, o2, o3, o4] ∧ H' p = some (.lst us) ∧ Frs H' us l ∧ plainTo i = some l) ⟨s02, [V.ref p1], [(1, 1)], none, none, none, none, rfl, hpl, (Frs.one f1).same s2, rfl⟩ ?_ ?_
  · rintro i σ H3 hi ⟨s3, us, l3, o1, o2, o3, o4, rfl, hp3, hf3, hl3⟩
    have hik : i < k := by omega
    obtain ⟨R, hR, mR, hl4⟩ := chkP_of (show i < 24 by omega) hl3
    obtain ⟨l3', e3, sl, sm⟩ := plain_ok (show i ≤ 24 by omega)
    obtain rfl : l3 = l3' := Option.some.inj (hl3.symm.trans e3)
    have ul := hf3.1
    have ci : (1 : Int) + (i : Int) = ((i + 1 : Nat) : Int) := by omega
    dsimp only [gName]
    rw [ci]
    refine ⟨(by show (2 : Nat) ≤ sizeLine; decide), fun p4 hp4 => ?_⟩
    have s4 : Same H3 (upd H3 p4 (.tup [V.int 0, V.int 1])) := Same.upd_new hp4
    have f4 : Fr (upd H3 p4 (.tup [V.int 0, V.int 1])) (.ref p4) (0, 1) := Fr.new
    generalize upd H3 p4 (.tup [V.int 0, V.int 1]) = H4 at s4 f4
    have hp4' := s4 _ _ hp3
    dsimp only [gName]
    refine ⟨_, rfl, p, _, rfl, SqL.of hp4', ?_⟩
    refine for_it (walk_enum (xs := us)) (fun j σ H' => Same H4 H' ∧ ∃ (v : V) (t : Fq) (o3 o4 : Option V), σ = [some (.int (k : Int)), some (.ref p), some (.int ((i + 1 : Nat) : Int)), some v, o3, o4] ∧ Fr H' v t ∧ lin (i + 1) j (l3.drop j) t = some R) ⟨Same.refl _, _, _, _, _, rfl, f4, hR⟩ (fun j σ H' _ ⟨s5, _⟩ => SqL.of (s5 _ _ hp4')) ?_ ?_
    · rintro j x σ H5 H6 hj ⟨s5, v, t, o3, o4, rfl, fv, hin⟩ ⟨T, u, y, rfl, hT, rfl, hu, hy⟩
      obtain rfl : u = V.int (j : Nat) := (Option.some.inj hu).symm
      obtain ⟨y', x, hy', hx, _, hxm, hdrop⟩ := hf3.get hj
      obtain rfl : y = y' := Option.some.inj (hy.symm.trans hy')
      have fy : Fr H3 y x := hf3.2 j y x hy' hx
      rw [hdrop] at hin
      obtain ⟨k1, k2⟩ := lin_step hin
      have fx := sm x hxm
      have tm := mid_of k1
      have s6 : Same H5 (upd H5 T (.tup [V.int (j : Nat), y])) := Same.upd_new hT
      have hTT : (upd H5 T (.tup [V.int (j : Nat), y])) T = some (.tup [V.int (j : Nat), y]) := upd_same
      generalize upd H5 T (.tup [V.int (j : Nat), y]) = H6 at s6 hTT
      have ct := comb_le (show i + 2 < 27 by omega) (show j < 27 by omega)
      have ct : (comb (i + 2) j).natAbs < 2 ^ 65 := Nat.lt_of_le_of_lt ct (by decide)
      have x1 : x.1.natAbs < 2 ^ 41 := Nat.lt_of_le_of_lt fx.1 (by decide)
      have x2 : x.2.natAbs < 2 ^ 41 := Nat.lt_of_le_of_lt fx.2.1 (by decide)
      have x3 := fx.2.2
      have fy6 := fy.same (s4.trans (s5.trans s6))
      refine ⟨T, _, rfl, SqT.of hTT, rfl, ?_⟩
      refine ⟨_, _, rfl, _, _, rfl, rfl, ?_⟩
      refine ⟨_, rfl, _, rfl, _, _, rfl, rfl, _, rfl, i + 2, j, (by show [V.int (((i + 1 : Nat) : Int) + 1), V.int (j : Int)] = _; rw [show ((i + 1 : Nat) : Int) + 1 = ((i + 2 : Nat) : Int) by omega]), by omega, by omega, ?_⟩
      refine ⟨_, rfl, fr0 fy6 ⟨_, _, rfl, rfl, mulB ct x1, ?_⟩⟩
      refine ⟨_, rfl, fr1 fy6 ⟨(by show (2 : Nat) ≤ sizeLine; decide), fun p5 hp5 => ?_⟩⟩
      have s7 : Same H6 (upd H6 p5 (.tup [V.int (comb (i + 2) j * x.1), V.int x.2])) := Same.upd_new hp5
      have f7 : Fr (upd H6 p5 (.tup [V.int (comb (i + 2) j * x.1), V.int x.2])) (.ref p5) (comb (i + 2) j * x.1, x.2) := Fr.new
      refine ⟨_, _, t, _, rfl, fv.same (s6.trans s7), f7, ⟨Nat.lt_trans tm.1 (Nat.pow_lt_pow_right (by decide) (by decide)), Nat.lt_trans tm.2.1 (Nat.pow_lt_pow_right (by decide) (by decide)), tm.2.2⟩, ⟨Nat.lt_trans (absMul ct x1) (Nat.pow_lt_pow_right (by decide) (by decide)), Nat.lt_trans x2 (Nat.pow_lt_pow_right (by decide) (by decide)), x3⟩, fun H8 r s8 f8 => ?_⟩
      exact ⟨s5.trans (s6.trans (s7.trans s8)), _, _, _, _, rfl, f8, k2⟩
    · rintro σ H5 ⟨s5, v, t, o3, o4, rfl, fv, hin⟩
      have hd : l3.drop us.length = [] := by rw [hf3.1]; exact List.drop_length
      rw [hd] at hin
      obtain rfl : t = R := Option.some.inj hin
      have tm := mid_of mR
      have hp5 := s5 _ _ hp4'
      have b2 : ((i : Int) + 2).natAbs < 2 ^ 10 := Nat.lt_of_le_of_lt (by omega : _ ≤ 30) (by decide)
      have e2 : ((i + 1 : Nat) : Int) + 1 = (i : Int) + 2 := by omega
      refine ⟨_, rfl, .inl ⟨rfl, _, SqL.of hp5⟩, _, rfl, fr0 fv ⟨_, rfl, ?_⟩⟩
      refine ⟨_, rfl, fr1 fv ⟨_, rfl, _, _, rfl, rfl, ?_⟩⟩
      show rI CMulW (fun i j => V.int (i * j)) (V.int t.snd) (V.int (((i + 1 : Nat) : Int) + 1)) H5 _
      rw [e2]
      refine ⟨_, _, rfl, rfl, mulB tm.2.1 b2, ?_⟩
      refine ⟨_, _, rfl, Int.mul_pos tm.2.2 (by omega), Nat.lt_trans (absMul tm.2.1 b2) (Nat.pow_lt_pow_right (by decide) (by decide)), fun H7 r s7 f7 => ?_⟩
      have h7 := s7 _ _ hp5
      have s37 := s4.trans (s5.trans s7)
      refine ⟨p, _, _, rfl, rfl, h7, Nat.lt_of_le_of_lt (by omega : us.length ≤ 25) (by decide), fun b o e => ?_, _, _, _, _, _, _, rfl, upd_same, Frs.snoc ?_ ?_, hl4⟩
      · rw [upd_ne (ne_of_none e hp0)]
        exact s37 _ _ (s3 _ _ e)
      · refine ⟨hf3.1, fun i u x e1 e2 => ?_⟩
        obtain ⟨a, e, z⟩ := (hf3.2 i u x e1 e2).same s37
        exact ⟨a, e, by rw [upd_ne (ne_of z h7 (by intro z; cases z))]; exact z⟩
      · obtain ⟨a, e, z⟩ := f7
        exact ⟨a, e, by rw [upd_ne (ne_of z h7 (by intro z; cases z))]; exact z⟩
  · rintro σ H3 ⟨s3, us, l3, o1, o2, o3, o4, rfl, hp3, hf3, hl3⟩
    have e1 : ((k : Int) + 1 - 1).toNat = k := by omega
    rw [e1] at hl3
    obtain rfl : l3 = l := Option.some.inj (hl3.symm.trans hl)
    exact ⟨_, rfl, q _ p us s3 hp3 hf3⟩
theorem ok_lbern (D : Df K mg "_law_bernoulli" s__law_bernoulli ["_law_k", "_law_sign"]) (B : Bi mg) (c__law_values : Cal P w K mg base 2 "_law_values" sp_lvals) (c__law_small_bernoulli : Cal P w K mg base 4 "_law_small_bernoulli" sp_plain) (c__law_power : Cal P w K mg base 1 "_law_power" sp_pow) (c__law_plus : Cal P w K mg base 3 "_law_plus" (sp_num nsum)) (c__law_choose : Cal P w K mg base 1 "_law_choose" sp_choose) : Cal P w K mg base 5 "_law_bernoulli" sp_lbern := by
  obtain ⟨f, fd, F, m, b⟩ := D.ex
  have sc := sc__law_bernoulli
  refine ⟨f, fd, _, F.ok sc (fun _ _ _ _ ⟨_, _, e, _⟩ => by rw [e]; rfl) (fun cdv A outer s0 H vs Q E hr h => ?_), m, F.kp, b⟩
  obtain ⟨k, s, rfl, hk, hs, s64, q⟩ := h
  refine ⟨_, (pss_cons (ps_par (i := 2) (j := 3) (by rfl) sc.nd rfl rfl (by decide) rfl rfl (pa_cons (pe_callB call_abs (by rfl) B.abs (by decide +kernel) (pa_cons (pv 1) pa_nil)) (pa_cons (pe_tup (pa_cons pe_int (pa_cons pe_int pa_nil))) pa_nil)) (by rfl))
      (pss_cons (ps_set (i := 4) sc.nd rfl (Or.inr rfl) (pe_c c__law_values hr (by decide) (by rfl) (pa_cons (pv 1) (pa_cons (pe_ifExp (pt_cmpR op_gt (pv 2) pe_int (nomark _)) (pe_op op_add (pv 2) pe_int) pe_int) pa_nil))))
      (pss_cons (ps_for PassesOwn.never rfl (pi_enum (by rfl) B.enumerate (pa_cons (pe_c c__law_small_bernoulli hr (by decide) (by rfl) (pa_cons (pv 0) pa_nil)) pa_nil)) (pg_tup rfl (pgs_cons (pg_name (i := 5) sc.nd rfl (Or.inr rfl)) (pgs_cons (pg_name (i := 6) sc.nd rfl (Or.inl rfl)) pgs_nil)))
      (pss_one (ps_if (pt_cmpR op_ne (pe_ix (show IxR _ (rIx K) from ix_seq) (pv 6) pe_int (fun _ _ => rfl)) pe_int (nomark _))
        (pss_cons (ps_set (i := 8) sc.nd rfl (Or.inl rfl) (pe_callB (id := "sum") (r := rSum K) (cr_sum rfl) (by rfl) B.sum (by decide +kernel) (pa_cons (pe_lc (own := [("_law_a", 7)]) (g := gName 7) (tt := tYes) (by rfl) sc.nd (pi_range2 (by rfl) B.range (pa_cons pe_int (pa_cons (pe_op op_add (pv 2) pe_int) pa_nil))) (blkOk_by (own := [("_law_a", 7)]) (N := N__law_bernoulli) (sc := defScope s__law_bernoulli) (by decide +kernel)) (fun _ _ _ _ _ => (pg_name (i := 7) sc.nd rfl (Or.inl rfl))) (fun _ _ _ _ _ => pts_nil) (fun _ _ _ _ _ => (pe_op op_mulW (pe_ix (show IxR _ (rIx K) from ix_seq) (pv 4) (pv 7) (fun _ _ => rfl)) (pe_c c__law_power hr (by decide) (by rfl) (pa_cons (pv 7) (pa_cons (pe_op op_sub (pv 0) (pv 5)) pa_nil)))))) pa_nil)))
          (pss_one (ps_set (i := 3) sc.nd rfl (Or.inl rfl) (pe_c c__law_plus hr (by decide) (by rfl) (pa_cons (pv 3) (pa_cons (pe_tup (pa_cons (pe_op op_mulW (pe_op op_mulW (pe_op op_mulW (pe_c c__law_choose hr (by decide) (by rfl) (pa_cons (pv 0) (pa_cons (pv 5) pa_nil))) (pe_ix (show IxR _ (rIx K) from ix_seq) (pv 6) pe_int (fun _ _ => rfl))) (pv 8)) (pe_c c__law_power hr (by decide) (by rfl) (pa_cons (pv 2) (pa_cons (pv 5) pa_nil)))) (pa_cons (pe_op op_mulW (pe_ix (show IxR _ (rIx K) from ix_seq) (pv 6) pe_int (fun _ _ => rfl)) (pv 2)) pa_nil))) pa_nil))))))
        pss_nil)))
      (pss_one (ps_ret (pv 3)))))), ?_⟩
  have bv := bnv_V hs s64 hk
  obtain ⟨l, hl, ll, lf⟩ := plain_ok hk
  have pb := pb_of hs s64 hk
  have bvr := bv.2.1 l hl
  have s00 := (isSign_le hs).2.1
  have ea : (if s < 0 then -s else s) = (s.natAbs : Int) := by split <;> omega
  refine ⟨_, rfl, s, rfl, ?_⟩
  rw [ea]
  refine ⟨(by show (2 : Nat) ≤ sizeLine; decide), fun p1 hp1 => ⟨_, _, rfl, ?_⟩⟩
  have s1 : Same H (upd H p1 (.tup [V.int 0, V.int 1])) := Same.upd_new hp1
  have f1 : Fr (upd H p1 (.tup [V.int 0, V.int 1])) (.ref p1) (0, 1) := Fr.new
  generalize upd H p1 (.tup [V.int 0, V.int 1]) = H1 at s1 f1
  obtain ⟨m, hm⟩ : ∃ z, z = s.natAbs := ⟨_, rfl⟩
  have m0 : 0 < m := by omega
  rw [← hm] at bvr pb s64 ⊢
  dsimp only [gName]
  obtain ⟨Mv, hMv⟩ : ∃ z, z = if m > 1 then m + 1 else 2 := ⟨_, rfl⟩
  refine tSeq_join (fun σ H' => Same H H' ∧ ∃ pv pt : Addr, H' pv = some (.lst ((valsV s Mv).map V.int)) ∧ Fr H' (.ref pt) (0, 1) ∧ σ = [some (.int (k : Int)), some (.int s), some (.int (m : Int)), some (.ref pt), some (.ref pv), none, none, none, none]) (fun N hN => ?_) ?_
  · refine ⟨_, rfl, _, rfl, _, _, rfl, rfl, _, rfl, ifD (fun e => ?_) fun e => ?_⟩
    · refine ⟨_, rfl, _, _, rfl, rfl, s, m + 1, (by rfl), hs, by omega, by omega, by omega, fun H2 p s2 _ h2 => ?_⟩
      exact hN _ _ ⟨s1.trans s2, p, p1, by rw [hMv, if_pos (by omega)]; exact h2, f1.same s2, rfl⟩
    · refine ⟨s, 2, (by rfl), hs, by omega, by omega, by omega, fun H2 p s2 _ h2 => ?_⟩
      exact hN _ _ ⟨s1.trans s2, p, p1, by rw [hMv, if_neg (by omega)]; exact h2, f1.same s2, rfl⟩
  have mM : m < Mv := by rw [hMv]; split <;> omega
  clear s1 f1 hp1 hMv
  rintro _ H1 ⟨s1, pv, pt, hpv, fpt, rfl⟩
  refine ⟨_, rfl, k, l, rfl, hk, hl, fun H2 p us s2 hp hf => ?_⟩
  refine ⟨p, _, rfl, SqL.of hp, ?_⟩
  have ul := hf.1
  have mI : (0 : Int) < (m : Int) := by omega
  have mq : (m : Rat) ≠ 0 := by rw [← Rat.intCast_natCast]; exact rat_ne (by omega)
  have fpt2 := fpt.same s2
  have hpv2 := s2 _ _ hpv
  refine for_it (walk_enum (xs := us)) (fun j σ H' => Same H2 H' ∧ ∃ (v : V) (t : Fq) (o5 o6 o8 : Option V), σ = [some (.int (k : Int)), some (.int s), some (.int (m : Int)), some v, some (.ref pv), o5, o6, none, o8] ∧ Fr H' v t ∧ LowT t ∧ TB j t ∧ rv t + bsum m k (psum s) j (l.drop j) / (m : Rat) = rv (bnv k s)) ⟨Same.refl _, _, _, _, _, _, rfl, fpt2, ⟨by decide, by decide⟩, ⟨by simp, by simp, by decide⟩, ?_⟩ (fun j σ H' _ ⟨s5, _⟩ => SqL.of (s5 _ _ hp)) ?_ ?_
  · rw [bvr, List.drop_zero, rv_int]
    grind
  · rintro j x σ H5 H6 hj ⟨s5, v, t, o5, o6, o8, rfl, fv, tl, tb, hrv⟩ ⟨T, u, y, rfl, hT, rfl, hu, hy⟩
    obtain rfl : u = V.int (j : Nat) := (Option.some.inj hu).symm
    obtain ⟨y', x, hy', hx, _, hxm, hdrop⟩ := hf.get hj
    obtain rfl : y = y' := Option.some.inj (hy.symm.trans hy')
    have fy : Fr H2 y x := hf.2 j y x hy' hx
    rw [hdrop] at hrv
    have hrv : rv t + (rv x * (comb k j * ((m ^ j : Nat) : Int) * psum s (k - j) : Int) + bsum m k (psum s) (j + 1) (l.drop (j + 1))) / (m : Rat) = rv (bnv k s) := hrv
    have fx := lf x hxm
    have jk : j ≤ k := by omega
    have s6 : Same H5 (upd H5 T (.tup [V.int (j : Nat), y])) := Same.upd_new hT
    have hTT : (upd H5 T (.tup [V.int (j : Nat), y])) T = some (.tup [V.int (j : Nat), y]) := upd_same
    generalize upd H5 T (.tup [V.int (j : Nat), y]) = H6 at s6 hTT
    have fy6 := fy.same (s5.trans s6)
    refine ⟨T, _, rfl, SqT.of hTT, rfl, ?_⟩
    refine ⟨_, _, rfl, _, _, rfl, rfl, ?_⟩
    refine ⟨_, rfl, fr0 fy6 ⟨rfl, _, rfl, ifNI (fun ne => ?_) fun e0 => ?_⟩⟩
    · have fv6 := fv.same s6
      have tS := small_of (tb.small (by omega)).1 (tb.small (by omega)).2.1 (tb.small (by omega)).2.2
      have hpv6 := s6 _ _ (s5 _ _ hpv2)
      have s26 := s5.trans s6
      have ekj : (k : Int) - (j : Int) = ((k - j : Nat) : Int) := by omega
      clear hTT hT s5 s6 fv fy
      refine ⟨_, rfl, _, _, rfl, rfl, 1, _, rfl, ⟨by decide, by decide, by omega, by omega⟩, fun C hC => ?_⟩
      refine lc_range (lo := 1) (n := ((m : Int) + 1 - 1).toNat) (fun i H' => Same H6 H' ∧ H' C = some (.lst ((rws s i (k - j)).map V.int))) ⟨Same.upd_new hC, upd_same⟩ ?_ ?_
      · rintro i H7 hi ⟨s7, h7⟩
        have hi : i < m := by omega
        dsimp only [gName]
        rw [show (1 : Int) + (i : Int) = ((i + 1 : Nat) : Int) by omega]
        have pw : (((i + 1) ^ (k - j) : Nat) : Int).natAbs < 2 ^ 8000 := by
          rw [Int.natAbs_natCast]
          exact Nat.lt_of_le_of_lt (Nat.le_trans (Nat.pow_le_pow_left (by omega : i + 1 ≤ 2 ^ 6) (k - j)) (Nat.pow_le_pow_right (by decide) (by omega : k - j ≤ 24))) (by decide)
        refine ⟨rfl, _, rfl, _, rfl, .inl ⟨pv, _, ((i + 1 : Nat) : Int), _, rfl, rfl, SqL.of (s7 _ _ hpv6), atI_nat (valsV_at (by omega)), ?_⟩⟩
        refine ⟨_, rfl, _, rfl, _, rfl, _, _, rfl, rfl, i + 1, k - j, (by show [V.int ((i + 1 : Nat) : Int), V.int ((k : Int) - (j : Int))] = _; rw [ekj]), by omega, by omega, by omega, _, _, rfl, rfl, mul8 (Nat.lt_of_le_of_lt (val_le _ _) (by decide)) pw, ?_⟩
        refine ⟨_, h7, ?_, fun b o e => ?_, ?_⟩
        · rw [List.length_map, rws_len]
          exact Nat.lt_of_le_of_lt (by omega : i ≤ 64) (by decide)
        · rw [upd_ne (ne_of_none e hC)]
          exact s7 _ _ e
        · rw [upd_same]
          unfold rws
          rw [List.range_succ, List.map_append, List.map_append]
          rfl
      rintro H7 ⟨s7, h7⟩
      rw [show ((m : Int) + 1 - 1).toNat = m by omega] at h7
      have hsum := rws_sum s (k - j)
      rw [← hm] at hsum
      refine ⟨C, _, rfl, SqL.of h7, ?_⟩
      rw [hsum]
      have hP := pb.P (k - j) (by omega)
      have hC2 := comb_le (show k < 27 by omega) (show j < 27 by omega)
      have hpw := pb.pow (show j ≤ 24 by omega)
      have hf2 := pb.fac jk
      generalize hPP : psum s (k - j) = PP at hP hf2 hrv
      generalize hcc : comb k j = cc at hC2 hf2 hrv
      have fy7 := fy6.same s7
      have b1 : cc.natAbs < 2 ^ 65 := Nat.lt_of_le_of_lt hC2 (by decide)
      have b2 : x.1.natAbs < 2 ^ 41 := Nat.lt_of_le_of_lt fx.1 (by decide)
      have b3 : PP.natAbs < 2 ^ 151 := Nat.lt_of_le_of_lt hP (by decide)
      have b4 : ((m ^ j : Nat) : Int).natAbs < 2 ^ 145 := by rw [Int.natAbs_natCast]; exact Nat.lt_of_le_of_lt hpw (by decide)
      have b5 : x.2.natAbs < 2 ^ 41 := Nat.lt_of_le_of_lt fx.2.1 (by decide)
      have b6 : ((m : Nat) : Int).natAbs < 2 ^ 7 := by rw [Int.natAbs_natCast]; exact Nat.lt_of_le_of_lt s64 (by decide)
      dsimp only [gName]
      refine ⟨_, rfl, _, rfl, _, rfl, k, j, rfl, by omega, by omega, ?_⟩
      rw [hcc]
      refine ⟨_, rfl, fr0 fy7 ⟨_, _, rfl, rfl, mulB b1 b2, ?_⟩⟩
      refine ⟨_, rfl, _, _, rfl, rfl, mulB (absMul b1 b2) b3, ?_⟩
      refine ⟨_, rfl, _, rfl, m, j, rfl, by omega, by omega, by omega, _, _, rfl, rfl, mulB (absMul (absMul b1 b2) b3) b4, ?_⟩
      refine ⟨_, rfl, fr1 fy7 ⟨_, rfl, _, _, rfl, rfl, mulB b5 b6, (by show (2 : Nat) ≤ sizeLine; decide), fun p5 hp5 => ?_⟩⟩
      have s8 : Same H7 (upd H7 p5 (.tup [V.int (cc * x.1 * PP * ((m ^ j : Nat) : Int)), V.int (x.2 * (m : Int))])) := Same.upd_new hp5
      have f8 : Fr (upd H7 p5 (.tup [V.int (cc * x.1 * PP * ((m ^ j : Nat) : Int)), V.int (x.2 * (m : Int))])) (.ref p5) (cc * x.1 * PP * ((m ^ j : Nat) : Int), x.2 * (m : Int)) := Fr.new
      generalize upd H7 p5 (.tup [V.int (cc * x.1 * PP * ((m ^ j : Nat) : Int)), V.int (x.2 * (m : Int))]) = H8 at s8 f8
      have ym : 0 < x.2 * (m : Int) := Int.mul_pos fx.2.2 mI
      have y1 : (cc * x.1 * PP * ((m ^ j : Nat) : Int)).natAbs ≤ 2 ^ 400 := by
        have e : cc * x.1 * PP * ((m ^ j : Nat) : Int) = x.1 * (cc * ((m ^ j : Nat) : Int) * PP) := by grind
        rw [e, Int.natAbs_mul]
        exact Nat.le_trans (Nat.mul_le_mul fx.1 hf2) (by decide)
      have y2 : (x.2 * (m : Int)).natAbs ≤ 2 ^ 46 := by
        rw [Int.natAbs_mul, Int.natAbs_natCast]
        exact Nat.le_trans (Nat.mul_le_mul fx.2.1 pb.m6) (by decide)
      refine ⟨_, _, t, _, rfl, fv6.same (s7.trans s8), f8, tS, ⟨Nat.lt_of_le_of_lt y1 (Nat.pow_lt_pow_right (by decide) (by decide)), Nat.lt_of_le_of_lt y2 (Nat.pow_lt_pow_right (by decide) (by decide)), ym⟩, fun H9 r s9 f9 => ?_⟩
      have tv := nsum_val (x := t) (y := (cc * x.1 * PP * ((m ^ j : Nat) : Int), x.2 * (m : Int))) tb.2.2 ym
      refine ⟨s26.trans (s7.trans (s8.trans s9)), _, _, _, _, _, rfl, f9, tv.1, (tb.step (y := (cc * x.1 * PP * ((m ^ j : Nat) : Int), x.2 * (m : Int))) y1 y2 ym).low, ?_⟩
      rw [tv.2, ← hrv]
      have x2q : (x.2 : Rat) ≠ 0 := rat_ne (by have := fx.2.2; omega)
      have : rv (cc * x.1 * PP * ((m ^ j : Nat) : Int), x.2 * (m : Int)) = rv x * ((cc * ((m ^ j : Nat) : Int) * PP : Int) : Rat) / (m : Rat) := by
        unfold rv
        dsimp only
        rw [Rat.intCast_mul, Rat.intCast_mul, Rat.intCast_mul, Rat.intCast_mul, Rat.intCast_mul, Rat.intCast_mul, show (((m : Nat) : Int) : Rat) = (m : Rat) from Rat.intCast_natCast m]
        grind
      rw [this]
      grind
    · refine ⟨s5.trans s6, v, t, _, _, _, rfl, fv.same s6, tl, ⟨Nat.le_trans tb.1 (Nat.mul_le_mul (Nat.mul_le_mul_right _ (by omega)) (Nat.pow_le_pow_right (by decide) (by omega))), Nat.le_trans tb.2.1 (Nat.pow_le_pow_right (by decide) (by omega)), tb.2.2⟩, ?_⟩
      rw [← hrv]
      have : rv x = 0 := by
        unfold rv
        rw [e0]
        grind
      rw [this]
      grind
  · rintro σ H5 ⟨s5, v, t, o5, o6, o8, rfl, fv, tl, tb, hrv⟩
    have hd : l.drop us.length = [] := by rw [ul]; exact List.drop_length
    rw [hd] at hrv
    have : t = bnv k s := low_uniq tl bv.1 (by
      rw [← hrv]
      show rv t = rv t + 0 / (m : Rat)
      grind)
    rw [this] at fv
    exact ⟨_, rfl, q _ _ (s1.trans (s2.trans s5)) fv⟩
end
end Ft

set_option exponentiation.threshold 9000
namespace Ft
open PySem L2
theorem if_by2 {b : Bool} {p q : Prop} (h1 : b = true → p) (h2 : b = false → q) : if b = true then p else q := by
  cases b with
  | true => exact h1 rfl
  | false => exact h2 rfl
theorem eqv_pl (k : Nat) (x y : Int) : PyData.eqv (.tuple [.int (k : Int), .int x, .int y]) (.tuple [.int 2, .int 1, .int 1]) = isPl k x y := by
  show (((k : Int) == 2) && ((x == 1) && ((y == 1) && true))) = isPl k x y
  have a1 : ((k : Int) == 2) = decide (k = 2) := by
    by_cases h : k = 2
    · rw [decide_eq_true h, h]; rfl
    · rw [decide_eq_false h]; exact beq_eq_false_iff_ne.mpr (by omega)
  have b1 : ∀ z : Int, (z == 1) = decide (z = 1) := fun z => by
    by_cases h : z = 1
    · rw [decide_eq_true h, h]; rfl
    · rw [decide_eq_false h]; exact beq_eq_false_iff_ne.mpr h
  rw [a1, b1, b1, Bool.and_true]
  rfl
def S24 : List Int := [1, -3, -4, 5, -7, 8, -8, 1, 1, -4, -11, 12, 13, -15, 17, -19, -20, 21, -23, -24, 24, 28, 29, -31]
theorem S24_sign : ∀ x ∈ S24, isSign x = true ∧ x.natAbs ≤ 31 ∧ x ≠ 0 := by decide +kernel
def sp_sumPiece : Sp := fun vs H Q _ => ∃ (d l : Addr) (most : Nat), vs = [.ref d, .int (most : Int)] ∧ DeckAt H d l ∧ 2 ≤ most ∧ most ≤ 400 ∧ ∀ H' v k x y t, DeckAt H' d l → But d l H H' → PcAt H' v k x y t → PcOk k x y t → x ∈ S24 → y ∈ S24 → (x * y).natAbs * t ≤ most → Q v H'
theorem DeckAt.offd {H : Hp} {d l p : Addr} {xs : List V} (D : DeckAt H d l) (h : H p = some (.tup xs)) : p ≠ d := by
  obtain ⟨mx, dr, cs, hd, hl, _⟩ := D
  exact L2.ne_of h hd (by intro z; cases z)
theorem DeckAt.offl {H : Hp} {d l p : Addr} {xs : List V} (D : DeckAt H d l) (h : H p = some (.tup xs)) : p ≠ l := by
  obtain ⟨mx, dr, cs, hd, hl, _⟩ := D
  exact L2.ne_of h hl (by intro z; cases z)
section
variable {P : Program} {w : World} {K : PySem.W.Frag} {mg : Str → Option Value} {base : Heap}
theorem ok_sumPiece (D : Df K mg "_law_sum_piece" s__law_sum_piece ["_law_deck_here", "_law_most"]) (B : Bi mg) (c__law_pick : Cal P w K mg base 2 "_law_pick" (sp_pick K)) (c__law_draw : Cal P w K mg base 1 "_law_draw" sp_draw) : Cal P w K mg base 3 "_law_sum_piece" sp_sumPiece := by
  obtain ⟨f, fd, F, m, b⟩ := D.ex
  have sc := sc__law_sum_piece
  refine ⟨f, fd, _, F.ok sc (fun _ _ _ _ ⟨_, _, _, e, _⟩ => by rw [e]; rfl) (fun cdv A outer s H vs Q E hr h => ?_), m, F.kp, b⟩
  obtain ⟨d, l, most, rfl, D0, m1, m4, q⟩ := h
  have h64 : (A.deeper (PyProof.Rows.envOfC "_law_sum_piece" (defScope s__law_sum_piece) s.heap.objs.size f cdv)).units + 64 < cLine := by have := hr.un; omega
  refine ⟨_, (pss_cons (ps_set (i := 2) sc.nd rfl (Or.inl rfl) (pe_tup (pa_cons pe_int (pa_cons (pe_un un_neg pe_int) (pa_cons (pe_un un_neg pe_int) (pa_cons pe_int (pa_cons (pe_un un_neg pe_int) (pa_cons pe_int (pa_cons (pe_un un_neg pe_int) (pa_cons pe_int (pa_cons pe_int (pa_cons (pe_un un_neg pe_int) (pa_cons (pe_un un_neg pe_int) (pa_cons pe_int (pa_cons pe_int (pa_cons (pe_un un_neg pe_int) (pa_cons pe_int (pa_cons (pe_un un_neg pe_int) (pa_cons (pe_un un_neg pe_int) (pa_cons pe_int (pa_cons (pe_un un_neg pe_int) (pa_cons (pe_un un_neg pe_int) (pa_cons pe_int (pa_cons pe_int (pa_cons pe_int (pa_cons (pe_un un_neg pe_int) pa_nil))))))))))))))))))))))))))
      (pss_cons (ps_set (i := 4) sc.nd rfl (Or.inr rfl) (pe_c c__law_pick hr (by decide) (by rfl) (pa_cons (pv 0) (pa_cons (pe_lc (own := [("_law_sign", 3)]) (g := gName 3)  (by rfl) sc.nd (pi_tup (pv 2)) (blkOk_by (own := [("_law_sign", 3)]) (N := N__law_sum_piece) (sc := defScope s__law_sum_piece) (by decide +kernel)) (fun _ _ _ _ _ => (pg_name (i := 3) sc.nd rfl (Or.inl rfl))) (fun _ _ _ _ _ => (pts_one (pt_cmpR op_le (pe_callB call_abs (by rfl) B.abs (by decide +kernel) (pa_cons (pv 3) pa_nil)) (pv 1) (nomark _)))) (fun _ _ _ _ _ => (pv 3))) pa_nil))))
      (pss_cons (ps_set (i := 5) sc.nd rfl (Or.inl rfl) (pe_c c__law_pick hr (by decide) (by rfl) (pa_cons (pv 0) (pa_cons (pe_lc (own := [("_law_sign", 3)]) (g := gName 3)  (by rfl) sc.nd (pi_tup (pv 2)) (blkOk_by (own := [("_law_sign", 3)]) (N := N__law_sum_piece) (sc := defScope s__law_sum_piece) (by decide +kernel)) (fun _ _ _ _ _ => (pg_name (i := 3) sc.nd rfl (Or.inl rfl))) (fun _ _ _ _ _ => (pts_one (pt_cmpR op_le (pe_callB call_abs (by rfl) B.abs (by decide +kernel) (pa_cons (pe_op op_mulW (pv 3) (pv 4)) pa_nil)) (pv 1) (nomark _)))) (fun _ _ _ _ _ => (pv 3))) pa_nil))))
      (pss_cons (ps_set (i := 6) sc.nd rfl (Or.inl rfl) (pe_ifExp (pt_cmpR op_gt (pe_c c__law_draw hr (by decide) (by rfl) (pa_cons (pv 0) (pa_cons pe_int pa_nil))) pe_int (nomark _)) (pe_c c__law_pick hr (by decide) (by rfl) (pa_cons (pv 0) (pa_cons (pe_lst (pa_cons pe_int (pa_cons pe_int (pa_cons pe_int (pa_cons pe_int (pa_cons pe_int (pa_cons pe_int (pa_cons pe_int (pa_cons pe_int pa_nil))))))))) pa_nil))) (pe_op op_add pe_int (pe_c c__law_draw hr (by decide) (by rfl) (pa_cons (pv 0) (pa_cons pe_int pa_nil))))))
      (pss_cons (ps_if (pt_cmpR op_ne (pe_cmpR op_gt (pe_op op_mulW (pv 4) (pv 5)) pe_int (nomark _)) (pe_cmpR op_eq (pe_op op_mod (pe_callTy call_int1 (by rfl) B.int_ (by decide +kernel) (pa_cons (pv 6) pa_nil)) pe_int) pe_int (nomark _)) (nomark _))
      (pss_one (ps_set (i := 6) sc.nd rfl (Or.inl rfl) (pe_ifExp (pt_cmpR op_lt (pv 6) pe_int (nomark _)) (pe_op op_add (pv 6) pe_int) pe_int)))
      pss_nil)
      (pss_cons (ps_set (i := 7) sc.nd rfl (Or.inl rfl) (pe_op op_add pe_int (pe_c c__law_draw hr (by decide) (by rfl) (pa_cons (pv 0) (pa_cons (pe_op op_fdivW (pv 1) (pe_callB call_abs (by rfl) B.abs (by decide +kernel) (pa_cons (pe_op op_mulW (pv 4) (pv 5)) pa_nil))) pa_nil)))))
      (pss_cons (ps_if (PW.pt (pw_and (pt_cmpR op_gt (pv 7) pe_int (nomark _)) (pw_and1 (pt_cmpR op_eq (pe_c c__law_draw hr (by decide) (by rfl) (pa_cons (pv 0) (pa_cons pe_int pa_nil))) pe_int (nomark _)))))
      (pss_one (ps_set (i := 7) sc.nd rfl (Or.inl rfl) (pe_op op_add pe_int (pe_op op_mod (pe_callTy call_int1 (by rfl) B.int_ (by decide +kernel) (pa_cons (pv 7) pa_nil)) pe_int))))
      pss_nil)
      (pss_cons (ps_if (pt_cmpR (op_eqD h64) (pe_tup (pa_cons (pv 6) (pa_cons (pv 4) (pa_cons (pv 5) pa_nil)))) (pe_tup (pa_cons pe_int (pa_cons pe_int (pa_cons pe_int pa_nil)))) (nomark _))
      (pss_one (ps_set (i := 7) sc.nd rfl (Or.inl rfl) (pe_op op_add pe_int (pe_c c__law_draw hr (by decide) (by rfl) (pa_cons (pv 0) (pa_cons (pe_op op_sub (pv 1) pe_int) pa_nil))))))
      pss_nil)
      (pss_one (ps_ret (pe_tup (pa_cons pe_str (pa_cons (pv 6) (pa_cons (pe_ifExp (pt_cmpR op_eq (pv 6) pe_int (nomark _)) (pe_callB (call_min2 rfl) (by rfl) B.min_ (by decide +kernel) (pa_cons (pv 4) (pa_cons (pv 5) pa_nil))) (pv 4)) (pa_cons (pe_ifExp (pt_cmpR op_eq (pv 6) pe_int (nomark _)) (pe_callB (call_max2 rfl) (by rfl) B.max_ (by decide +kernel) (pa_cons (pv 4) (pa_cons (pv 5) pa_nil))) (pv 5)) (pa_cons (pv 7) pa_nil)))))))))))))))), ?_⟩
  refine ⟨_, rfl, _, rfl, _, rfl, _, rfl, _, rfl, _, rfl, _, rfl, _, rfl, _, rfl, _, rfl, _, rfl, _, rfl, (by show (24 : Nat) ≤ sizeLine; decide), fun p hp => ?_⟩
  have s1 : Same H (upd H p (.tup (S24.map V.int))) := Same.upd_new hp
  have h1 : (upd H p (.tup (S24.map V.int))) p = some (.tup (S24.map V.int)) := upd_same
  show tSeq _ _ _ _ (upd H p (.tup (S24.map V.int)))
  generalize upd H p (.tup (S24.map V.int)) = H1 at s1 h1
  have D1 := D0.same s1
  have b1 : But d l H H1 := But.of s1
  refine ⟨_, rfl, _, rfl, p, rfl, ⟨_, SqT.of h1⟩, fun L1 hL1 => ?_⟩
  refine lc_it (walk_tup (xs := S24.map V.int)) (fun i H' => Same H1 H' ∧ H' L1 = some (.lst (((S24.take i).filter (fun z : Int => decide ((z.natAbs : Int) ≤ (most : Int)))).map V.int))) ⟨Same.upd_new hL1, upd_same⟩ (fun i H' _ ⟨z, _⟩ => SqT.of (z _ _ h1)) ?_ ?_
  · rintro i v H9 _ hi ⟨s9, h9⟩ ⟨rfl, hv⟩
    obtain ⟨z, rfl, hz⟩ := int_at hv
    have z31 := (S24_sign z (List.mem_of_getElem? hz)).2.1
    have htk : S24.take (i + 1) = S24.take i ++ [z] := by rw [List.take_add_one, hz]; rfl
    refine ⟨rfl, _, rfl, z, rfl, _, rfl, _, _, rfl, rfl, _, rfl, ?_⟩
    rw [abs_ifN]
    refine ifD (fun e => ?_) fun e => ?_
    · refine ⟨_, rfl, _, h9, ?_, fun b o e2 => ?_, ?_⟩
      · rw [List.length_map]
        exact Nat.lt_of_le_of_lt (Nat.le_trans (List.length_filter_le _ _) (by rw [List.length_take]; exact Nat.min_le_right _ _ : _ ≤ 24)) (by decide)
      · rw [upd_ne (ne_of_none e2 hL1)]
        exact s9 _ _ e2
      · rw [upd_same, htk, List.filter_append, show [z].filter (fun z : Int => decide ((z.natAbs : Int) ≤ (most : Int))) = [z] from List.filter_cons_of_pos (p := (fun z : Int => decide ((z.natAbs : Int) ≤ (most : Int)))) (decide_eq_true e), List.map_append]
        rfl
    · refine ⟨s9, ?_⟩
      rw [h9, htk, List.filter_append, show [z].filter (fun z : Int => decide ((z.natAbs : Int) ≤ (most : Int))) = [] from List.filter_cons_of_neg (p := (fun z : Int => decide ((z.natAbs : Int) ≤ (most : Int)))) (fun h => e (of_decide_eq_true h)), List.append_nil]
  rintro H2 ⟨s2, h2⟩
  rw [List.length_map, List.take_length] at h2
  have ne1 := D1.new hL1
  have one_in : ∀ {F : Int → Bool}, F 1 = true → 0 < ((S24.filter F).map V.int).length := fun {F} e => by
    rw [List.length_map]
    exact List.length_pos_of_mem (List.mem_filter.mpr ⟨by decide, e⟩)
  have few : ∀ {F : Int → Bool}, ((S24.filter F).map V.int).length < 2 ^ 64 := fun {F} => by
    rw [List.length_map]
    exact Nat.lt_of_le_of_lt (List.length_filter_le _ _) (by decide)
  refine ⟨d, l, L1, _, rfl, D1.same s2, .inl ⟨h2, ne1.2⟩, one_in (decide_eq_true (by show (1 : Int) ≤ (most : Int); omega)), few, fun H3 v D3 b3 hv => ?_⟩
  obtain ⟨x, hx, rfl⟩ := List.mem_map.mp hv
  obtain ⟨hx, xm⟩ := List.mem_filter.mp hx
  have xm := of_decide_eq_true xm
  obtain ⟨sx, x31, x0⟩ := S24_sign x hx
  have h3 := b3 _ _ (s2 _ _ h1) (D1.offd h1) (D1.offl h1)
  dsimp only [gName]
  have D3' := D3
  have b03 := (b1.trans (But.of s2)).trans b3
  refine ⟨_, rfl, _, rfl, p, rfl, ⟨_, SqT.of h3⟩, fun L2 hL2 => ?_⟩
  refine lc_it (walk_tup (xs := S24.map V.int)) (fun i H' => Same H3 H' ∧ H' L2 = some (.lst (((S24.take i).filter (fun z : Int => decide (((z * x).natAbs : Int) ≤ (most : Int)))).map V.int))) ⟨Same.upd_new hL2, upd_same⟩ (fun i H' _ ⟨z, _⟩ => SqT.of (z _ _ h3)) ?_ ?_
  · rintro i v H9 _ hi ⟨s9, h9⟩ ⟨rfl, hv⟩
    obtain ⟨z, rfl, hz⟩ := int_at hv
    have z31 := (S24_sign z (List.mem_of_getElem? hz)).2.1
    have htk : S24.take (i + 1) = S24.take i ++ [z] := by rw [List.take_add_one, hz]; rfl
    refine ⟨rfl, _, rfl, _, rfl, _, _, rfl, rfl, mul8 (Nat.lt_of_le_of_lt z31 (by decide)) (Nat.lt_of_le_of_lt x31 (by decide)), _, rfl, _, rfl, _, _, rfl, rfl, _, rfl, ?_⟩
    rw [abs_ifN]
    refine ifD (fun e => ?_) fun e => ?_
    · refine ⟨_, rfl, _, h9, ?_, fun b o e2 => ?_, ?_⟩
      · rw [List.length_map]
        exact Nat.lt_of_le_of_lt (Nat.le_trans (List.length_filter_le _ _) (by rw [List.length_take]; exact Nat.min_le_right _ _ : _ ≤ 24)) (by decide)
      · rw [upd_ne (ne_of_none e2 hL2)]
        exact s9 _ _ e2
      · rw [upd_same, htk, List.filter_append, show [z].filter (fun z : Int => decide (((z * x).natAbs : Int) ≤ (most : Int))) = [z] from List.filter_cons_of_pos (p := (fun z : Int => decide (((z * x).natAbs : Int) ≤ (most : Int)))) (decide_eq_true e), List.map_append]
        rfl
    · refine ⟨s9, ?_⟩
      rw [h9, htk, List.filter_append, show [z].filter (fun z : Int => decide (((z * x).natAbs : Int) ≤ (most : Int))) = [] from List.filter_cons_of_neg (p := (fun z : Int => decide (((z * x).natAbs : Int) ≤ (most : Int)))) (fun h => e (of_decide_eq_true h)), List.append_nil]
  rintro H4 ⟨s4, h4⟩
  rw [List.length_map, List.take_length] at h4
  have ne2 := D3.new hL2
  refine ⟨d, l, L2, _, rfl, D3.same s4, .inl ⟨h4, ne2.2⟩, one_in (decide_eq_true (by rw [Int.one_mul]; exact xm)), few, fun H5 v D5 b5 hv => ?_⟩
  obtain ⟨y, hy, rfl⟩ := List.mem_map.mp hv
  obtain ⟨hy, ym⟩ := List.mem_filter.mp hy
  have ym := of_decide_eq_true ym
  obtain ⟨sy, y31, y0⟩ := S24_sign y hy
  have b05 := (b03.trans (But.of s4)).trans b5
  clear h4 h3 s4 b5 b3 s2 b1 b03 h2 D3 D3' D1 D0 few one_in ne1 ne2
  dsimp only [gName]
  have m2' : (y * x).natAbs = (x * y).natAbs := by rw [Int.mul_comm]
  have mxy : CMulW x y := mul8 (Nat.lt_of_le_of_lt x31 (by decide)) (Nat.lt_of_le_of_lt y31 (by decide))
  have xy1 : 1 ≤ (x * y).natAbs := by
    rw [Int.natAbs_mul]
    exact Nat.mul_pos (by omega) (by omega)
  have xym : (x * y).natAbs ≤ most := by omega
  refine tSeq_join (fun σ H' => DeckAt H' d l ∧ But d l H H' ∧ ∃ k : Nat, 1 ≤ k ∧ k ≤ 24 ∧ σ = [some (.ref d), some (.int (most : Int)), some (.ref p), none, some (.int x), some (.int y), some (.int (k : Int)), none]) (fun N hN => ?_) ?_
  · refine ⟨_, rfl, d, l, 16, rfl, D5, by decide, by decide, fun H6 r D6 b6 r0 r1 => ⟨_, _, rfl, rfl, _, rfl, ifD (fun e => ?_) fun e => ?_⟩⟩
    · refine ⟨_, rfl, (by show (8 : Nat) ≤ sizeLine; decide), fun p8 hp8 => ?_⟩
      have n8 := D6.new hp8
      refine ⟨d, l, p8, _, rfl, D6.same (Same.upd_new hp8), .inl ⟨upd_same, n8.2⟩, (by show 0 < 8; decide), (by show 8 < 2 ^ 64; decide), fun H7 v D7 b7 hv => ?_⟩
      obtain ⟨k, rfl, k1, k24⟩ : ∃ k : Nat, v = .int (k : Int) ∧ 1 ≤ k ∧ k ≤ 24 := by
        simp only [List.mem_cons, List.not_mem_nil, or_false] at hv
        rcases hv with h | h | h | h | h | h | h | h
        · exact ⟨1, h, by decide, by decide⟩
        · exact ⟨3, h, by decide, by decide⟩
        · exact ⟨5, h, by decide, by decide⟩
        · exact ⟨2, h, by decide, by decide⟩
        · exact ⟨1, h, by decide, by decide⟩
        · exact ⟨3, h, by decide, by decide⟩
        · exact ⟨4, h, by decide, by decide⟩
        · exact ⟨6, h, by decide, by decide⟩
      exact hN _ _ ⟨D7, ((b05.trans b6).trans (But.of (Same.upd_new (o := HO.lst [V.int 1, V.int 3, V.int 5, V.int 2, V.int 1, V.int 3, V.int 4, V.int 6]) hp8))).trans b7, k, k1, k24, rfl⟩
    · refine ⟨_, rfl, d, l, 18, rfl, D6, by decide, by decide, fun H7 r D7 b7 r0 r1 => ⟨_, _, rfl, rfl, ?_⟩⟩
      exact hN _ _ ⟨D7, (b05.trans b6).trans b7, (7 + r).toNat, by omega, by omega, by rw [show (((7 + r).toNat : Nat) : Int) = 7 + r by omega]; rfl⟩
  clear D5 b05
  rintro _ H5 ⟨D5, b5, k0, k01, k024, rfl⟩
  refine tSeq_join (fun σ H' => H5 = H' ∧ ∃ k : Nat, 1 ≤ k ∧ k ≤ 24 ∧ decide (0 < x * y) = decide (k % 2 = 0) ∧ σ = [some (.ref d), some (.int (most : Int)), some (.ref p), none, some (.int x), some (.int y), some (.int (k : Int)), none]) (fun N hN => ?_) ?_
  · have e2 : decide (V.int ((k0 : Int) % 2) = V.int 0) = decide (k0 % 2 = 0) := by
      by_cases z : k0 % 2 = 0
      · rw [decide_eq_true z]
        exact decide_eq_true (congrArg V.int (by omega))
      · rw [decide_eq_false z]
        exact decide_eq_false fun w => z (by have := V.int.inj w; omega)
    have e3 : ∀ a b : Bool, decide (V.bl a = V.bl b) = decide (a = b) := fun a b => by cases a <;> cases b <;> decide
    refine ⟨_, rfl, _, rfl, _, _, rfl, rfl, mxy, _, _, rfl, rfl, _, rfl, .inl ⟨_, rfl, _, _, rfl, rfl, (by show (0 : Int) < 2; decide), rfl, ?_⟩⟩
    refine ⟨rfl, !decide (decide (0 < x * y) = decide (k0 % 2 = 0)), ?_, ?_⟩
    · show V.bl (!decide (V.bl (decide (0 < x * y)) = V.bl (decide (V.int ((k0 : Int) % 2) = V.int 0)))) = _
      rw [e2, e3]
    refine if_by2 (fun e => ?_) fun e => ?_
    · have ne : ¬ decide (0 < x * y) = decide (k0 % 2 = 0) := by simpa using e
      refine ⟨_, rfl, _, _, rfl, rfl, _, rfl, ifD (fun e => ?_) fun e => ?_⟩
      · refine ⟨_, rfl, _, _, rfl, rfl, ?_⟩
        refine hN _ _ ⟨rfl, k0 + 1, by omega, by omega, ?_, rfl⟩
        by_cases a : 0 < x * y <;> by_cases b : k0 % 2 = 0 <;> simp only [a, b, decide_true, decide_false, not_true_eq_false, Bool.true_eq_false, Bool.false_eq_true, not_false_eq_true] at ne ⊢ <;> first | exact (decide_eq_true (by omega)).symm | exact (decide_eq_false (by omega)).symm | contradiction
      · refine hN _ _ ⟨rfl, 23, by decide, by decide, ?_, rfl⟩
        have k4 : k0 = 24 := by omega
        subst k4
        by_cases a : 0 < x * y
        · exact absurd (by rw [decide_eq_true a]; rfl) ne
        · rw [decide_eq_false a]; rfl
    · have eq : decide (0 < x * y) = decide (k0 % 2 = 0) := by simpa using e
      exact hN _ _ ⟨rfl, k0, k01, k024, eq, rfl⟩
  clear k01 k024 k0
  rintro _ _ ⟨rfl, k, k1, k24, par, rfl⟩
  refine ⟨_, rfl, _, rfl, _, rfl, _, rfl, _, _, rfl, rfl, mxy, _, rfl, ?_⟩
  rw [abs_ifN]
  have ed : (most : Int) / ((x * y).natAbs : Int) = ((most / (x * y).natAbs : Nat) : Int) := (Int.natCast_ediv _ _).symm
  have dp : 0 < most / (x * y).natAbs := Nat.div_pos xym (by omega)
  have dm := Nat.mul_div_le most (x * y).natAbs
  have dl : most / (x * y).natAbs ≤ most := Nat.div_le_self _ _
  refine ⟨_, _, rfl, rfl, cdivN (by omega) (by omega), d, l, ((most / (x * y).natAbs : Nat) : Int), by rw [← ed]; rfl, D5, by omega, by omega, fun H6 r D6 b6 r0 r1 => ?_⟩
  have b06 := b5.trans b6
  obtain ⟨t0, rfl⟩ : ∃ t0 : Nat, r = (t0 : Int) := ⟨r.toNat, by omega⟩
  have lev0 : (x * y).natAbs * (1 + t0) ≤ most := Nat.le_trans (Nat.mul_le_mul_left _ (by omega)) dm
  clear D5 b5 b6 dp dm dl ed r0 r1
  refine ⟨_, _, rfl, rfl, ?_⟩
  dsimp only [gName]
  refine tSeq_join (fun σ H' => DeckAt H' d l ∧ But d l H H' ∧ ∃ t : Nat, 1 ≤ t ∧ (x * y).natAbs * t ≤ most ∧ σ = [some (.ref d), some (.int (most : Int)), some (.ref p), none, some (.int x), some (.int y), some (.int (k : Int)), some (.int (t : Int))]) (fun N hN => ?_) ?_
  · have e1 : ((1 + t0 : Nat) : Int) = 1 + (t0 : Int) := by omega
    have stay : ∀ {H' : Hp}, DeckAt H' d l → But d l H H' → N [some (.ref d), some (.int (most : Int)), some (.ref p), none, some (.int x), some (.int y), some (.int (k : Int)), some (.int (1 + (t0 : Int)))] H' := fun D' b' => hN _ _ ⟨D', b', 1 + t0, by omega, lev0, by rw [e1]⟩
    refine ⟨_, rfl, _, _, rfl, rfl, _, rfl, ifD (fun e => ?_) fun e => stay D6 b06⟩
    refine ⟨_, rfl, d, l, 2, rfl, D6, by decide, by decide, fun H7 r D7 b7 r0 r1 => ⟨rfl, _, rfl, ifI (fun e2 => ?_) fun e2 => stay D7 (b06.trans b7)⟩⟩
    refine ⟨_, rfl, .inl ⟨_, rfl, _, _, rfl, rfl, (by show (0 : Int) < 3; decide), _, _, rfl, rfl, ?_⟩⟩
    refine hN _ _ ⟨D7, b06.trans b7, 1 + (1 + t0) % 3, by omega, Nat.le_trans (Nat.mul_le_mul_left _ (by omega)) lev0, ?_⟩
    rw [show ((1 + (1 + t0) % 3 : Nat) : Int) = 1 + (1 + (t0 : Int)) % 3 by omega]
    rfl
  clear D6 b06 lev0 t0
  rintro _ H6 ⟨D6, b6, t, t1, lev, rfl⟩
  refine tSeq_join (fun σ H' => DeckAt H' d l ∧ But d l H H' ∧ ∃ t : Nat, 1 ≤ t ∧ (x * y).natAbs * t ≤ most ∧ (isPl k x y = true → 2 ≤ t) ∧ σ = [some (.ref d), some (.int (most : Int)), some (.ref p), none, some (.int x), some (.int y), some (.int (k : Int)), some (.int (t : Int))]) (fun N hN => ?_) ?_
  · refine ⟨_, rfl, _, rfl, _, rfl, (by show (3 : Nat) ≤ sizeLine; decide), fun p1 hp1 => ?_⟩
    have s1 : Same H6 (upd H6 p1 (.tup [V.int (k : Int), V.int x, V.int y])) := Same.upd_new hp1
    have h1 : (upd H6 p1 (.tup [V.int (k : Int), V.int x, V.int y])) p1 = some (.tup [V.int (k : Int), V.int x, V.int y]) := upd_same
    generalize upd H6 p1 (.tup [V.int (k : Int), V.int x, V.int y]) = H7 at s1 h1
    refine ⟨(by show (3 : Nat) ≤ sizeLine; decide), fun p2 hp2 => ?_⟩
    have s2 : Same H7 (upd H7 p2 (.tup [V.int 2, V.int 1, V.int 1])) := Same.upd_new hp2
    have h2 : (upd H7 p2 (.tup [V.int 2, V.int 1, V.int 1])) p2 = some (.tup [V.int 2, V.int 1, V.int 1]) := upd_same
    generalize upd H7 p2 (.tup [V.int 2, V.int 1, V.int 1]) = H8 at s2 h2
    have D8 := D6.same (s1.trans s2)
    have b8 := b6.trans (But.of (s1.trans s2))
    refine ⟨.tuple [.int (k : Int), .int x, .int y], .tuple [.int 2, .int 1, .int 1], .tup (SqT.of (s2 _ _ h1)) (.cons (.int _) (.cons (.int _) (.cons (.int _) .nil))), .tup (SqT.of h2) (.cons (.int _) (.cons (.int _) (.cons (.int _) .nil))), rfl, rfl, isPl k x y, congrArg V.bl (eqv_pl k x y), ?_⟩
    refine if_by2 (fun e => ?_) fun e => hN _ _ ⟨D8, b8, t, t1, lev, fun z => (by rw [e] at z; cases z), rfl⟩
    have xy : (x * y).natAbs = 1 := by
      unfold isPl at e
      simp only [Bool.and_eq_true, decide_eq_true_eq] at e
      rw [e.2.1, e.2.2]
      rfl
    refine ⟨_, rfl, _, rfl, _, _, rfl, rfl, d, l, _, rfl, D8, by omega, by omega, fun H9 r D9 b9 r0 r1 => ⟨_, _, rfl, rfl, ?_⟩⟩
    exact hN _ _ ⟨D9, b8.trans b9, (2 + r).toNat, by omega, by rw [xy]; omega, fun _ => by omega, by rw [show (((2 + r).toNat : Nat) : Int) = 2 + r by omega]; rfl⟩
  clear D6 b6 lev t1 t
  rintro _ H6 ⟨D6, b6, t, t1, lev, pl2, rfl⟩
  have k1i : ∀ e : (k : Int) = 1, x * y < 0 := fun e => by
    have k0 : k = 1 := by omega
    rw [k0] at par
    have : ¬ 0 < x * y := by simpa using par
    have h0 : x * y ≠ 0 := Int.mul_ne_zero x0 y0
    omega
  refine ⟨_, rfl, _, rfl, rfl, _, rfl, ifI (fun e => ?_) fun e => ?_⟩
  · have neg := k1i e
    have e1 : k = 1 := by omega
    have ne : x ≠ y := fun z => by
      rw [z] at neg
      have h2 : 0 ≤ y * y := by
        rcases Int.le_total 0 y with h | h
        · exact Int.mul_nonneg h h
        · exact Int.mul_nonneg_of_nonpos_of_nonpos h h
      omega
    refine ⟨_, rfl, _, rfl, x, y, rfl, _, rfl, rfl, _, rfl, ifI (fun _ => ?_) fun z => absurd e z⟩
    refine ⟨_, rfl, _, rfl, x, y, rfl, _, rfl, (by show (5 : Nat) ≤ sizeLine; decide), fun p9 hp9 => ?_⟩
    have s9 : Same H6 (upd H6 p9 (.tup [V.str (Str.ofString "sum"), V.int (k : Int), V.int (if y < x then y else x), V.int (if y > x then y else x), V.int (t : Int)])) := Same.upd_new hp9
    have D9 := D6.same s9
    have b9 := b6.trans (But.of s9)
    rcases Int.lt_or_lt_of_ne ne with c | c
    · have a1 : (if y < x then y else x) = x := if_neg (by omega)
      have a2 : (if y > x then y else x) = y := if_pos c
      refine q _ _ k x y t D9 b9 ⟨p9, rfl, ?_⟩ ⟨k1, k24, sx, sy, t1, par, Nat.le_trans lev m4, fun _ => c, fun z => absurd e1 z⟩ hx hy lev
      rw [upd_same, a1, a2]
    · have a1 : (if y < x then y else x) = y := if_pos c
      have a2 : (if y > x then y else x) = x := if_neg (by omega)
      have cm : y * x = x * y := Int.mul_comm y x
      refine q _ _ k y x t D9 b9 ⟨p9, rfl, ?_⟩ ⟨k1, k24, sy, sx, t1, by rw [cm]; exact par, by rw [cm]; exact Nat.le_trans lev m4, fun _ => c, fun z => absurd e1 z⟩ hy hx (by rw [cm]; exact lev)
      rw [upd_same, a1, a2]
  · refine ⟨_, rfl, _, rfl, rfl, _, rfl, ifI (fun z => absurd z e) fun _ => ?_⟩
    refine ⟨_, rfl, _, rfl, (by show (5 : Nat) ≤ sizeLine; decide), fun p9 hp9 => ?_⟩
    have s9 : Same H6 (upd H6 p9 (.tup [V.str (Str.ofString "sum"), V.int (k : Int), V.int x, V.int y, V.int (t : Int)])) := Same.upd_new hp9
    refine q _ _ k x y t (D6.same s9) (b6.trans (But.of s9)) ⟨p9, rfl, upd_same⟩ ⟨k1, k24, sx, sy, t1, par, Nat.le_trans lev m4, fun z => absurd (by omega) e, fun _ => ?_⟩ hx hy lev
    cases hpl : isPl k x y with
    | true => exact .inl (pl2 hpl)
    | false => exact .inr rfl
end
end Ft

set_option exponentiation.threshold 9000
namespace Ft
open PySem L2
/-- both signs are small -/
def sp_ldsums : Sp := fun vs H Q _ => ∃ (k M : Nat) (x y : Int), vs = [.int (k : Int), .int x, .int y, .int (M : Int)] ∧ k ≤ 24 ∧ isSign x = true ∧ isSign y = true ∧ x.natAbs ≤ 64 ∧ y.natAbs ≤ 64 ∧ 1 ≤ M ∧ M ≤ 400 ∧ ∀ H' p, Same H H' → H p = none → H' p = some (.lst (rowL M (dsR k x y))) → Q (.ref p) H'
section
variable {P : Program} {w : World} {K : PySem.W.Frag} {mg : Str → Option Value} {base : Heap}
theorem ok_lsumFirst (D : Df K mg "_law_sum_first" s__law_sum_first ["_law_piece"]) (B : Bi mg) (c__law_lowest : Cal P w K mg base 2 "_law_lowest" sp_lowest) (c__law_by : Cal P w K mg base 3 "_law_by" (sp_num nprod)) (c__law_bernoulli : Cal P w K mg base 5 "_law_bernoulli" sp_lbern) : Cal P w K mg base 6 "_law_sum_first" sp_sumFirst := by
  obtain ⟨f, fd, F, m, b⟩ := D.ex
  have sc := sc__law_sum_first
  refine ⟨f, fd, _, F.ok sc (fun _ _ _ _ ⟨_, _, _, _, _, e, _⟩ => by rw [e]; rfl) (fun cdv A outer s H vs Q E hr h => ?_), m, F.kp, b⟩
  obtain ⟨v, k, x, y, t, rfl, hP, ok, ps, q⟩ := h
  have h64 : (A.deeper (PyProof.Rows.envOfC "_law_sum_first" (defScope s__law_sum_first) s.heap.objs.size f cdv)).units + 64 < cLine := by have := hr.un; omega
  refine ⟨_, (pss_cons (ps_asg (pv 0) (pg_tup rfl (pgs_cons (pg_name (i := 1) sc.nd rfl (Or.inl rfl)) (pgs_cons (pg_name (i := 2) sc.nd rfl (Or.inl rfl)) (pgs_cons (pg_name (i := 3) sc.nd rfl (Or.inl rfl)) (pgs_cons (pg_name (i := 4) sc.nd rfl (Or.inl rfl)) (pgs_cons (pg_name (i := 5) sc.nd rfl (Or.inl rfl)) pgs_nil)))))))
      (pss_cons (ps_if (pt_cmpR (op_eqD h64) (pe_tup (pa_cons (pv 2) (pa_cons (pv 3) (pa_cons (pv 4) pa_nil)))) (pe_tup (pa_cons pe_int (pa_cons pe_int (pa_cons pe_int pa_nil)))) (nomark _))
      (pss_one (ps_ret (pe_c c__law_lowest hr (by decide) (by rfl) (pa_cons (pe_op op_sub (pv 5) pe_int) (pa_cons pe_int pa_nil)))))
      pss_nil)
      (pss_cons (ps_if (pt_cmpR op_gt (pv 2) pe_int (nomark _))
      (pss_one (ps_ret (pe_ifExp (pt_cmpR op_eq (pv 3) pe_int (nomark _)) (pe_c c__law_by hr (by decide) (by rfl) (pa_cons (pe_c c__law_bernoulli hr (by decide) (by rfl) (pa_cons (pv 2) (pa_cons (pv 4) pa_nil))) (pa_cons (pe_tup (pa_cons (pe_un un_neg pe_int) (pa_cons (pe_op op_mulW pe_int (pv 2)) pa_nil))) pa_nil))) (pe_tup (pa_cons pe_int (pa_cons pe_int pa_nil))))))
      pss_nil)
      (pss_cons (ps_if (pt_cmpR op_notIn_seq pe_int (pe_tup (pa_cons (pv 3) (pa_cons (pv 4) pa_nil))) (by rfl))
      (pss_one (ps_ret (pe_tup (pa_cons pe_int (pa_cons pe_int pa_nil)))))
      pss_nil)
      (pss_one (ps_ret (pe_c c__law_by hr (by decide) (by rfl) (pa_cons (pe_c c__law_bernoulli hr (by decide) (by rfl) (pa_cons pe_int (pa_cons (pe_ifExp (pt_cmpR op_eq (pv 4) pe_int (nomark _)) (pv 3) (pv 4)) pa_nil))) (pa_cons (pe_tup (pa_cons (pe_un un_neg pe_int) (pa_cons pe_int pa_nil))) pa_nil))))))))), ?_⟩
  obtain ⟨p, rfl, hp⟩ := id hP
  refine ⟨_, rfl, p, _, rfl, SqT.of hp, rfl, _, _, rfl, _, _, rfl, _, _, rfl, _, _, rfl, _, _, rfl, rfl, ?_⟩
  dsimp only [gName]
  have e0 : fstV k x y t = if isPl k x y = true then low ((t : Int) - 1) 24 else if k = 1 then (if y = 1 then nprod (bnv 1 x) (-1, 2) else (0, 1)) else if x = 1 then nprod (bnv k y) (-1, 2 * (k : Int)) else (0, 1) := rfl
  have k1 := ok.k1
  have k24 := ok.k24
  have up : ∀ {a b : Nat} {z : Fq}, z.1.natAbs < 2 ^ a → z.2.natAbs < 2 ^ b → 0 < z.2 → a ≤ 4000 → b ≤ 4000 → Small 4000 z := fun h1 h2 h3 h4 h5 => ⟨Nat.lt_of_lt_of_le h1 (Nat.pow_le_pow_right (by decide) h4), Nat.lt_of_lt_of_le h2 (Nat.pow_le_pow_right (by decide) h5), h3⟩
  refine ⟨_, rfl, _, rfl, _, rfl, (by show (3 : Nat) ≤ sizeLine; decide), fun p1 hp1 => ?_⟩
  have s1 : Same H (upd H p1 (.tup [V.int (k : Int), V.int x, V.int y])) := Same.upd_new hp1
  have h1 : (upd H p1 (.tup [V.int (k : Int), V.int x, V.int y])) p1 = some (.tup [V.int (k : Int), V.int x, V.int y]) := upd_same
  generalize upd H p1 (.tup [V.int (k : Int), V.int x, V.int y]) = H7 at s1 h1
  refine ⟨(by show (3 : Nat) ≤ sizeLine; decide), fun p2 hp2 => ?_⟩
  have s2 : Same H7 (upd H7 p2 (.tup [V.int 2, V.int 1, V.int 1])) := Same.upd_new hp2
  have h2 : (upd H7 p2 (.tup [V.int 2, V.int 1, V.int 1])) p2 = some (.tup [V.int 2, V.int 1, V.int 1]) := upd_same
  generalize upd H7 p2 (.tup [V.int 2, V.int 1, V.int 1]) = H8 at s2 h2
  have s8 := s1.trans s2
  have q' : ∀ {H2 : Hp} {r : V} {z : Fq}, Same H8 H2 → fstV k x y t = z → Fr H2 r z → Q r H2 := fun a e f => q _ _ (s8.trans a) (by rw [e]; exact f)
  refine ⟨.tuple [.int (k : Int), .int x, .int y], .tuple [.int 2, .int 1, .int 1], .tup (SqT.of (s2 _ _ h1)) (.cons (.int _) (.cons (.int _) (.cons (.int _) .nil))), .tup (SqT.of h2) (.cons (.int _) (.cons (.int _) (.cons (.int _) .nil))), rfl, rfl, isPl k x y, congrArg V.bl (eqv_pl k x y), ?_⟩
  clear h1 h2 hp1 hp2 s1 s2
  refine if_by2 (fun hpl => ?_) fun hpl => ?_
  · rw [hpl, if_pos rfl] at e0
    refine ⟨_, rfl, _, _, rfl, rfl, (t : Int) - 1, 24, rfl, by decide, by decide, fun H9 r s9 f9 => q' s9 e0 f9⟩
  · rw [hpl, if_neg (by decide)] at e0
    dsimp only [tNext]
    refine ⟨_, rfl, _, _, rfl, rfl, _, rfl, ifD (fun e => ?_) fun e => ?_⟩
    · have k1' : ¬ k = 1 := by omega
      rw [if_neg k1'] at e0
      refine ⟨_, rfl, rfl, _, rfl, ifI (fun e2 => ?_) fun e2 => ?_⟩
      · rw [if_pos e2] at e0
        obtain ⟨ib, b1, b2, b3⟩ := bnv_ok (k := k) ok.sy (ps.2 e2) k24
        refine ⟨_, rfl, _, rfl, k, y, rfl, k24, ok.sy, ps.2 e2, fun H9 u s9 f9 => ?_⟩
        refine ⟨_, rfl, _, rfl, _, _, rfl, rfl, mul8 (by decide) (Nat.lt_of_le_of_lt (by omega : _ ≤ 24) (by decide)), (by show (2 : Nat) ≤ sizeLine; decide), fun p2 hp2 => ?_⟩
        have s4 : Same H9 (upd H9 p2 (.tup [V.int (-1), V.int (2 * (k : Int))])) := Same.upd_new hp2
        refine ⟨_, _, bnv k y, (-1, 2 * (k : Int)), rfl, f9.same s4, Fr.new, up b1 b2 b3 (by decide) (by decide), ⟨(by show (-1 : Int).natAbs < 2 ^ 4000; decide), Nat.lt_of_le_of_lt (by dsimp only; omega : _ ≤ 48) (by decide), by dsimp only; omega⟩, fun H5 r s5 f5 => ?_⟩
        exact q' (s9.trans (s4.trans s5)) e0 f5
      · rw [if_neg e2] at e0
        refine ⟨(by show (2 : Nat) ≤ sizeLine; decide), fun p2 hp2 => ?_⟩
        exact q' (Same.upd_new hp2) e0 Fr.new
    · have k1' : k = 1 := by omega
      rw [if_pos k1'] at e0
      dsimp only [tNext]
      have xneg : x < 0 := by
        have h := ok.one k1'
        have pr := ok.par
        rw [k1'] at pr
        have ng : ¬ 0 < x * y := by simpa using pr
        rcases Int.lt_or_le x 0 with c | c
        · exact c
        · exfalso
          have x0 := (isSign_le ok.sx).2.1
          exact ng (Int.mul_pos (by omega) (by omega))
      refine ⟨_, rfl, _, rfl, (by show (2 : Nat) ≤ sizeLine; decide), fun p2 hp2 => ?_⟩
      have s9 : Same H8 (upd H8 p2 (.tup [V.int x, V.int y])) := Same.upd_new hp2
      have h9 : (upd H8 p2 (.tup [V.int x, V.int y])) p2 = some (.tup [V.int x, V.int y]) := upd_same
      generalize upd H8 p2 (.tup [V.int x, V.int y]) = H9 at s9 h9
      have ein : inV (V.int 1) [V.int x, V.int y] = decide (y = 1) := by
        have ex : ¬ x = 1 := by omega
        show (eqV (V.int x) (V.int 1) || (eqV (V.int y) (V.int 1) || false)) = _
        have ev : ∀ z : Int, eqV (V.int z) (V.int 1) = decide (z = 1) := fun z => by
          show (z == 1) = decide (z = 1)
          by_cases h : z = 1
          · rw [h]; rfl
          · rw [decide_eq_false h]; exact beq_eq_false_iff_ne.mpr h
        rw [ev, ev, decide_eq_false ex, Bool.false_or, Bool.or_false]
      refine ⟨p2, _, rfl, .inr (SqT.of h9), rfl, rfl, _, congrArg (fun z : Bool => V.bl (!z)) ein, ?_⟩
      refine ifN (fun e2 => ?_) fun e2 => ?_
      · rw [if_neg e2] at e0
        refine ⟨(by show (2 : Nat) ≤ sizeLine; decide), fun p3 hp3 => ?_⟩
        exact q' (s9.trans (Same.upd_new hp3)) e0 Fr.new
      · rw [if_pos e2] at e0
        dsimp only [tNext]
        obtain ⟨ib, b1, b2, b3⟩ := bnv_ok (k := 1) ok.sx (ps.1 e2) (by decide)
        refine ⟨_, rfl, rfl, _, rfl, ifI (fun _ => ?_) fun z => absurd e2 z⟩
        refine ⟨_, rfl, 1, x, rfl, by decide, ok.sx, ps.1 e2, fun H10 u s10 f10 => ?_⟩
        refine ⟨_, rfl, (by show (2 : Nat) ≤ sizeLine; decide), fun p3 hp3 => ?_⟩
        have s4 : Same H10 (upd H10 p3 (.tup [V.int (-1), V.int 2])) := Same.upd_new hp3
        refine ⟨_, _, bnv 1 x, (-1, 2), rfl, f10.same s4, Fr.new, up b1 b2 b3 (by decide) (by decide), ⟨by decide, by decide, by decide⟩, fun H5 r s5 f5 => ?_⟩
        exact q' (s9.trans (s10.trans (s4.trans s5))) e0 f5
theorem ok_ldsums (D : Df K mg "_law_divisor_sums" s__law_divisor_sums ["_law_k", "_law_one", "_law_other", "_law_many"]) (B : Bi mg) (c__law_values : Cal P w K mg base 2 "_law_values" sp_lvals) (c__law_power : Cal P w K mg base 1 "_law_power" sp_pow) : Cal P w K mg base 3 "_law_divisor_sums" sp_ldsums := by
  obtain ⟨f, fd, F, m, b⟩ := D.ex
  have sc := sc__law_divisor_sums
  refine ⟨f, fd, _, F.ok sc (fun _ _ _ _ ⟨_, _, _, _, e, _⟩ => by rw [e]; rfl) (fun cdv A outer s H vs Q E hr h => ?_), m, F.kp, b⟩
  obtain ⟨k, M, x, y, rfl, k24, hx, hy, x64, y64, M1, M4, q⟩ := h
  refine ⟨_, (pss_cons (ps_par (i := 4) (j := 5) (by rfl) sc.nd rfl rfl (by decide) rfl rfl (pa_cons (pe_c c__law_values hr (by decide) (by rfl) (pa_cons (pv 1) (pa_cons (pe_callB (call_max2 rfl) (by rfl) B.max_ (by decide +kernel) (pa_cons pe_int (pa_cons (pv 3) pa_nil))) pa_nil))) (pa_cons (pe_c c__law_values hr (by decide) (by rfl) (pa_cons (pv 2) (pa_cons (pe_callB (call_max2 rfl) (by rfl) B.max_ (by decide +kernel) (pa_cons pe_int (pa_cons (pv 3) pa_nil))) pa_nil))) pa_nil)) (by rfl))
      (pss_cons (ps_set (i := 6) sc.nd rfl (Or.inl rfl) (pe_op op_rep (pe_lst (pa_cons pe_int pa_nil)) (pv 3)))
      (pss_cons (ps_for PassesOwn.never rfl (pi_range2 (by rfl) B.range (pa_cons pe_int (pa_cons (pv 3) pa_nil))) (pg_name (i := 7) sc.nd rfl (Or.inl rfl))
      (pss_cons (ps_set (i := 8) sc.nd rfl (Or.inl rfl) (pe_op op_mulW (pe_ix (show IxR _ (rIx K) from ix_seq) (pv 5) (pv 7) (fun _ _ => rfl)) (pe_c c__law_power hr (by decide) (by rfl) (pa_cons (pv 7) (pa_cons (pv 0) pa_nil)))))
        (pss_one (ps_for PassesOwn.never rfl (pi_range2 (by rfl) B.range (pa_cons pe_int (pa_cons (pe_op op_add (pe_op op_fdivW (pe_op op_sub (pv 3) pe_int) (pv 7)) pe_int) pa_nil))) (pg_name (i := 9) sc.nd rfl (Or.inl rfl))
        (pss_one (ps_asg (pe_op op_add (pe_ix (show IxR _ (rIx K) from ix_seq) (pv 6) (pe_op op_mulW (pv 7) (pv 9)) (fun _ _ => rfl)) (pe_op op_mulW (pe_ix (show IxR _ (rIx K) from ix_seq) (pv 4) (pv 9) (fun _ _ => rfl)) (pv 8))) (pg_sub (pv 6) (pe_op op_mulW (pv 7) (pv 9)) set_list)))))))
      (pss_one (ps_ret (pv 6)))))), ?_⟩
  obtain ⟨Mx, hMx⟩ : ∃ z, z = max 2 M := ⟨_, rfl⟩
  have em : (if (M : Int) > 2 then (M : Int) else 2) = (Mx : Int) := by rw [hMx]; split <;> omega
  have M2 : 2 ≤ Mx := by omega
  have Mx4 : Mx ≤ 401 := by omega
  have MMx : M ≤ Mx := by omega
  refine ⟨_, rfl, _, rfl, 2, _, rfl, x, Mx, (by show [V.int x, V.int (if (M : Int) > 2 then (M : Int) else 2)] = _; rw [em]), hx, x64, M2, Mx4, fun H1 pl s1 _ hl => ?_⟩
  refine ⟨_, rfl, _, rfl, 2, _, rfl, y, Mx, (by show [V.int y, V.int (if (M : Int) > 2 then (M : Int) else 2)] = _; rw [em]), hy, y64, M2, Mx4, fun H2 pr s2 _ hrr => ?_⟩
  refine ⟨_, _, rfl, ?_⟩
  have hl2 := s2 _ _ hl
  have s02 := s1.trans s2
  clear hl s1 s2
  refine ⟨(by show (1 : Nat) ≤ sizeLine; decide), fun l0 hl0 => ?_⟩
  have s0 : Same H2 (upd H2 l0 (.lst [V.int 0])) := Same.upd_new hl0
  have h0 : (upd H2 l0 (.lst [V.int 0])) l0 = some (.lst [V.int 0]) := upd_same
  generalize upd H2 l0 (.lst [V.int 0]) = H3 at s0 h0
  refine ⟨_, rfl, l0, (M : Int), _, rfl, rfl, h0, by omega, by omega, ?_, fun L hL => ?_⟩
  · rw [Int.toNat_natCast]
    exact Nat.le_trans (by show 1 * M ≤ 400; omega) (by decide : 400 ≤ sizeLine)
  have hL0 : H L = none := s02.free (s0.free hL)
  have hz : (List.replicate ((M : Int)).toNat [V.int 0]).flatten = rowL M (dsU k x y 0) := by
    rw [Int.toNat_natCast, rep0]
    unfold rowL
    exact (List.map_const' .. ▸ by rw [List.length_range] : List.replicate M (V.int 0) = (List.range M).map fun _ => V.int 0)
  rw [hz]
  have sL := Same.upd_new (o := .lst (rowL M (dsU k x y 0))) hL
  have s3 := s02.trans (s0.trans sL)
  have h3 : (upd H3 L (.lst (rowL M (dsU k x y 0)))) L = some (.lst (rowL M (dsU k x y 0))) := upd_same
  have hl3 := sL _ _ (s0 _ _ hl2)
  have hr3 := sL _ _ (s0 _ _ hrr)
  have nLl : pl ≠ L := fun e => by rw [e] at hl2; rw [s0 _ _ hl2] at hL; cases hL
  have nLr : pr ≠ L := fun e => by rw [e] at hrr; rw [s0 _ _ hrr] at hL; cases hL
  generalize upd H3 L (.lst (rowL M (dsU k x y 0))) = H4 at s3 h3 hl3 hr3
  clear hl2 hrr s02 s0 sL h0 hL hl0
  dsimp only [gName]
  refine ⟨_, rfl, 1, (M : Int), rfl, by omega, for_range (lo := 1) (n := ((M : Int) - 1).toNat) (fun i σ H' => Same H H' ∧ H' pl = some (.lst ((valsV x Mx).map V.int)) ∧ H' pr = some (.lst ((valsV y Mx).map V.int)) ∧ H' L = some (.lst (rowL M (dsU k x y i))) ∧ ∃ o7 o8 o9 : Option V, σ = [some (.int (k : Int)), some (.int x), some (.int y), some (.int (M : Int)), some (.ref pl), some (.ref pr), some (.ref L), o7, o8, o9]) ⟨s3, hl3, hr3, h3, none, none, none, rfl⟩ ?_ ?_⟩
  · rintro i σ H5 hi ⟨s5, hl5, hr5, h5, o7, o8, o9, rfl⟩
    have hi : i + 1 < M := by omega
    have ei : (1 : Int) + (i : Int) = ((i + 1 : Nat) : Int) := by omega
    have dk : (i + 1) ^ k ≤ 2 ^ 408 := pow_100k (by omega) k24
    have mf : CMulW (valueAt y ((i + 1 : Nat) : Int)) (((i + 1) ^ k : Nat) : Int) := mul8 (Nat.lt_of_le_of_lt (val_le _ _) (by decide)) (by rw [Int.natAbs_natCast]; exact Nat.lt_of_le_of_lt dk (by decide))
    dsimp only [gName]
    rw [ei]
    refine ⟨_, rfl, _, rfl, .inl ⟨pr, _, ((i + 1 : Nat) : Int), _, rfl, rfl, SqL.of hr5, atI_nat (valsV_at (by omega)), ?_⟩⟩
    refine ⟨_, rfl, _, rfl, i + 1, k, rfl, by omega, by omega, k24, _, _, rfl, rfl, mf, ?_⟩
    have h5' : H5 L = some (.lst (rowL M (dsV k x y i 0))) := by rw [h5]; exact congrArg (fun z => some (HO.lst z)) (rowL_congr fun n _ => dsV_zero.symm)
    have hq : (((M : Int) - 1) / ((i + 1 : Nat) : Int) + 1 - 1).toNat = (M - 1) / (i + 1) := by
      rw [Int.add_sub_cancel, show (M : Int) - 1 = ((M - 1 : Nat) : Int) by omega]
      rfl
    have dl : (M - 1) / (i + 1) ≤ M - 1 := Nat.div_le_self _ _
    have dI : ((M : Int) - 1) / ((i + 1 : Nat) : Int) = (((M - 1) / (i + 1) : Nat) : Int) := by
      rw [show (M : Int) - 1 = ((M - 1 : Nat) : Int) by omega]
      rfl
    dsimp only [gName]
    refine ⟨_, rfl, _, _, rfl, rfl, _, rfl, _, _, rfl, rfl, cdivN (by omega) (by omega), _, _, rfl, rfl, 1, _, rfl, (by rw [dI]; omega), ?_⟩
    refine for_range (lo := 1) (n := (((M : Int) - 1) / ((i + 1 : Nat) : Int) + 1 - 1).toNat) (fun j σ H' => Same H H' ∧ H' pl = some (.lst ((valsV x Mx).map V.int)) ∧ H' pr = some (.lst ((valsV y Mx).map V.int)) ∧ H' L = some (.lst (rowL M (dsV k x y i j))) ∧ ∃ o9 : Option V, σ = [some (.int (k : Int)), some (.int x), some (.int y), some (.int (M : Int)), some (.ref pl), some (.ref pr), some (.ref L), some (.int ((i + 1 : Nat) : Int)), some (.int (valueAt y ((i + 1 : Nat) : Int) * (((i + 1) ^ k : Nat) : Int))), o9]) ⟨s5, hl5, hr5, h5', o9, rfl⟩ ?_ ?_
    · rw [hq]
      rintro j σ H6 hj ⟨s6, hl6, hr6, h6, o9, rfl⟩
      have kb : (i + 1) + j * (i + 1) ≤ M - 1 := by
        have h := Nat.mul_div_le (M - 1) (i + 1)
        have h2 : (i + 1) * (j + 1) ≤ (i + 1) * ((M - 1) / (i + 1)) := Nat.mul_le_mul_left _ hj
        rw [Nat.mul_add, Nat.mul_one, Nat.mul_comm] at h2
        omega
      have en : ((i + 1 : Nat) : Int) * ((j + 1 : Nat) : Int) = (((i + 1) + j * (i + 1) : Nat) : Int) := by
        rw [← Int.natCast_mul]
        congr 1
        grind
      have st := fun n => dsV_step (k := k) (D := x) (E := y) (d := i) (i := j) (n := n)
      have en2 : ((i + 1) + j * (i + 1)) / (i + 1) = j + 1 := by
        rw [show (i + 1) + j * (i + 1) = (i + 1) * (j + 1) by grind]
        exact Nat.mul_div_cancel_left _ (by omega)
      have i1 : 0 < i + 1 := by omega
      have i4 : i + 1 ≤ 400 := by omega
      have j4 : j + 1 < Mx := by omega
      have dk2 := dk
      have eT : ∀ n, n / (i + 1) = j + 1 → valueAt x ((j + 1 : Nat) : Int) * (valueAt y ((i + 1 : Nat) : Int) * (((i + 1) ^ k : Nat) : Int)) = dsT k x y n (i + 1) := fun n e => by unfold dsT; rw [e, Int.mul_assoc]
      generalize hn : (i + 1) + j * (i + 1) = n at en kb st en2
      generalize hd : i + 1 = dd at *
      have hs : (rowL M (dsV k x y i j)).set n (V.int (dsV k x y i j n + dsT k x y n dd)) = rowL M (dsV k x y i (j + 1)) := by
        unfold rowL
        rw [set_map _ _ (by omega)]
        refine List.map_congr_left fun z _ => ?_
        rw [st]
        by_cases e : z = n
        · rw [if_pos e, if_pos e, e]
        · rw [if_neg e, if_neg e]
      have sd : ((dd : Nat) : Int).natAbs < 2 ^ 8000 := by rw [Int.natAbs_natCast]; exact Nat.lt_of_le_of_lt i4 (by decide)
      have sj : ((j + 1 : Nat) : Int).natAbs < 2 ^ 8000 := by rw [Int.natAbs_natCast]; exact Nat.lt_of_le_of_lt (by omega : _ ≤ 401) (by decide)
      dsimp only [gName]
      rw [show (1 : Int) + (j : Int) = ((j + 1 : Nat) : Int) by omega]
      refine ⟨_, rfl, _, rfl, _, rfl, _, _, rfl, rfl, mul8 sd sj, .inl ⟨L, _, (n : Int), _, rfl, congrArg V.int en, SqL.of h6, atI_nat (rowL_get _ (by omega)), ?_⟩⟩
      refine ⟨_, rfl, _, rfl, .inl ⟨pl, _, ((j + 1 : Nat) : Int), _, rfl, rfl, SqL.of hl6, atI_nat (valsV_at j4), ?_⟩⟩
      refine ⟨_, rfl, _, _, rfl, rfl, mul8 (Nat.lt_of_le_of_lt (val_le _ _) (by decide)) (Nat.lt_of_le_of_lt (one_mul_le (val_le _ _) (by rw [Int.natAbs_natCast]; exact dk)) (by decide)), _, _, rfl, rfl, ?_⟩
      refine ⟨_, rfl, _, rfl, _, rfl, _, _, rfl, rfl, mul8 sd sj, L, _, _, n, rfl, rfl, h6, ?_, ?_⟩
      · rw [rowL_len, en]
        unfold ixN
        rw [if_pos (by omega), if_pos (by omega), Int.toNat_natCast]
      · dsimp only
        rw [eT n en2, hs]
        refine ⟨fun b o e => ?_, ?_, ?_, upd_same, _, rfl⟩
        · rw [upd_ne (ne_of_none e hL0)]
          exact s6 _ _ e
        · rw [upd_ne nLl]
          exact hl6
        · rw [upd_ne nLr]
          exact hr6
    · rw [hq]
      rintro σ H6 ⟨s6, hl6, hr6, h6, o9, rfl⟩
      rw [rowL_congr (fun n hn => dsV_last hn)] at h6
      exact ⟨s6, hl6, hr6, h6, _, _, _, rfl⟩
  · rintro σ H5 ⟨s5, _, _, h5, o7, o8, o9, rfl⟩
    rw [show ((M : Int) - 1).toNat = M - 1 by omega, rowL_congr (fun n hn => dsU_row k x y hn)] at h5
    exact ⟨_, rfl, q _ L s5 hL0 h5⟩
end
end Ft

set_option exponentiation.threshold 9000
namespace Ft
open PySem L2
def sp_lsumTerms : Sp := fun vs H Q _ => ∃ v k x y t M, vs = [v, .int ((M : Nat) : Int)] ∧ PcAt H v k x y t ∧ PcOk k x y t ∧ x.natAbs ≤ 64 ∧ y.natAbs ≤ 64 ∧ 1 ≤ M ∧ M ≤ 400 ∧ ∀ H' r, Same H H' → Bg H' r (fstV k x y t).2 (rowT k x y t M) → Q r H'
section
variable {P : Program} {w : World} {K : PySem.W.Frag} {mg : Str → Option Value} {base : Heap}
set_option maxHeartbeats 1000000 in
theorem ok_lsumTerms (D : Df K mg "_law_sum_terms" s__law_sum_terms ["_law_piece", "_law_many"]) (B : Bi mg) (c__law_divisor_sums : Cal P w K mg base 3 "_law_divisor_sums" sp_ldsums) (c__law_sum_first : Cal P w K mg base 6 "_law_sum_first" sp_sumFirst) : Cal P w K mg base 7 "_law_sum_terms" sp_lsumTerms := by
  obtain ⟨f, fd, F, m, b⟩ := D.ex
  have sc := sc__law_sum_terms
  refine ⟨f, fd, _, F.ok sc (fun _ _ _ _ ⟨_, _, _, _, _, _, e, _⟩ => by rw [e]; rfl) (fun cdv A outer s H vs Q E hr h => ?_), m, F.kp, b⟩
  obtain ⟨v, k, x, y, t, M, rfl, hP, ok, x64, y64, M1, M4, q⟩ := h
  have h64 : (A.deeper (PyProof.Rows.envOfC "_law_sum_terms" (defScope s__law_sum_terms) s.heap.objs.size f cdv)).units + 64 < cLine := by have := hr.un; omega
  refine ⟨_, (pss_cons (ps_asg (pv 0) (pg_tup rfl (pgs_cons (pg_name (i := 2) sc.nd rfl (Or.inl rfl)) (pgs_cons (pg_name (i := 3) sc.nd rfl (Or.inl rfl)) (pgs_cons (pg_name (i := 4) sc.nd rfl (Or.inl rfl)) (pgs_cons (pg_name (i := 5) sc.nd rfl (Or.inl rfl)) (pgs_cons (pg_name (i := 6) sc.nd rfl (Or.inl rfl)) pgs_nil)))))))
      (pss_cons (ps_par (i := 7) (j := 8) (by rfl) sc.nd rfl rfl (by decide) rfl rfl (pa_cons (pe_c c__law_divisor_sums hr (by decide) (by rfl) (pa_cons (pe_op op_sub (pv 3) pe_int) (pa_cons (pv 4) (pa_cons (pv 5) (pa_cons (pv 1) pa_nil))))) (pa_cons (pe_lst pa_nil) pa_nil)) (by rfl))
      (pss_cons (ps_set (i := 9) sc.nd rfl (Or.inr rfl) (pe_c c__law_sum_first hr (by decide) (by rfl) (pa_cons (pv 0) pa_nil)))
      (pss_cons (ps_for PassesOwn.never rfl (pi_range2 (by rfl) B.range (pa_cons pe_int (pa_cons (pv 1) pa_nil))) (pg_name (i := 10) sc.nd rfl (Or.inl rfl))
      (pss_one (ps_if (pt_cmpR (op_eqD h64) (pe_tup (pa_cons (pv 3) (pa_cons (pv 4) (pa_cons (pv 5) pa_nil)))) (pe_tup (pa_cons pe_int (pa_cons pe_int (pa_cons pe_int pa_nil)))) (nomark _))
        (pss_one (ps_expr (pe_bm PySem.F.plainAttrs_list PySem.F.slot_list_append PySem.F.type_list_append mt_append (pv 8) (pa_cons (pe_op op_sub (pe_ix (show IxR _ (rIx K) from ix_seq) (pv 7) (pv 10) (fun _ _ => rfl)) (pe_ifExp (pt_cmpR op_eq (pe_op op_mod (pe_callTy call_int1 (by rfl) B.int_ (by decide +kernel) (pa_cons (pv 10) pa_nil)) (pv 6)) pe_int (nomark _)) (pe_op op_mulW (pv 6) (pe_ix (show IxR _ (rIx K) from ix_seq) (pv 7) (pe_op op_fdivW (pv 10) (pv 6)) (fun _ _ => rfl))) pe_int)) pa_nil))))
        (pss_one (ps_expr (pe_bm PySem.F.plainAttrs_list PySem.F.slot_list_append PySem.F.type_list_append mt_append (pv 8) (pa_cons (pe_ifExp (pt_cmpR op_eq (pe_op op_mod (pe_callTy call_int1 (by rfl) B.int_ (by decide +kernel) (pa_cons (pv 10) pa_nil)) (pv 6)) pe_int (nomark _)) (pe_ix (show IxR _ (rIx K) from ix_seq) (pv 7) (pe_op op_fdivW (pv 10) (pv 6)) (fun _ _ => rfl)) pe_int) pa_nil)))))))
      (pss_one (ps_ret (pe_tup (pa_cons (pe_ix (show IxR _ (rIx K) from ix_seq) (pv 9) pe_int (fun _ _ => rfl)) (pa_cons (pe_op op_catA (pe_tup (pa_cons (pe_ix (show IxR _ (rIx K) from ix_seq) (pv 9) pe_int (fun _ _ => rfl)) pa_nil)) (pe_callTy call_tuple_of (by rfl) B.tuple (by decide +kernel) (pa_cons (pe_lc (own := [("_law_x", 11)]) (g := gName 11) (tt := tYes) (by rfl) sc.nd (pi_list (pv 8)) (blkOk_by (own := [("_law_x", 11)]) (N := N__law_sum_terms) (sc := defScope s__law_sum_terms) (by decide +kernel)) (fun _ _ _ _ _ => (pg_name (i := 11) sc.nd rfl (Or.inl rfl))) (fun _ _ _ _ _ => pts_nil) (fun _ _ _ _ _ => (pe_op op_mulW (pe_ix (show IxR _ (rIx K) from ix_seq) (pv 9) pe_int (fun _ _ => rfl)) (pv 11)))) pa_nil))) pa_nil))))))))), ?_⟩
  have k1 := ok.k1
  have k24 := ok.k24
  have t1 := ok.t1
  have t4 := ok.t4
  have ps : PcS x y := ⟨fun _ => x64, fun _ => y64⟩
  obtain ⟨f1, f2, f3⟩ := fst_le ok ps
  obtain ⟨p, rfl, hp⟩ := id hP
  refine ⟨_, rfl, p, _, rfl, SqT.of hp, rfl, _, _, rfl, _, _, rfl, _, _, rfl, _, _, rfl, _, _, rfl, rfl, ?_⟩
  dsimp only [gName]
  refine ⟨_, rfl, _, _, rfl, rfl, _, rfl, _, rfl, _, rfl, k - 1, M, x, y, (by show [V.int ((k : Int) - 1), V.int x, V.int y, V.int (M : Int)] = _; rw [show (k : Int) - 1 = ((k - 1 : Nat) : Int) by omega]), by omega, ok.sx, ok.sy, x64, y64, M1, M4, fun H1 pS s1 _ hS => ?_⟩
  refine ⟨Nat.zero_le _, fun L hL => ⟨_, _, rfl, ?_⟩⟩
  have hL0 : H L = none := s1.free hL
  have s2 : Same H1 (upd H1 L (.lst [])) := Same.upd_new hL
  have h2 : (upd H1 L (.lst [])) L = some (.lst []) := upd_same
  have nS : pS ≠ L := fun e => by rw [e] at hS; rw [hS] at hL; cases hL
  have hS2 := s2 _ _ hS
  generalize upd H1 L (.lst []) = H2 at s2 h2 hS2
  dsimp only [gName]
  refine ⟨_, rfl, _, k, x, y, t, rfl, ⟨p, rfl, s2 _ _ (s1 _ _ hp)⟩, ok, ps, fun H3 r s3 fr => ?_⟩
  obtain ⟨pf, rfl, hf⟩ := fr
  have s03 := s1.trans (s2.trans s3)
  have h3 := s3 _ _ h2
  have hS3 := s3 _ _ hS2
  have nf : pf ≠ L := fun e => by rw [e, h3] at hf; cases hf
  have lat : ∀ n, latV k x y t n = if isPl k x y = true then dsR (k - 1) x y n - (if n % t = 0 then (t : Int) * dsR (k - 1) x y (n / t) else 0) else if n % t = 0 then dsR (k - 1) x y (n / t) else 0 := fun n => rfl
  have lt8 : ∀ n, n ≤ 400 → (dsR (k - 1) x y n).natAbs < 2 ^ 8000 := fun n hn => Nat.lt_trans (dsR_le hn (show k - 1 ≤ 24 by omega)) (Nat.pow_lt_pow_right (by decide) (by decide))
  have tl : ((t : Nat) : Int).natAbs < 2 ^ 8000 := by rw [Int.natAbs_natCast]; exact Nat.lt_of_le_of_lt t4 (by decide)
  have lb : ∀ n, n ≤ 400 → CMulW (fstV k x y t).2 (latV k x y t n) := fun n hn => mul8 (Nat.lt_trans f2 (Nat.pow_lt_pow_right (by decide) (by decide))) (Nat.lt_trans (latV_le ok hn) (Nat.pow_lt_pow_right (by decide) (by decide)))
  clear hL s1 s2 s3 hS hS2 h2 f1 f2 hP hp
  dsimp only [gName]
  refine ⟨_, rfl, 1, (M : Int), rfl, by omega, for_range (lo := 1) (n := ((M : Int) - 1).toNat) (fun i σ H' => Same H H' ∧ H' pS = some (.lst (rowL M (dsR (k - 1) x y))) ∧ H' pf = some (.tup [.int (fstV k x y t).1, .int (fstV k x y t).2]) ∧ H' L = some (.lst ((List.range i).map fun i => V.int (latV k x y t (i + 1)))) ∧ ∃ o10 : Option V, σ = [some (.ref p), some (.int (M : Int)), some (.str (Str.ofString "sum")), some (.int (k : Int)), some (.int x), some (.int y), some (.int (t : Int)), some (.ref pS), some (.ref L), some (.ref pf), o10, none]) ⟨s03, hS3, hf, h3, none, rfl⟩ ?_ ?_⟩
  · rintro i σ H4 hi ⟨s4, hS4, hf4, h4, o10, rfl⟩
    have hi : i + 1 < M := by omega
    dsimp only [gName]
    rw [show (1 : Int) + (i : Int) = ((i + 1 : Nat) : Int) by omega]
    have li := lat (i + 1)
    have fin : ∀ {H5 : Hp} (z : Int), Same H4 H5 → z = latV k x y t (i + 1) → H5 L = some (.lst ((List.range i).map fun i => V.int (latV k x y t (i + 1)))) ∧ ((List.range i).map fun i => V.int (latV k x y t (i + 1))).length < sizeLine ∧ Same H (upd H5 L (.lst (((List.range i).map fun i => V.int (latV k x y t (i + 1))) ++ [V.int z]))) ∧ (upd H5 L (.lst (((List.range i).map fun i => V.int (latV k x y t (i + 1))) ++ [V.int z]))) pS = some (.lst (rowL M (dsR (k - 1) x y))) ∧ (upd H5 L (.lst (((List.range i).map fun i => V.int (latV k x y t (i + 1))) ++ [V.int z]))) pf = some (.tup [.int (fstV k x y t).1, .int (fstV k x y t).2]) ∧ (upd H5 L (.lst (((List.range i).map fun i => V.int (latV k x y t (i + 1))) ++ [V.int z]))) L = some (.lst ((List.range (i + 1)).map fun i => V.int (latV k x y t (i + 1)))) := fun {H5} z s5 e => by
      subst e
      refine ⟨s5 _ _ h4, ?_, fun b o e => ?_, ?_, ?_, ?_⟩
      · rw [List.length_map, List.length_range]
        exact Nat.lt_of_le_of_lt (by omega : i ≤ 400) (by decide)
      · rw [upd_ne (ne_of_none e hL0)]
        exact s5 _ _ (s4 _ _ e)
      · rw [upd_ne nS]
        exact s5 _ _ hS4
      · rw [upd_ne nf]
        exact s5 _ _ hf4
      · rw [upd_same, List.range_succ, List.map_append]
        rfl
    obtain ⟨n, hn⟩ : ∃ n, n = i + 1 := ⟨_, rfl⟩
    rw [← hn] at li fin hi ⊢
    have di : ∀ c, c ≤ n → ((rowL M (dsR (k - 1) x y)))[c]? = some (V.int (dsR (k - 1) x y c)) := fun c hc => rowL_get _ (by omega)
    refine ⟨_, rfl, _, rfl, _, rfl, (by show (3 : Nat) ≤ sizeLine; decide), fun p1 hp1 => ?_⟩
    have s5 : Same H4 (upd H4 p1 (.tup [V.int (k : Int), V.int x, V.int y])) := Same.upd_new hp1
    have h1 : (upd H4 p1 (.tup [V.int (k : Int), V.int x, V.int y])) p1 = some (.tup [V.int (k : Int), V.int x, V.int y]) := upd_same
    generalize upd H4 p1 (.tup [V.int (k : Int), V.int x, V.int y]) = H5 at s5 h1
    refine ⟨(by show (3 : Nat) ≤ sizeLine; decide), fun p2 hp2 => ?_⟩
    have s6 : Same H5 (upd H5 p2 (.tup [V.int 2, V.int 1, V.int 1])) := Same.upd_new hp2
    have h2 : (upd H5 p2 (.tup [V.int 2, V.int 1, V.int 1])) p2 = some (.tup [V.int 2, V.int 1, V.int 1]) := upd_same
    generalize upd H5 p2 (.tup [V.int 2, V.int 1, V.int 1]) = H6 at s6 h2
    have s46 := s5.trans s6
    have hS6 := s46 _ _ hS4
    have h6 := s46 _ _ h4
    have hnt : n / t < M := Nat.lt_of_le_of_lt (Nat.div_le_self _ _) hi
    have t0 : (0 : Int) < (t : Int) := by omega
    refine ⟨.tuple [.int (k : Int), .int x, .int y], .tuple [.int 2, .int 1, .int 1], .tup (SqT.of (s6 _ _ h1)) (.cons (.int _) (.cons (.int _) (.cons (.int _) .nil))), .tup (SqT.of h2) (.cons (.int _) (.cons (.int _) (.cons (.int _) .nil))), rfl, rfl, isPl k x y, congrArg V.bl (eqv_pl k x y), ?_⟩
    refine if_by2 (fun hpl => ?_) fun hpl => ?_
    · rw [hpl, if_pos rfl] at li
      refine ⟨_, rfl, .inl ⟨rfl, _, SqL.of h6⟩, ?_⟩
      refine ⟨_, rfl, _, rfl, .inl ⟨pS, _, ((n : Nat) : Int), _, rfl, rfl, SqL.of hS6, atI_nat (di n (Nat.le_refl _)), ?_⟩⟩
      refine ⟨_, rfl, .inl ⟨_, rfl, _, rfl, _, _, rfl, rfl, t0, rfl, _, rfl, ifI (fun e => ?_) fun e => ?_⟩⟩
      · have e' : n % t = 0 := Int.ofNat.inj e
        rw [if_pos e'] at li
        refine ⟨_, rfl, _, rfl, _, rfl, _, rfl, _, _, rfl, rfl, cdivN (by omega) (by omega), .inl ⟨pS, _, ((n / t : Nat) : Int), _, rfl, congrArg V.int (Int.natCast_ediv n t).symm, SqL.of hS6, atI_nat (di _ (Nat.div_le_self _ _)), ?_⟩⟩
        refine ⟨_, _, rfl, rfl, mul8 tl (lt8 _ (by omega)), _, _, rfl, rfl, ?_⟩
        obtain ⟨w1, w2, w3⟩ := fin (dsR (k - 1) x y n - (t : Int) * dsR (k - 1) x y (n / t)) s46 li.symm
        exact ⟨L, _, _, rfl, rfl, w1, w2, w3.1, w3.2.1, w3.2.2.1, w3.2.2.2, _, rfl⟩
      · have e' : ¬ n % t = 0 := fun z => e (congrArg Int.ofNat z)
        rw [if_neg e'] at li
        refine ⟨_, _, rfl, rfl, ?_⟩
        obtain ⟨w1, w2, w3⟩ := fin (dsR (k - 1) x y n - 0) s46 li.symm
        exact ⟨L, _, _, rfl, rfl, w1, w2, w3.1, w3.2.1, w3.2.2.1, w3.2.2.2, _, rfl⟩
    · rw [hpl, if_neg (by decide)] at li
      refine ⟨_, rfl, .inl ⟨rfl, _, SqL.of h6⟩, ?_⟩
      refine ⟨_, rfl, .inl ⟨_, rfl, _, rfl, _, _, rfl, rfl, t0, rfl, _, rfl, ifI (fun e => ?_) fun e => ?_⟩⟩
      · have e' : n % t = 0 := Int.ofNat.inj e
        rw [if_pos e'] at li
        refine ⟨_, rfl, _, rfl, _, rfl, _, _, rfl, rfl, cdivN (by omega) (by omega), .inl ⟨pS, _, ((n / t : Nat) : Int), _, rfl, congrArg V.int (Int.natCast_ediv n t).symm, SqL.of hS6, atI_nat (di _ (Nat.div_le_self _ _)), ?_⟩⟩
        obtain ⟨w1, w2, w3⟩ := fin (dsR (k - 1) x y (n / t)) s46 li.symm
        exact ⟨L, _, _, rfl, rfl, w1, w2, w3.1, w3.2.1, w3.2.2.1, w3.2.2.2, _, rfl⟩
      · have e' : ¬ n % t = 0 := fun z => e (congrArg Int.ofNat z)
        rw [if_neg e'] at li
        obtain ⟨w1, w2, w3⟩ := fin 0 s46 li.symm
        exact ⟨L, _, _, rfl, rfl, w1, w2, w3.1, w3.2.1, w3.2.2.1, w3.2.2.2, _, rfl⟩
  rintro σ H4 ⟨s4, hS4, hf4, h4, o10, rfl⟩
  rw [show ((M : Int) - 1).toNat = M - 1 by omega] at h4
  have fr4 : Fr H4 (.ref pf) (fstV k x y t) := ⟨pf, rfl, hf4⟩
  have er : (rowT k x y t M).map V.int = V.int (fstV k x y t).1 :: (List.range (M - 1)).map fun i => V.int ((fstV k x y t).2 * latV k x y t (i + 1)) := by
    unfold rowT
    rw [List.map_cons, List.map_map]
    rfl
  dsimp only
  refine ⟨_, rfl, fr1 fr4 ⟨_, rfl, fr0 fr4 ⟨(by show (1 : Nat) ≤ sizeLine; decide), fun pA hpA => ?_⟩⟩⟩
  obtain ⟨F1, hF1⟩ : ∃ z, z = (fstV k x y t).1 := ⟨_, rfl⟩
  obtain ⟨F2, hF2⟩ : ∃ z, z = (fstV k x y t).2 := ⟨_, rfl⟩
  have s5 : Same H4 (upd H4 pA (.tup [V.int (fstV k x y t).1])) := Same.upd_new hpA
  have hA : (upd H4 pA (.tup [V.int (fstV k x y t).1])) pA = some (.tup [V.int (fstV k x y t).1]) := upd_same
  generalize upd H4 pA (.tup [V.int (fstV k x y t).1]) = H5 at s5 hA
  have hL5 := s5 _ _ h4
  have fr5 := fr4.same s5
  refine ⟨_, rfl, L, rfl, ⟨_, SqL.of hL5⟩, fun D2 hD2 => ?_⟩
  refine lc_it (walk_list (xs := (List.range (M - 1)).map fun i => V.int (latV k x y t (i + 1)))) (fun i H' => Same H5 H' ∧ H' D2 = some (.lst ((List.range i).map fun i => V.int ((fstV k x y t).2 * latV k x y t (i + 1))))) ⟨Same.upd_new hD2, upd_same⟩ (fun i H' _ ⟨z, _⟩ => SqL.of (z _ _ hL5)) ?_ ?_
  · rintro i v H6 _ hi ⟨s6, h6⟩ ⟨rfl, hv⟩
    rw [List.length_map, List.length_range] at hi
    obtain rfl : v = V.int (latV k x y t (i + 1)) := by
      rw [List.getElem?_map, List.getElem?_range hi] at hv
      exact (Option.some.inj hv).symm
    refine ⟨rfl, _, rfl, fr1 (fr5.same s6) ⟨_, rfl, _, _, rfl, rfl, lb _ (by omega), ?_⟩⟩
    refine ⟨_, h6, ?_, fun b o e => ?_, ?_⟩
    · rw [List.length_map, List.length_range]
      exact Nat.lt_of_le_of_lt (by omega : i ≤ 400) (by decide)
    · rw [upd_ne (ne_of_none e hD2)]
      exact s6 _ _ e
    · rw [upd_same, List.range_succ, List.map_append]
      rfl
  rintro H6 ⟨s6, h6⟩
  rw [List.length_map, List.length_range] at h6
  refine ⟨D2, _, rfl, .inl ⟨SqL.of h6, fun pB hpB => ?_⟩⟩
  have s7 : Same H6 (upd H6 pB (.tup ((List.range (M - 1)).map fun i => V.int ((fstV k x y t).2 * latV k x y t (i + 1))))) := Same.upd_new hpB
  have hB7 : (upd H6 pB (.tup ((List.range (M - 1)).map fun i => V.int ((fstV k x y t).2 * latV k x y t (i + 1))))) pB = some (.tup ((List.range (M - 1)).map fun i => V.int ((fstV k x y t).2 * latV k x y t (i + 1)))) := upd_same
  generalize upd H6 pB (.tup ((List.range (M - 1)).map fun i => V.int ((fstV k x y t).2 * latV k x y t (i + 1)))) = H7 at s7 hB7
  have hA7 := s7 _ _ (s6 _ _ hA)
  have s07 := s4.trans (s5.trans (s6.trans s7))
  have fin : ∀ {H8 : Hp} {pT : Addr}, Same H7 H8 → H8 pT = some (.tup ((rowT k x y t M).map V.int)) → 2 ≤ sizeLine ∧ ∀ p9, H8 p9 = none → Q (.ref p9) (upd H8 p9 (.tup [V.int (fstV k x y t).2, V.ref pT])) := fun {H8 pT} s8 h8 => ⟨by decide, fun p9 hp9 => q _ _ (s07.trans (s8.trans (Same.upd_new hp9))) ⟨p9, pT, rfl, upd_same, (Same.upd_new hp9) _ _ h8⟩⟩
  refine ⟨pA, pB, _, _, rfl, rfl, SqT.of hA7, SqT.of hB7, ?_, fun e => (by cases e), fun _ e => ?_, fun _ _ pC hpC => ?_⟩
  · rw [List.length_map, List.length_range]
    exact Nat.le_trans (by show 1 + (M - 1) ≤ 400; omega) (by decide)
  · refine fin (Same.refl _) ?_
    rw [er, e]
    exact hA7
  · refine fin (Same.upd_new hpC) ?_
    rw [er]
    exact upd_same
end
end Ft

set_option exponentiation.threshold 9000
namespace Ft
open PySem L2
def sp_termAt : Sp := fun vs H Q _ => ∃ u b t n, vs = [u, .int ((n : Nat) : Int)] ∧ Bg H u b t ∧ BgOk b t ∧ n < t.length ∧ b.natAbs < 2 ^ 8001 ∧ ∀ H' r, Same H H' → Fr H' r (low (t.getD n 0) b) → Q r H'
section
variable {P : Program} {w : World} {K : PySem.W.Frag} {mg : Str → Option Value} {base : Heap}
theorem ok_term_at (D : Df K mg "term_at" s_term_at ["beginning", "n"]) (B : Bi mg) (c_check_beginning : Cal P w K mg base 4 "check_beginning" sp_checkBeg) (c_check_between : Cal P w K mg base 3 "check_between" (sp3 (fun n a b => a ≤ n ∧ n ≤ b) fun _ _ _ => .non)) (c_lowest_terms : Cal P w K mg base 1 "lowest_terms" sp_low) : Cal P w K mg base 5 "term_at" sp_termAt := by
  obtain ⟨f, fd, F, m, b⟩ := D.ex
  have sc := sc_term_at
  refine ⟨f, fd, _, F.ok sc (fun _ _ _ _ ⟨_, _, _, _, e, _⟩ => by rw [e]; rfl) (fun cdv A outer s H vs Q E hr h => ?_), m, F.kp, b⟩
  obtain ⟨u, b, t, n, rfl, hu, ok1, hn, s1, q⟩ := h
  refine ⟨_, (pss_cons (ps_expr (pe_c c_check_beginning hr (by decide) (by rfl) (pa_cons (pv 0) pa_nil)))
      (pss_cons (ps_asg (pv 0) (pg_tup rfl (pgs_cons (pg_name (i := 2) sc.nd rfl (Or.inl rfl)) (pgs_cons (pg_name (i := 3) sc.nd rfl (Or.inl rfl)) pgs_nil))))
      (pss_cons (ps_expr (pe_c c_check_between hr (by decide) (by rfl) (pa_cons (pv 1) (pa_cons pe_int (pa_cons (pe_op op_sub (pe_callB call_len_seq (by rfl) B.len_ (by decide +kernel) (pa_cons (pv 3) pa_nil)) pe_int) pa_nil)))))
      (pss_one (ps_ret (pe_c c_lowest_terms hr (by decide) (by rfl) (pa_cons (pe_ix (show IxR _ (rIx K) from ix_seq) (pv 3) (pv 1) (fun _ _ => rfl)) (pa_cons (pv 2) pa_nil)))))))), ?_⟩
  have p1 := ok1.1
  have ll : (t.map V.int).length = t.length := List.length_map ..
  refine ⟨_, rfl, u, b, t, rfl, hu, ok1, fun H1 e1 => ?_⟩
  obtain ⟨p, r, rfl, hp, hrt⟩ := hu.same e1
  refine ⟨_, rfl, p, _, rfl, SqT.of hp, rfl, _, _, rfl, _, _, rfl, rfl, ?_⟩
  refine ⟨_, rfl, _, rfl, r, _, rfl, .inr (SqT.of hrt), _, _, rfl, rfl, (n : Int), 0, _, rfl, ⟨by omega, by rw [ll]; omega⟩, ?_⟩
  refine ⟨_, rfl, _, rfl, .inr (.inl ⟨r, _, _, _, rfl, rfl, SqT.of hrt, atI_nat (getD_at hn), ?_⟩)⟩
  exact ⟨_, rfl, t.getD n 0, b, rfl, by omega, s1, fun H4 r4 k4 g4 => q _ _ (e1.trans k4) g4⟩
end
end Ft

set_option exponentiation.threshold 9000
namespace Ft
open PySem L2
theorem int_short7 {v : Int} (h : v.natAbs < 2 ^ 1900) : (PyData.int v).leavesShort 700 = true := by
  have key : (PyData.shown (.int v)).length ≤ 700 := by
    have p : (2 : Int) ^ 1900 < 10 ^ 650 := by decide
    have p2 : (2 : Int) ^ 1900 = ((2 ^ 1900 : Nat) : Int) := by rw [Int.natCast_pow]; rfl
    rcases Int.lt_or_le v 0 with h0 | h0
    · obtain ⟨m, rfl⟩ : ∃ m : Nat, v = Int.negSucc m := ⟨v.natAbs - 1, by omega⟩
      have l := PyProof.Rows.toString_length_le (v := ((m + 1 : Nat) : Int)) (by omega) (k := 650) (by decide) (Int.lt_trans (by rw [p2]; exact Int.ofNat_lt.mpr h) p)
      have e : toString (Int.negSucc m) = "-" ++ toString (m + 1) := rfl
      show (Str.ofString (toString (Int.negSucc m))).length ≤ 700
      rw [e, PyProof.Rows.ofString_length, String.toList_append, List.length_append]
      rw [PyProof.Rows.ofString_length] at l
      have l' : (toString (m + 1)).toList.length ≤ 650 := l
      have : "-".toList.length = 1 := by decide
      omega
    · have l := PyProof.Rows.toString_length_le h0 (k := 650) (by decide) (Int.lt_trans (by rw [p2]; omega) p)
      exact Nat.le_trans l (by decide)
  simpa only [PyData.leavesShort, decide_eq_true_eq] using key
theorem int_showable7 {v : Int} (h : v.natAbs < 2 ^ 1900) : (PyData.int v).showable = true := by
  have := PySem.Flt.log2_lt_of (by decide) h
  simp only [PyData.showable, decide_eq_true_eq]
  omega
structure Rs (k m : Nat) (d : PyData) : Prop where
  show_ : d.showable = true
  dict : d.hasDict = false
  depth : d.depth ≤ k
  short : d.leavesShort 700 = true
  bulk : d.bulk ≤ m
structure RsL (k m : Nat) (ds : List PyData) : Prop where
  show_ : PyData.showableAll ds = true
  dict : PyData.hasDictAll ds = false
  depth : PyData.depthAll ds ≤ k
  short : PyData.leavesShortAll 700 ds = true
  bulk : PyData.bulkAll ds ≤ m
theorem Rs.mono {k m k' m' : Nat} {d : PyData} (h : Rs k m d) (h1 : k ≤ k') (h2 : m ≤ m') : Rs k' m' d := ⟨h.show_, h.dict, Nat.le_trans h.depth h1, h.short, Nat.le_trans h.bulk h2⟩
theorem RsL.nil {k : Nat} : RsL k 0 [] := ⟨by simp only [PyData.showableAll], by simp only [PyData.hasDictAll], by simp only [PyData.depthAll]; omega, by simp only [PyData.leavesShortAll], by simp only [PyData.bulkAll]; omega⟩
theorem RsL.cons {k m n : Nat} {d : PyData} {ds : List PyData} (h : Rs k m d) (t : RsL k n ds) : RsL k (m + n + 2) (d :: ds) := by
  refine ⟨?_, ?_, ?_, ?_, ?_⟩
  · simp only [PyData.showableAll, h.show_, t.show_, Bool.and_self]
  · simp only [PyData.hasDictAll, h.dict, t.dict, Bool.or_self]
  · simp only [PyData.depthAll]
    have := h.depth
    have := t.depth
    omega
  · simp only [PyData.leavesShortAll, h.short, t.short, Bool.and_self]
  · simp only [PyData.bulkAll]
    have := h.bulk
    have := t.bulk
    omega
theorem Rs.tup {k m : Nat} {ds : List PyData} (t : RsL k m ds) : Rs (k + 1) (m + 2) (.tuple ds) := by
  refine ⟨?_, ?_, ?_, ?_, ?_⟩
  · simp only [PyData.showable, t.show_]
  · simp only [PyData.hasDict, t.dict]
  · simp only [PyData.depth]
    have := t.depth
    omega
  · simp only [PyData.leavesShort, t.short]
  · simp only [PyData.bulk]
    have := t.bulk
    omega
theorem Rs.list {k m : Nat} {ds : List PyData} (t : RsL k m ds) : Rs (k + 1) (m + 2) (.list ds) := by
  refine ⟨?_, ?_, ?_, ?_, ?_⟩
  · simp only [PyData.showable, t.show_]
  · simp only [PyData.hasDict, t.dict]
  · simp only [PyData.depth]
    have := t.depth
    omega
  · simp only [PyData.leavesShort, t.short]
  · simp only [PyData.bulk]
    have := t.bulk
    omega
theorem rs_int {v : Int} {k m : Nat} (h : v.natAbs < 2 ^ 1900) : Rs k (m + 1) (.int v) := ⟨int_showable7 h, by simp only [PyData.hasDict], by simp only [PyData.depth]; omega, int_short7 h, by simp only [PyData.bulk]; omega⟩
theorem rs_ints {k : Nat} : ∀ {ts : List Int}, (∀ x ∈ ts, x.natAbs < 2 ^ 1900) → RsL k (3 * ts.length) (ts.map PyData.int)
  | [], _ => .nil
  | t :: ts, h => by
    have := RsL.cons (rs_int (k := k) (m := 0) (h t List.mem_cons_self)) (rs_ints (k := k) (ts := ts) fun x hx => h x (List.mem_cons_of_mem _ hx))
    exact ⟨this.show_, this.dict, this.depth, this.short, Nat.le_trans this.bulk (by rw [List.length_cons]; omega)⟩
theorem Rs.rep {k m : Nat} {d : PyData} (h : Rs k m d) (hk : k ≤ 64) (hm : m ≤ 10000) : RepOk d := by
  refine ⟨h.show_, h.dict, Nat.le_trans h.depth hk, ?_⟩
  have l := PyData.shown_le_bulk 700 (by decide) d h.short
  have := h.bulk
  have e : sizeLine = 16777216 := by decide
  have b := Nat.mul_le_mul_left 702 (Nat.le_trans h.bulk hm)
  omega
theorem rs_bg {b : Int} {ts : List Int} (hb : b.natAbs < 2 ^ 1900) (ht : ∀ x ∈ ts, x.natAbs < 2 ^ 1900) (hl : ts.length ≤ 400) : Rs 2 1300 (bgD b ts) := (Rs.tup (RsL.cons (rs_int (m := 0) hb) (RsL.cons (Rs.tup (rs_ints (k := 0) ht)) .nil))).mono (Nat.le_refl _) (by omega)
theorem rep_big {K : PySem.W.Frag} {H : Hp} {u : V} {b : Int} {ts : List Int} {Q : VK} (g : Bg H u b ts) (hb : b.natAbs < 2 ^ 1900) (ht : ∀ x ∈ ts, x.natAbs < 2 ^ 1900) (hl : ts.length ≤ 400) (q : ∀ z, z = (bgD b ts).shown → Q (.str z) H) : rRepr K [u] H Q := by
  have d := dp_bg (K := K) g
  obtain ⟨p, r, rfl, _, _⟩ := g
  have R := (rs_bg hb ht hl).rep (by decide) (by decide)
  exact ⟨p, _, rfl, d, R.show_, R.dict, R.depth, R.len, q _ rfl⟩
theorem low_big {N : Nat} {b : Int} {ts : List Int} (hb : b.natAbs < N) (ht : ∀ x ∈ ts, x.natAbs < N) : (lowB b ts).natAbs < N ∧ ∀ x ∈ lowT b ts, x.natAbs < N := by
  refine ⟨Nat.lt_of_le_of_lt (Int.natAbs_ediv_le_natAbs _ _) hb, fun x hx => ?_⟩
  obtain ⟨t, h, rfl⟩ := List.mem_map.mp hx
  exact Nat.lt_of_le_of_lt (Int.natAbs_ediv_le_natAbs _ _) (ht t h)
end Ft

set_option exponentiation.threshold 9000
namespace Ft
open PySem L2
def sp_divisors : Sp := fun vs H Q _ => ∃ n : Nat, vs = [.int (n : Int)] ∧ 1 ≤ n ∧ n ≤ 100000 ∧ ∀ H' p, Same H H' → H' p = some (.tup ((dvs n).map fun d : Nat => V.int (d : Int))) → Q (.ref p) H'
def sp_dsum : Sp := fun vs H Q _ => ∃ (n k : Nat) (a b : Int), vs = [.int (n : Int), .int (k : Int), .int a, .int b] ∧ 1 ≤ n ∧ n ≤ 100000 ∧ k ≤ 24 ∧ isSign a = true ∧ isSign b = true ∧ ∀ H', Same H H' → Q (.int (dsF k a b n)) H'
section
variable {P : Program} {w : World} {K : PySem.W.Frag} {mg : Str → Option Value} {base : Heap}
theorem fn_divisors {f : Addr} {fd : FuncData} (F : Fun K "divisors" "divisors" s_divisors f fd) (B : Bi mg) (c_check_from : Cal P w K mg base 3 "check_from" sp_checkFrom) : FnOk P w K mg base CX0 4 f fd ["n"] sp_divisors := by
  have sc := sc_divisors
  refine F.ok sc (fun _ _ _ _ ⟨_, e, _⟩ => by rw [e]; rfl) (fun cdv A outer s H vs Q E hr h => ?_)
  obtain ⟨n, rfl, h1, hn, q⟩ := h
  refine ⟨_, (pss_cons (ps_expr (pe_c c_check_from hr (by decide) (by rfl) (pa_cons (pv 0) (pa_cons pe_int pa_nil))))
      (pss_cons (ps_setLc (i := 2) (own := [("d", 1)]) (g := gName 1)  (by rfl) sc.nd rfl rfl (sw_true rfl rfl rfl (by decide +kernel)) (pi_range2 (by rfl) B.range (pa_cons pe_int (pa_cons (pe_op op_add (pe_callBfun cr_isqrt (by rfl) B.isqrt (pa_cons (pv 0) pa_nil)) pe_int) pa_nil))) (blkOk_by (own := [("d", 1)]) (N := N_divisors) (sc := defScope s_divisors) (by decide +kernel)) (fun _ _ _ _ _ => (pg_name (i := 1) sc.nd rfl (Or.inl rfl))) (fun _ _ _ _ _ => (pts_one (pt_cmpR op_eq (pe_op op_mod (pv 0) (pv 1)) pe_int (nomark _)))) (fun _ _ _ _ _ => (pv 1)))
      (pss_cons (ps_setLc (i := 3) (own := [("d", 1)]) (g := gName 1)  (by rfl) sc.nd rfl rfl (sw_true rfl rfl rfl (by decide +kernel)) (pi_reversed (by rfl) B.reversed (pa_cons (pv 2) pa_nil)) (blkOk_by (own := [("d", 1)]) (N := N_divisors) (sc := defScope s_divisors) (by decide +kernel)) (fun _ _ _ _ _ => (pg_name (i := 1) sc.nd rfl (Or.inl rfl))) (fun _ _ _ _ _ => (pts_one (pt_cmpR op_ne (pe_op op_mulW (pv 1) (pv 1)) (pv 0) (nomark _)))) (fun _ _ _ _ _ => (pe_op op_fdivW (pv 0) (pv 1))))
      (pss_one (ps_ret (pe_callTy call_tuple_of (by rfl) B.tuple (by decide +kernel) (pa_cons (pe_op op_cat (pv 2) (pv 3)) pa_nil))))))), ?_⟩
  refine ⟨_, rfl, (n : Int), 1, rfl, by omega, ?_⟩
  have r316 := isqrt_316 hn
  unfold dvs at q
  generalize hr0 : Float64.isqrt n = r at q r316
  have rle : r ≤ n := by rw [← hr0]; exact isqrt_le n
  refine ⟨_, rfl, (n : Int), rfl, by omega, by omega, ?_⟩
  rw [Int.toNat_natCast, hr0]
  refine ⟨_, _, rfl, rfl, 1, (r : Int) + 1, rfl, ⟨by decide, by decide, by omega, by omega⟩, fun D1 hD1 => ?_⟩
  rw [show ((r : Int) + 1 - 1).toNat = r by omega]
  refine lc_range (fun i H' => Same H H' ∧ H' D1 = some (.lst (((List.range i).filter fun i => decide (n % (i + 1) = 0)).map fun i : Nat => V.int ((i + 1 : Nat) : Int)))) ⟨Same.upd_new hD1, upd_same⟩ ?_ ?_
  · rintro i H2 hi ⟨s2, h2⟩
    have ei : (1 : Int) + (i : Int) = ((i + 1 : Nat) : Int) := by omega
    dsimp only [gName]
    rw [ei]
    refine ⟨rfl, _, rfl, _, rfl, _, _, rfl, rfl, (by omega : (0 : Int) < ((i + 1 : Nat) : Int)), rfl, _, rfl, ifI (fun e => ?_) fun e => ?_⟩
    · have e' : n % (i + 1) = 0 := Int.ofNat.inj e
      refine ⟨_, rfl, _, h2, ?_, fun b o e => ?_, ?_⟩
      · rw [List.length_map]
        exact Nat.lt_of_le_of_lt (Nat.le_trans (filter_len _ _) (by omega : i ≤ 400)) (by decide)
      · rw [upd_ne (ne_of_none e hD1)]
        exact s2 _ _ e
      · rw [upd_same, filter_succ, if_pos (decide_eq_true e'), List.map_append]
        rfl
    · have e' : ¬ n % (i + 1) = 0 := fun z => e (congrArg Int.ofNat z)
      refine ⟨s2, ?_⟩
      rw [h2, filter_succ, if_neg (by rw [decide_eq_false e']; decide), List.append_nil]
  rintro H2 ⟨s2, h2⟩
  have h2' : H2 D1 = some (.lst ((lowL n r).map fun d : Nat => V.int (d : Int))) := by rw [h2]; unfold lowL; rw [List.map_map]; rfl
  have llow : (lowL n r).length ≤ 400 := Nat.le_trans (lowL_len n r) (by omega)
  have lowm : ∀ d ∈ lowL n r, 1 ≤ d ∧ d ≤ 400 := fun d hd => by
    have := lowL_mem hd
    omega
  have hdP : divP n r = lowL n r ++ (((lowL n r).reverse.filter fun d => decide (d * d ≠ n)).map fun d => n / d) := rfl
  rw [hdP] at q
  generalize lowL n r = low at h2' llow lowm q
  dsimp only [gName]
  refine ⟨_, rfl, D1, _, rfl, SqL.of h2', fun D2 hD2 => ?_⟩
  refine lc_it (walk_rev (xs := low.map fun d : Nat => V.int (d : Int))) (fun i H' => Same H2 H' ∧ H' D2 = some (.lst (((low.reverse.take i).filter fun d => decide (d * d ≠ n)).map fun d : Nat => V.int ((n / d : Nat) : Int)))) ⟨Same.upd_new hD2, upd_same⟩ (fun i H' _ ⟨s3, _⟩ => SqL.of (s3 _ _ h2')) ?_ ?_
  · rintro i x H3 _ hi ⟨s3, h3⟩ ⟨rfl, hx⟩
    rw [List.length_map] at hi hx
    obtain ⟨z, hz, rfl⟩ : ∃ z, low.reverse[i]? = some z ∧ x = V.int (z : Int) := by
      rw [List.getElem?_reverse hi]
      rw [List.getElem?_map] at hx
      cases e : low[low.length - 1 - i]? with
      | none => rw [e] at hx; cases hx
      | some z => rw [e] at hx; exact ⟨z, rfl, (Option.some.inj hx).symm⟩
    have hzm := lowm z (List.mem_reverse.mp (List.mem_of_getElem? hz))
    have htk : low.reverse.take (i + 1) = low.reverse.take i ++ [z] := by rw [List.take_add_one, hz]; rfl
    have hmul : (z : Int) * (z : Int) = ((z * z : Nat) : Int) := (Int.natCast_mul z z).symm
    have zb : ((z : Nat) : Int).natAbs < 2 ^ 8000 := by rw [Int.natAbs_natCast]; exact Nat.lt_of_le_of_lt hzm.2 (by decide)
    refine ⟨rfl, _, rfl, _, rfl, _, _, rfl, rfl, mul8 zb zb, _, rfl, rfl, _, rfl, ifNI (fun e => ?_) fun e => ?_⟩
    · have e' : z * z ≠ n := fun k => e (hmul.trans (congrArg Nat.cast k))
      refine ⟨_, rfl, _, rfl, _, _, rfl, rfl, cdivN (by omega) (by omega), _, h3, ?_, fun b o e => ?_, ?_⟩
      · rw [List.length_map]
        exact Nat.lt_of_le_of_lt (Nat.le_trans (List.length_filter_le _ _) (by rw [List.length_take]; omega : _ ≤ 400)) (by decide)
      · rw [upd_ne (ne_of_none e hD2)]
        exact s3 _ _ e
      · rw [upd_same, htk, List.filter_append, show [z].filter (fun d => decide (d * d ≠ n)) = [z] by simp [e'], List.map_append]
        rfl
    · have e' : z * z = n := Int.ofNat.inj (hmul.symm.trans e)
      refine ⟨s3, ?_⟩
      rw [h3, htk, List.filter_append, show [z].filter (fun d => decide (d * d ≠ n)) = [] by simp [e'], List.append_nil]
  · rintro H3 ⟨s3, h3⟩
    rw [List.length_map, ← List.length_reverse, List.take_length] at h3
    have s03 := s2.trans s3
    dsimp only [gName]
    have lh : ((low.reverse.filter fun d => decide (d * d ≠ n)).map fun d : Nat => V.int ((n / d : Nat) : Int)).length ≤ 400 := by
      rw [List.length_map]
      exact Nat.le_trans (List.length_filter_le _ _) (by rw [List.length_reverse]; exact llow)
    refine ⟨_, rfl, _, rfl, D1, D2, _, _, rfl, rfl, s3 _ _ h2', h3, ?_, fun p hp => ?_⟩
    · rw [List.length_map]
      exact Nat.le_trans (Nat.add_le_add llow lh) (by decide)
    refine ⟨p, _, rfl, .inl ⟨SqL.of upd_same, fun l hl => ?_⟩⟩
    refine q _ _ (s03.trans ((Same.upd_new hp).trans (Same.upd_new hl))) ?_
    rw [upd_same, List.map_append, List.map_map]
    rfl
theorem fn_dsum {f : Addr} {fd : FuncData} (F : Fun K "divisor_sum" "divisor_sum" s_divisor_sum f fd) (c_check_from : Cal P w K mg base 3 "check_from" sp_checkFrom) (c_check_sign : Cal P w K mg base 4 "check_sign" sp_check_sign) (c_divisors : Cal P w K mg base 4 "divisors" sp_divisors) (c_value_at : Cal P w K mg base 2 "value_at" sp_value_at) (c_raised : Cal P w K mg base 1 "raised" sp_raised) : FnOk P w K mg base CX0 5 f fd ["n", "k", "one", "other"] sp_dsum := by
  have sc := sc_divisor_sum
  refine F.ok sc (fun _ _ _ _ ⟨_, _, _, _, e, _⟩ => by rw [e]; rfl) (fun cdv A outer s H vs Q E hr h => ?_)
  obtain ⟨n, k, x, y, rfl, n1, n5, k24, hx, hy, q⟩ := h
  refine ⟨_, (pss_cons (ps_expr (pe_c c_check_from hr (by decide) (by rfl) (pa_cons (pv 0) (pa_cons pe_int pa_nil))))
      (pss_cons (ps_expr (pe_c c_check_from hr (by decide) (by rfl) (pa_cons (pv 1) (pa_cons pe_int pa_nil))))
      (pss_cons (ps_expr (pe_c c_check_sign hr (by decide) (by rfl) (pa_cons (pv 2) pa_nil)))
      (pss_cons (ps_expr (pe_c c_check_sign hr (by decide) (by rfl) (pa_cons (pv 3) pa_nil)))
      (pss_cons (ps_set (i := 4) sc.nd rfl (Or.inl rfl) pe_int)
      (pss_cons (ps_for PassesOwn.never rfl (pi_tup (pe_c c_divisors hr (by decide) (by rfl) (pa_cons (pv 0) pa_nil))) (pg_name (i := 5) sc.nd rfl (Or.inl rfl))
      (pss_one (ps_aug (i := 4) sc.nd rfl (Or.inl rfl) (pe_op op_mulW (pe_op op_mulW (pe_c c_value_at hr (by decide) (by rfl) (pa_cons (pv 2) (pa_cons (pe_op op_fdivW (pv 0) (pv 5)) pa_nil))) (pe_c c_value_at hr (by decide) (by rfl) (pa_cons (pv 3) (pa_cons (pv 5) pa_nil)))) (pe_c c_raised hr (by decide) (by rfl) (pa_cons (pv 5) (pa_cons (pv 1) pa_nil)))) ip_add)))
      (pss_one (ps_ret (pv 4))))))))), ?_⟩
  have x0 := (isSign_le hx).2.1
  have y0 := (isSign_le hy).2.1
  refine ⟨_, rfl, (n : Int), 1, rfl, by omega, ?_⟩
  refine ⟨_, rfl, (k : Int), 0, rfl, by omega, ?_⟩
  refine ⟨_, rfl, x, rfl, hx, ?_⟩
  refine ⟨_, rfl, y, rfl, hy, ?_⟩
  refine ⟨_, rfl, n, rfl, n1, n5, fun H1 p s1 hp => ?_⟩
  have hmem : ∀ d ∈ dvs n, 1 ≤ d ∧ d ≤ n := fun d hd => dvs_mem n1 hd
  have hs : ((dvs n).map (dsT k x y n)).sum = dsF k x y n := rfl
  generalize dvs n = ds at hp hmem hs
  refine ⟨p, rfl, ⟨_, SqT.of hp⟩, for_it (walk_tup (K := K) (xs := ds.map fun d : Nat => V.int (d : Int))) (fun i σ H' => H1 = H' ∧ ∃ o5 : Option V, σ = [some (.int (n : Int)), some (.int (k : Int)), some (.int x), some (.int y), some (.int ((ds.take i).map (dsT k x y n)).sum), o5]) ⟨rfl, none, rfl⟩ (fun i σ H' _ ⟨z, _⟩ => by rw [← z]; exact SqT.of hp) ?_ ?_⟩
  · rintro i v σ _ _ hi ⟨rfl, o5, rfl⟩ ⟨rfl, hv⟩
    obtain ⟨d, hd, rfl⟩ : ∃ d, ds[i]? = some d ∧ v = V.int (d : Int) := by
      rw [List.getElem?_map] at hv
      cases e : ds[i]? with
      | none => rw [e] at hv; cases hv
      | some z => rw [e] at hv; exact ⟨z, rfl, (Option.some.inj hv).symm⟩
    obtain ⟨d1, d2⟩ := hmem d (List.mem_of_getElem? hd)
    have htk : ds.take (i + 1) = ds.take i ++ [d] := by rw [List.take_add_one, hd]; rfl
    have hsm : ((ds.take (i + 1)).map (dsT k x y n)).sum = ((ds.take i).map (dsT k x y n)).sum + dsT k x y n d := by rw [htk, List.map_append, List.sum_append]; simp
    have dk0 := pow_100k (show d ≤ 100000 by omega) k24
    have dk : d ^ k < 2 ^ 4000 := Nat.lt_of_le_of_lt dk0 (Nat.pow_lt_pow_right (by decide) (by decide))
    dsimp only [gName]
    have en : (n : Int) / (d : Int) = ((n / d : Nat) : Int) := (Int.natCast_ediv n d).symm
    have m1 : CMulW (valueAt x ((n / d : Nat) : Int)) (valueAt y (d : Int)) := mul8 (Nat.lt_of_le_of_lt (val_le _ _) (by decide)) (Nat.lt_of_le_of_lt (val_le _ _) (by decide))
    refine ⟨_, rfl, _, rfl, _, rfl, _, rfl, _, _, rfl, rfl, cdivN (by omega) (by omega), x, _, rfl, x0, ?_⟩
    dsimp only
    rw [en]
    refine ⟨_, rfl, _, rfl, y, _, rfl, y0, _, _, rfl, rfl, m1, ?_⟩
    refine ⟨_, rfl, _, rfl, d, k, rfl, d1, dk, _, _, rfl, rfl, ?_, _, _, rfl, rfl, ?_⟩
    · exact mul8 (Nat.lt_of_le_of_lt (one_mul_le (val_le _ _) (val_le _ _)) (by decide)) (by rw [Int.natAbs_natCast]; exact Nat.lt_trans dk (Nat.pow_lt_pow_right (by decide) (by decide)))
    · exact ⟨rfl, some (.int (d : Int)), by rw [hsm]; rfl⟩
  · rintro σ _ ⟨rfl, o5, rfl⟩
    rw [List.length_map, List.take_length, hs]
    exact ⟨_, rfl, q _ s1⟩
end
end Ft

set_option exponentiation.threshold 9000
namespace Ft
open PySem L2
/-! ### told rows of pieces are in lowest terms -/
theorem fst_LowT {k : Nat} {x y : Int} {t : Nat} (ok : PcOk k x y t) (ps : PcS x y) : LowT (fstV k x y t) := by
  have k1 := ok.k1
  have k24 := ok.k24
  have z : LowT ((0 : Int), (1 : Int)) := ⟨by decide, by decide⟩
  unfold fstV
  split
  · exact low_LowT (by decide)
  · split
    · split
      · rename_i hy
        obtain ⟨_, _, _, b3⟩ := bnv_ok (k := 1) ok.sx (ps.1 hy) (by decide)
        exact (nprod_val (y := (-1, 2)) b3 (by decide)).1
      · exact z
    · split
      · rename_i hx
        obtain ⟨_, _, _, b3⟩ := bnv_ok (k := k) ok.sy (ps.2 hx) k24
        exact (nprod_val (y := (-1, 2 * (k : Int))) b3 (by show (0 : Int) < 2 * (k : Int); omega)).1
      · exact z
theorem low_id {b : Int} {t : Int} {ts : List Int} (h : Nat.gcd b.natAbs t.natAbs = 1) : lowB b (t :: ts) = b ∧ lowT b (t :: ts) = t :: ts := by
  have e : gcdL b.natAbs (t :: ts) = 1 := by
    show gcdL (Nat.gcd b.natAbs t.natAbs) ts = 1
    rw [h]
    exact gcdL_one ts
  unfold lowB lowT
  rw [e]
  refine ⟨Int.ediv_one _, ?_⟩
  conv => rhs; rw [← List.map_id (t :: ts)]
  exact List.map_congr_left fun x _ => Int.ediv_one x
theorem rowT_low {k : Nat} {x y : Int} {t M : Nat} (ok : PcOk k x y t) (ps : PcS x y) : lowB (fstV k x y t).2 (rowT k x y t M) = (fstV k x y t).2 ∧ lowT (fstV k x y t).2 (rowT k x y t M) = rowT k x y t M := by
  have h := (fst_LowT ok ps).co
  unfold rowT
  exact low_id (by rw [Nat.gcd_comm]; exact h)
/-! ### signs by squares, small -/
theorem sqI_big {d : Int} {z : Int} (hz : z ≠ 0) (h : z.natAbs < (d * d).natAbs) : ∀ f, sqI d f z = z
  | 0 => rfl
  | f + 1 => by
    show (if z % (d * d) = 0 then sqI d f (z / (d * d)) else z) = z
    rw [if_neg]
    intro e
    have := Int.natAbs_dvd_natAbs.mpr (Int.dvd_of_emod_eq_zero e)
    have := Nat.le_of_dvd (by omega) this
    omega
theorem sqA_stop {z : Int} (hz : z ≠ 0) (h : z.natAbs ≤ 400) : ∀ i, sqA z (19 + i) = sqA z 19
  | 0 => rfl
  | i + 1 => by
    show sqI ((2 : Int) + ((19 + i : Nat) : Int)) 20 (sqA z (19 + i)) = _
    rw [sqA_stop hz h i]
    obtain ⟨a, b⟩ := sqA_ok hz 19
    refine sqI_big a ?_ 20
    have e : (2 : Int) + ((19 + i : Nat) : Int) = ((21 + i : Nat) : Int) := by omega
    rw [e, Int.natAbs_mul, Int.natAbs_natCast]
    have : 21 * 21 ≤ (21 + i) * (21 + i) := Nat.mul_le_mul (by omega) (by omega)
    omega
theorem sgn_all : (List.range 801).all (fun i => decide ((i : Int) - 400 = 0) || decide ((if sqA ((i : Int) - 400) 19 % 4 = 1 then sqA ((i : Int) - 400) 19 else 4 * sqA ((i : Int) - 400) 19) = anySign ((i : Int) - 400))) = true := by decide +kernel
theorem lawSgn_eq {z : Int} (hz : z ≠ 0) (h : z.natAbs ≤ 400) : lawSgnOf z = anySign z := by
  have c := List.all_eq_true.mp sgn_all (z + 400).toNat (List.mem_range.mpr (by omega))
  rw [show (((z + 400).toNat : Nat) : Int) - 400 = z by omega, decide_eq_false hz, Bool.false_or] at c
  unfold lawSgnOf
  rw [show 398 = 19 + 379 from rfl, sqA_stop hz h]
  exact of_decide_eq_true c
theorem anySgn_le {z : Int} (hz : z ≠ 0) (h : z.natAbs ≤ 400) : (anySign z).natAbs ≤ 1600 := by
  rw [← lawSgn_eq hz h]
  have := (sqA_ok hz 398).2
  unfold lawSgnOf
  split <;> omega
def sp_sumLevel : Sp := fun vs H Q _ => ∃ v k x y t, vs = [v] ∧ PcAt H v k x y t ∧ PcOk k x y t ∧ x.natAbs ≤ 400 ∧ y.natAbs ≤ 400 ∧ ∀ H', Same H H' → Q (.int (((x * y).natAbs * t : Nat) : Int)) H'
def sp_sumSign : Sp := fun vs H Q _ => ∃ v k x y t, vs = [v] ∧ PcAt H v k x y t ∧ PcOk k x y t ∧ ∀ H', Same H H' → Q (.int (anySign (x * y))) H'
section
variable {P : Program} {w : World} {K : PySem.W.Frag} {mg : Str → Option Value} {base : Heap}
theorem ok_sumLevel (D : Df K mg "sum_level" s_sum_level ["divisor_piece"]) (B : Bi mg) (c_check_divisor_piece : Cal P w K mg base 5 "check_divisor_piece" sp_checkPiece) : Cal P w K mg base 6 "sum_level" sp_sumLevel := by
  obtain ⟨f, fd, F, m, b⟩ := D.ex
  have sc := sc_sum_level
  refine ⟨f, fd, _, F.ok sc (fun _ _ _ _ ⟨_, _, _, _, _, e, _⟩ => by rw [e]; rfl) (fun cdv A outer s H vs Q E hr h => ?_), m, F.kp, b⟩
  obtain ⟨v, k, x, y, t, rfl, hP, ok, x4, y4, q⟩ := h
  refine ⟨_, (pss_cons (ps_expr (pe_c c_check_divisor_piece hr (by decide) (by rfl) (pa_cons (pv 0) pa_nil)))
      (pss_cons (ps_asg (pv 0) (pg_tup rfl (pgs_cons (pg_name (i := 1) sc.nd rfl (Or.inl rfl)) (pgs_cons (pg_name (i := 2) sc.nd rfl (Or.inl rfl)) (pgs_cons (pg_name (i := 3) sc.nd rfl (Or.inl rfl)) (pgs_cons (pg_name (i := 4) sc.nd rfl (Or.inl rfl)) (pgs_cons (pg_name (i := 5) sc.nd rfl (Or.inl rfl)) pgs_nil)))))))
      (pss_one (ps_ret (pe_op op_mulW (pe_callB call_abs (by rfl) B.abs (by decide +kernel) (pa_cons (pe_op op_mulW (pv 3) (pv 4)) pa_nil)) (pv 5)))))), ?_⟩
  refine ⟨_, rfl, v, k, x, y, t, rfl, hP, ok, fun H1 s1 => ?_⟩
  obtain ⟨p, rfl, hp⟩ := hP.same s1
  refine ⟨_, rfl, p, _, rfl, SqT.of hp, rfl, _, _, rfl, _, _, rfl, _, _, rfl, _, _, rfl, _, _, rfl, rfl, ?_⟩
  dsimp only [gName]
  have t4 := ok.t4
  have xyl : (x * y).natAbs ≤ 160000 := by rw [Int.natAbs_mul]; exact Nat.mul_le_mul x4 y4
  refine ⟨_, rfl, _, rfl, _, _, rfl, rfl, mul8 (Nat.lt_of_le_of_lt x4 (by decide)) (Nat.lt_of_le_of_lt y4 (by decide)), _, rfl, ?_⟩
  rw [abs_ifN]
  refine ⟨_, rfl, _, _, rfl, rfl, mul8 (by rw [Int.natAbs_natCast]; exact Nat.lt_of_le_of_lt xyl (by decide)) (by rw [Int.natAbs_natCast]; exact Nat.lt_of_le_of_lt t4 (by decide)), ?_⟩
  have := q H1 s1
  rw [Int.natCast_mul] at this
  exact this
theorem ok_sumSign (D : Df K mg "sum_sign" s_sum_sign ["divisor_piece"]) (c_check_divisor_piece : Cal P w K mg base 5 "check_divisor_piece" sp_checkPiece) (c_joined_sign : Cal P w K mg base 5 "joined_sign" sp_joined_sign) : Cal P w K mg base 6 "sum_sign" sp_sumSign := by
  obtain ⟨f, fd, F, m, b⟩ := D.ex
  have sc := sc_sum_sign
  refine ⟨f, fd, _, F.ok sc (fun _ _ _ _ ⟨_, _, _, _, _, e, _⟩ => by rw [e]; rfl) (fun cdv A outer s H vs Q E hr h => ?_), m, F.kp, b⟩
  obtain ⟨v, k, x, y, t, rfl, hP, ok, q⟩ := h
  refine ⟨_, (pss_cons (ps_expr (pe_c c_check_divisor_piece hr (by decide) (by rfl) (pa_cons (pv 0) pa_nil)))
      (pss_one (ps_ret (pe_c c_joined_sign hr (by decide) (by rfl) (pa_cons (pe_ix (show IxR _ (rIx K) from ix_seq) (pv 0) pe_int (fun _ _ => rfl)) (pa_cons (pe_ix (show IxR _ (rIx K) from ix_seq) (pv 0) pe_int (fun _ _ => rfl)) pa_nil)))))), ?_⟩
  refine ⟨_, rfl, v, k, x, y, t, rfl, hP, ok, fun H1 s1 => ?_⟩
  obtain ⟨p, rfl, hp⟩ := hP.same s1
  refine ⟨_, rfl, .inr (.inl ⟨p, _, 2, _, rfl, rfl, SqT.of hp, atI_nat (j := 2) rfl, ?_⟩)⟩
  refine ⟨_, rfl, .inr (.inl ⟨p, _, 3, _, rfl, rfl, SqT.of hp, atI_nat (j := 3) rfl, ?_⟩)⟩
  exact ⟨x, y, rfl, ⟨ok.sx, ok.sy⟩, q _ s1⟩
end
end Ft

set_option exponentiation.threshold 9000
namespace Ft
open PySem L2
def rowF (k : Nat) (x y : Int) (t n : Nat) : Int := if n = 0 then (fstV k x y t).1 else (fstV k x y t).2 * latV k x y t n
theorem rowT_map {k : Nat} {x y : Int} {t M : Nat} (h : 1 ≤ M) : rowT k x y t M = (List.range M).map (rowF k x y t) := by
  obtain ⟨m, rfl⟩ : ∃ m, M = m + 1 := ⟨M - 1, by omega⟩
  unfold rowT
  rw [List.range_succ_eq_map, List.map_cons, List.map_map]
  congr 1
theorem rowT_getD {k : Nat} {x y : Int} {t M n : Nat} (h : n < M) : (rowT k x y t M).getD n 0 = rowF k x y t n := by
  rw [rowT_map (by omega), List.getD_eq_getElem?_getD, List.getElem?_map, List.getElem?_range h]
  rfl
theorem rowT_lt {k : Nat} {x y : Int} {t M : Nat} (ok : PcOk k x y t) (ps : PcS x y) (M4 : M ≤ 400) : ∀ z ∈ rowT k x y t M, z.natAbs < 2 ^ 1900 := by
  obtain ⟨f1, f2, f3⟩ := fst_le ok ps
  intro z hz
  unfold rowT at hz
  rcases List.mem_cons.mp hz with rfl | hz
  · exact Nat.lt_trans f1 (Nat.pow_lt_pow_right (by decide) (by decide))
  · obtain ⟨i, hi, rfl⟩ := List.mem_map.mp hz
    have hi := List.mem_range.mp hi
    have l := latV_le (n := i + 1) ok (by omega)
    rw [Int.natAbs_mul]
    have := Nat.mul_lt_mul_of_lt_of_le f2 (Nat.le_of_lt l) (Nat.two_pow_pos 600)
    rwa [← Nat.pow_add] at this
theorem up19 {z : Int} (h : z.natAbs < 2 ^ 1900) : z.natAbs < 2 ^ 2000 := Nat.lt_trans h (Nat.pow_lt_pow_right (by decide) (by decide))
theorem up13 {z : Int} (h : z.natAbs < 2 ^ 1300) : z.natAbs < 2 ^ 1900 := Nat.lt_trans h (Nat.pow_lt_pow_right (by decide) (by decide))
theorem up8 {z : Int} (h : z.natAbs < 2 ^ 1900) : z.natAbs < 2 ^ 8000 := Nat.lt_trans h (Nat.pow_lt_pow_right (by decide) (by decide))
theorem rowT_ok {k : Nat} {x y : Int} {t M : Nat} (ok : PcOk k x y t) (ps : PcS x y) (M1 : 1 ≤ M) (M4 : M ≤ 400) : BgOk (fstV k x y t).2 (rowT k x y t M) := by
  obtain ⟨f1, f2, f3⟩ := fst_le ok ps
  exact ⟨by omega, by rw [rowT_len M1]; exact M1, by rw [rowT_len M1]; exact M4⟩
theorem rowT_take {k : Nat} {x y : Int} {t M L : Nat} (h1 : 1 ≤ L) (h2 : L ≤ M) : (rowT k x y t M).take L = rowT k x y t L := by
  rw [rowT_map (by omega), rowT_map h1, ← List.map_take, List.take_range, Nat.min_eq_left h2]
def idV : List V → List V → List V := fun us zs => match us with
  | [] => zs
  | _ => []
def idU : List Value → List Value → List Value := fun us zs => match us with
  | [] => zs
  | _ => []
theorem id_rel : ∀ {vs : List V} {us : List Value} {zs : List V} {ws : List Value}, Vals vs us → Vals zs ws → Vals (idV vs zs) (idU us ws)
  | _, _, _, _, .nil, h => h
  | _, _, _, _, .cons _ _, _ => .nil
theorem cut_take (xs : List V) (k : Nat) : cutV xs none (some (k : Int)) = xs.take k := by
  unfold cutV
  rw [HT.sIx_none, HT.sIx_nat, List.drop_zero, Nat.sub_zero]
  rcases Nat.le_total k xs.length with h | h
  · rw [Nat.min_eq_left h]
  · rw [Nat.min_eq_right h, List.take_of_length_le (Nat.le_refl _), List.take_of_length_le h]
theorem slA_all {K : PySem.W.Frag} {H : Hp} {r : Addr} {ts : List Int} {M : Nat} {W : VK} (h : H r = some (.tup (ts.map V.int))) (m : ∀ H1 q, Same H H1 → H1 q = some (.tup ((ts.take M).map V.int)) → W (.ref q) H1) : rSlA K (.ref r) none (some (M : Int)) H W := by
  refine ⟨r, _, rfl, SqT.of h, fun e => m H r (Same.refl H) ?_, fun _ p hp => m _ p (Same.upd_new hp) ?_⟩
  · have e2 := e.2
    rw [HT.sIx_nat, List.length_map] at e2
    rw [h, List.take_of_length_le (by omega)]
  · rw [upd_same, cut_take, ← List.map_take]
def frD (x : Fq) : PyData := .tuple [.int x.1, .int x.2]
theorem dp_fr {K : PySem.W.Frag} {H : Hp} {v : V} {x : Fq} (h : Fr H v x) : Dp K H v (frD x) := by
  obtain ⟨t, rfl, ht⟩ := h
  exact .tup (SqT.of ht) (.cons (.int _) (.cons (.int _) .nil))
theorem rs_fr {x : Fq} {k : Nat} (h1 : x.1.natAbs < 2 ^ 1900) (h2 : x.2.natAbs < 2 ^ 1900) : Rs (k + 1) 9 (frD x) := (Rs.tup (RsL.cons (rs_int (m := 0) h1) (RsL.cons (rs_int (m := 0) h2) .nil))).mono (Nat.le_refl _) (by omega)
def rAbs : List V → Hp → VK → Prop := fun xs H Q => ∃ i, xs = [.int i] ∧ Q (.int (if i < 0 then -i else i)) H
end Ft

set_option exponentiation.threshold 9000
namespace Ft
open PySem L2
def sp_pieceTold : Sp := fun vs H Q _ => ∃ (d l : Addr) (v : V) (k : Nat) (x y : Int) (t : Nat), vs = [.ref d, v] ∧ DeckAt H d l ∧ PcAt H v k x y t ∧ PcOk k x y t ∧ x ∈ S24 ∧ y ∈ S24 ∧ ∀ H', DeckAt H' d l → Q (.bl true) H'
theorem PcAt.but {H H' : Hp} {v : V} {k : Nat} {x y : Int} {t : Nat} {d l : Addr} (D : DeckAt H d l) (h : PcAt H v k x y t) (b : But d l H H') : PcAt H' v k x y t := by
  obtain ⟨p, e, hp⟩ := h
  exact ⟨p, e, b _ _ hp (D.offd hp) (D.offl hp)⟩
theorem Bg.but {H H' : Hp} {v : V} {b : Int} {ts : List Int} {d l : Addr} (D : DeckAt H d l) (h : Bg H v b ts) (z : But d l H H') : Bg H' v b ts := by
  obtain ⟨p, q, e, h1, h2⟩ := h
  exact ⟨p, q, e, z _ _ h1 (D.offd h1) (D.offl h1), z _ _ h2 (D.offd h2) (D.offl h2)⟩
theorem neS {z : V} {A B : Prop} (h : B) : if (!decide (z = z)) = true then A else B := by rw [decide_eq_true rfl]; exact iteF h
section
variable {P : Program} {w : World} {K : PySem.W.Frag} {mg : Str → Option Value} {base : Heap}
set_option maxHeartbeats 0 in
theorem fn_pieceTold {f : Addr} {fd : FuncData} (F : Fun K "_law_is_piece_told" "_law_is_piece_told" s__law_is_piece_told f fd) (B : Bi mg) (c__law_draw : Cal P w K mg base 1 "_law_draw" sp_draw) (c__law_sum_terms : Cal P w K mg base 7 "_law_sum_terms" sp_lsumTerms) (c_sum_terms : Cal P w K mg base 8 "sum_terms" sp_sumTerms) (k_sum_terms : CalK P w K mg base 8 "sum_terms" ["many", "divisor_piece"] swapV sp_sumTerms) (c_is_divisor_piece : Cal P w K mg base 4 "is_divisor_piece" sp_isPiece) (k_sum_first : CalK P w K mg base 6 "sum_first" ["divisor_piece"] idV sp_sumFirst) (c__law_sum_first : Cal P w K mg base 6 "_law_sum_first" sp_sumFirst) (c_sum_level : Cal P w K mg base 6 "sum_level" sp_sumLevel) (c_sum_sign : Cal P w K mg base 6 "sum_sign" sp_sumSign) (c__law_sign_of : Cal P w K mg base 1 "_law_sign_of" sp_sgnOf) (c_divisor_sum : Cal P w K mg base 5 "divisor_sum" sp_dsum) (c_term_at : Cal P w K mg base 5 "term_at" sp_termAt) : FnG P w K mg base 9 f fd ["_law_deck_here", "_law_piece"] sp_pieceTold := by
  have sc := sc__law_is_piece_told
  refine fun_g F sc (fun _ _ _ _ ⟨_, _, _, _, _, _, _, e, _⟩ => by rw [e]; rfl) (fun cdv A outer s H vs Q E hgd hr h => ?_)
  obtain ⟨d, l, v, k, x, y, t, rfl, D0, hP0, ok, hx, hy, q⟩ := h
  have h64 : (A.deeper (PyProof.Rows.envOfC "_law_is_piece_told" (defScope s__law_is_piece_told) s.heap.objs.size f cdv)).units + 64 < cLine := by have := hr.un; omega
  refine ⟨_, (pss_cons (ps_asg (pv 1) (pg_tup rfl (pgs_cons (pg_name (i := 2) sc.nd rfl (Or.inl rfl)) (pgs_cons (pg_name (i := 3) sc.nd rfl (Or.inl rfl)) (pgs_cons (pg_name (i := 4) sc.nd rfl (Or.inl rfl)) (pgs_cons (pg_name (i := 5) sc.nd rfl (Or.inl rfl)) (pgs_cons (pg_name (i := 6) sc.nd rfl (Or.inl rfl)) pgs_nil)))))))
      (pss_cons (ps_set (i := 7) sc.nd rfl (Or.inl rfl) (pe_op op_add pe_int (pe_c c__law_draw hr (by decide) (by rfl) (pa_cons (pv 0) (pa_cons (pe_ifExp (pt_cmpR op_eq (pe_c c__law_draw hr (by decide) (by rfl) (pa_cons (pv 0) (pa_cons pe_int pa_nil))) pe_int (nomark _)) pe_int pe_int) pa_nil)))))
      (pss_cons (ps_set (i := 8) sc.nd rfl (Or.inl rfl) (pe_c c__law_sum_terms hr (by decide) (by rfl) (pa_cons (pv 1) (pa_cons (pv 7) pa_nil))))
      (pss_cons (ps_set (i := 9) sc.nd rfl (Or.inl rfl) (pe_ifExp (pt_cmpR op_eq (pe_c c__law_draw hr (by decide) (by rfl) (pa_cons (pv 0) (pa_cons pe_int pa_nil))) pe_int (nomark _)) (pe_c c_sum_terms hr (by decide) (by rfl) (pa_cons (pv 1) (pa_cons (pv 7) pa_nil))) (pe_k0 k_sum_terms hr (by decide) (by rfl) (pk_cons (pv 7) (pk_cons (pv 1) pk_nil)))))
      (pss_cons (ps_if (PW.pt (pw_or (pt_cmpR op_ne (pe_callB (call_repr hgd hr) (by rfl) B.repr (by decide +kernel) (pa_cons (pv 9) pa_nil)) (pe_callB (call_repr hgd hr) (by rfl) B.repr (by decide +kernel) (pa_cons (pv 8) pa_nil)) (nomark _)) (pw_or1 (pt_cmpR op_notBl (pe_c c_is_divisor_piece hr (by decide) (by rfl) (pa_cons (pv 1) pa_nil)) pe_bl (nomark _)))))
      (pss_one (ps_ret pe_bl))
      pss_nil)
      (pss_cons (ps_set (i := 10) sc.nd rfl (Or.inl rfl) (pe_op op_add pe_int (pe_c c__law_draw hr (by decide) (by rfl) (pa_cons (pv 0) (pa_cons (pv 7) pa_nil)))))
      (pss_cons (ps_if (pt_cmpR op_ne (pe_callB (call_repr hgd hr) (by rfl) B.repr (by decide +kernel) (pa_cons (pe_c c_sum_terms hr (by decide) (by rfl) (pa_cons (pv 1) (pa_cons (pv 10) pa_nil))) pa_nil)) (pe_callB (call_repr hgd hr) (by rfl) B.repr (by decide +kernel) (pa_cons (pe_tup (pa_cons (pe_ix (show IxR _ (rIx K) from ix_seq) (pv 8) pe_int (fun _ _ => rfl)) (pa_cons (pe_slice sl_tupA (pe_ix (show IxR _ (rIx K) from ix_seq) (pv 8) pe_int (fun _ _ => rfl)) po_none (po_some (pv 10))) pa_nil))) pa_nil)) (nomark _))
      (pss_one (ps_ret pe_bl))
      pss_nil)
      (pss_cons (ps_if (pt_cmpR op_ne (pe_callB (call_repr hgd hr) (by rfl) B.repr (by decide +kernel) (pa_cons (pe_k0 k_sum_first hr (by decide) (by rfl) (pk_cons (pv 1) pk_nil)) pa_nil)) (pe_callB (call_repr hgd hr) (by rfl) B.repr (by decide +kernel) (pa_cons (pe_c c__law_sum_first hr (by decide) (by rfl) (pa_cons (pv 1) pa_nil)) pa_nil)) (nomark _))
      (pss_one (ps_ret pe_bl))
      pss_nil)
      (pss_cons (ps_if (PW.pt (pw_or (pt_cmpR op_ne (pe_callB SkE.call_repr_int (by rfl) B.repr (by decide +kernel) (pa_cons (pe_c c_sum_level hr (by decide) (by rfl) (pa_cons (pv 1) pa_nil)) pa_nil)) (pe_callB SkE.call_repr_int (by rfl) B.repr (by decide +kernel) (pa_cons (pe_op op_mulW (pe_callB call_abs (by rfl) B.abs (by decide +kernel) (pa_cons (pe_op op_mulW (pv 4) (pv 5)) pa_nil)) (pv 6)) pa_nil)) (nomark _)) (pw_or1 (pt_cmpR op_ne (pe_callB SkE.call_repr_int (by rfl) B.repr (by decide +kernel) (pa_cons (pe_c c_sum_sign hr (by decide) (by rfl) (pa_cons (pv 1) pa_nil)) pa_nil)) (pe_callB SkE.call_repr_int (by rfl) B.repr (by decide +kernel) (pa_cons (pe_c c__law_sign_of hr (by decide) (by rfl) (pa_cons (pe_op op_mulW (pv 4) (pv 5)) pa_nil)) pa_nil)) (nomark _)))))
      (pss_one (ps_ret pe_bl))
      pss_nil)
      (pss_cons (ps_if (PW.pt (pw_or (pt_cmpR op_le (pv 7) (pv 6) (nomark _)) (pw_or1 (pt_cmpR (op_eqD h64) (pe_tup (pa_cons (pv 3) (pa_cons (pv 4) (pa_cons (pv 5) pa_nil)))) (pe_tup (pa_cons pe_int (pa_cons pe_int (pa_cons pe_int pa_nil)))) (nomark _)))))
      (pss_one (ps_ret pe_bl))
      pss_nil)
      (pss_cons (ps_set (i := 11) sc.nd rfl (Or.inl rfl) (pe_op op_add pe_int (pe_c c__law_draw hr (by decide) (by rfl) (pa_cons (pv 0) (pa_cons (pe_op op_fdivW (pe_op op_sub (pv 7) pe_int) (pv 6)) pa_nil)))))
      (pss_cons (ps_set (i := 12) sc.nd rfl (Or.inl rfl) (pe_c c_divisor_sum hr (by decide) (by rfl) (pa_cons (pv 11) (pa_cons (pe_op op_sub (pv 3) pe_int) (pa_cons (pv 4) (pa_cons (pv 5) pa_nil))))))
      (pss_cons (ps_if (PW.pt (pw_or (pt_cmpR op_gt (pv 7) pe_int (nomark _)) (pw_or1 (pt_cmpR op_ge (pe_callB (cr_max rfl) (by rfl) B.max_ (by decide +kernel) (pa_cons (pe_lc (own := [("_law_x", 13)]) (g := gName 13) (tt := tYes) (by rfl) sc.nd (pi_tup (pe_ix (show IxR _ (rIx K) from ix_seq) (pv 8) pe_int (fun _ _ => rfl))) (blkOk_by (own := [("_law_x", 13)]) (N := N__law_is_piece_told) (sc := defScope s__law_is_piece_told) (by decide +kernel)) (fun _ _ _ _ _ => (pg_name (i := 13) sc.nd rfl (Or.inl rfl))) (fun _ _ _ _ _ => pts_nil) (fun _ _ _ _ _ => (pe_callB (id := "abs") (r := rAbs) call_abs (by rfl) B.abs (by decide +kernel) (pa_cons (pv 13) pa_nil)))) pa_nil)) (pe_op op_pow pe_int pe_int) (nomark _)))))
      (pss_one (ps_ret (pe_cmpR op_eq (pe_op op_mulW (pv 12) (pe_ix (show IxR _ (rIx K) from ix_seq) (pv 8) pe_int (fun _ _ => rfl))) (pe_ix (show IxR _ (rIx K) from ix_seq) (pe_ix (show IxR _ (rIx K) from ix_seq) (pv 8) pe_int (fun _ _ => rfl)) (pe_op op_mulW (pv 11) (pv 6)) (fun _ _ => rfl)) (nomark _))))
      pss_nil)
      (pss_one (ps_ret (pe_and (pe_cmpR op_eq (pe_op op_mulW (pv 12) (pe_ix (show IxR _ (rIx K) from ix_seq) (pv 8) pe_int (fun _ _ => rfl))) (pe_ix (show IxR _ (rIx K) from ix_seq) (pe_ix (show IxR _ (rIx K) from ix_seq) (pv 8) pe_int (fun _ _ => rfl)) (pe_op op_mulW (pv 11) (pv 6)) (fun _ _ => rfl)) (nomark _)) (pe_one (pe_cmpR op_eq (pe_callB (call_repr hgd hr) (by rfl) B.repr (by decide +kernel) (pa_cons (pe_c c_term_at hr (by decide) (by rfl) (pa_cons (pv 9) (pa_cons (pe_op op_mulW (pv 11) (pv 6)) pa_nil))) pa_nil)) (pe_callB (call_repr hgd hr) (by rfl) B.repr (by decide +kernel) (pa_cons (pe_tup (pa_cons (pv 12) (pa_cons pe_int pa_nil))) pa_nil)) (nomark _))))))))))))))))))), ?_⟩
  have k1 := ok.k1
  have k24 := ok.k24
  have t1 := ok.t1
  have t4 := ok.t4
  obtain ⟨sx, x31, x0⟩ := S24_sign x hx
  obtain ⟨sy, y31, y0⟩ := S24_sign y hy
  have ps : PcS x y := ⟨fun _ => by omega, fun _ => by omega⟩
  have x64 : x.natAbs ≤ 64 := by omega
  have y64 : y.natAbs ≤ 64 := by omega
  obtain ⟨p, rfl, hp⟩ := id hP0
  refine ⟨_, rfl, p, _, rfl, SqT.of hp, rfl, _, _, rfl, _, _, rfl, _, _, rfl, _, _, rfl, _, _, rfl, rfl, ?_⟩
  clear hp
  dsimp only [gName]
  refine tSeq_join (fun σ H' => DeckAt H' d l ∧ PcAt H' (.ref p) k x y t ∧ ∃ M : Nat, 1 ≤ M ∧ M ≤ 200 ∧ σ = [some (.ref d), some (.ref p), some (.str (Str.ofString "sum")), some (.int (k : Int)), some (.int x), some (.int y), some (.int (t : Int)), some (.int (M : Int)), none, none, none, none, none, none]) (fun N hN => ?_) ?_
  · have fin : ∀ {H1 H2 : Hp} {r : Int}, DeckAt H1 d l → PcAt H1 (.ref p) k x y t → DeckAt H2 d l → But d l H1 H2 → 0 ≤ r → r < 200 → N [some (.ref d), some (.ref p), some (.str (Str.ofString "sum")), some (.int (k : Int)), some (.int x), some (.int y), some (.int (t : Int)), some (.int (1 + r)), none, none, none, none, none, none] H2 := fun {H1 H2 r} D1 P1 D2 b2 r0 r1 => by
      refine hN _ _ ⟨D2, P1.but D1 b2, (1 + r).toNat, by omega, by omega, ?_⟩
      rw [show (((1 + r).toNat : Nat) : Int) = 1 + r by omega]
    refine ⟨_, rfl, _, rfl, d, l, 16, rfl, D0, by decide, by decide, fun H1 r D1 b1 r0 r1 => ⟨rfl, _, rfl, ifI (fun e => ?_) fun e => ?_⟩⟩
    · exact ⟨d, l, 200, rfl, D1, by decide, by decide, fun H2 r D2 b2 r0 r1 => ⟨_, _, rfl, rfl, fin D1 (hP0.but D0 b1) D2 b2 r0 r1⟩⟩
    · exact ⟨d, l, 40, rfl, D1, by decide, by decide, fun H2 r D2 b2 r0 r1 => ⟨_, _, rfl, rfl, fin D1 (hP0.but D0 b1) D2 b2 r0 (by omega)⟩⟩
  clear D0 hP0
  rintro _ H1 ⟨D1, P1, M, M1, M200, rfl⟩
  have M4 : M ≤ 400 := by omega
  refine ⟨_, rfl, _, rfl, _, k, x, y, t, M, rfl, P1, ok, x64, y64, M1, M4, fun H2 u s2 g2 => ?_⟩
  have D2 := D1.same s2
  have P2 := P1.same s2
  clear D1 P1 s2
  dsimp only [gName]
  have rl := rowT_low (M := M) ok ps
  refine tSeq_join (fun σ H' => DeckAt H' d l ∧ PcAt H' (.ref p) k x y t ∧ Bg H' u (fstV k x y t).2 (rowT k x y t M) ∧ ∃ u2, Bg H' u2 (fstV k x y t).2 (rowT k x y t M) ∧ σ = [some (.ref d), some (.ref p), some (.str (Str.ofString "sum")), some (.int (k : Int)), some (.int x), some (.int y), some (.int (t : Int)), some (.int (M : Int)), some u, some u2, none, none, none, none]) (fun N hN => ?_) ?_
  · refine ⟨_, rfl, d, l, 2, rfl, D2, by decide, by decide, fun H3 r D3 b3 r0 r1 => ⟨rfl, _, rfl, ifI (fun e => ?_) fun e => ?_⟩⟩
    · refine ⟨_, rfl, _, rfl, _, k, x, y, t, M, rfl, P2.but D2 b3, ok, ps, M1, M4, fun H4 u4 s4 g4 => ?_⟩
      rw [rl.1, rl.2] at g4
      exact hN _ _ ⟨D3.same s4, (P2.but D2 b3).same s4, (g2.but D2 b3).same s4, u4, g4, rfl⟩
    · refine ⟨_, rfl, _, rfl, _, k, x, y, t, M, rfl, P2.but D2 b3, ok, ps, M1, M4, fun H4 u4 s4 g4 => ?_⟩
      rw [rl.1, rl.2] at g4
      exact hN _ _ ⟨D3.same s4, (P2.but D2 b3).same s4, (g2.but D2 b3).same s4, u4, g4, rfl⟩
  clear D2 P2 g2
  rintro _ H1 ⟨D1, P1, gd, u2, gt, rfl⟩
  obtain ⟨F1, hF1⟩ : ∃ z, z = rowT k x y t M := ⟨_, rfl⟩
  have f2 := fst_le ok ps
  have ltT := fun (M : Nat) (h : M ≤ 400) => rowT_lt (M := M) ok ps h
  have F19 : (fstV k x y t).2.natAbs < 2 ^ 1900 := Nat.lt_trans f2.2.1 (Nat.pow_lt_pow_right (by decide) (by decide))
  refine tSeq_join (fun σ H' => Same H1 H' ∧ σ = [some (.ref d), some (.ref p), some (.str (Str.ofString "sum")), some (.int (k : Int)), some (.int x), some (.int y), some (.int (t : Int)), some (.int (M : Int)), some u, some u2, none, none, none, none]) (fun N hN => ?_) ?_
  · refine ⟨_, rfl, ?_⟩
    dsimp only [tNil, tCons, tC, List.cons_append, List.nil_append]
    refine rep_big gt F19 (ltT M M4) (by rw [rowT_len M1]; exact M4) fun z1 ez1 => ?_
    refine ⟨_, rfl, ?_⟩
    dsimp only [tNil, tCons, tC, List.cons_append, List.nil_append]
    refine rep_big gd F19 (ltT M M4) (by rw [rowT_len M1]; exact M4) fun z2 ez2 => ?_
    obtain rfl : z2 = z1 := ez2.trans ez1.symm
    clear ez1 ez2
    refine ⟨rfl, ?_⟩
    refine ⟨_, rfl, neS ?_⟩
    refine ⟨_, rfl, .ref p, k, x, y, t, rfl, P1, ok, fun H2 s2 => ?_⟩
    refine ⟨true, true, rfl, rfl, ?_⟩
    exact ⟨_, rfl, iteF (hN _ _ ⟨s2, rfl⟩)⟩
  rintro _ H2 ⟨s2, rfl⟩
  have D2 := D1.same s2
  have P2 := P1.same s2
  have gd2 := gd.same s2
  have gt2 := gt.same s2
  clear D1 P1 gd gt s2
  -- a front
  refine ⟨_, rfl, _, rfl, d, l, (M : Int), rfl, D2, by omega, by omega, fun H3 r D3 b3 r0 r1 => ⟨_, _, rfl, rfl, ?_⟩⟩
  have P3 := P2.but D2 b3
  have gd3 := gd2.but D2 b3
  have gt3 := gt2.but D2 b3
  obtain ⟨Le, eLe, L1, LM⟩ : ∃ z : Nat, 1 + r = (z : Int) ∧ 1 ≤ z ∧ z ≤ M := ⟨(1 + r).toNat, by omega, by omega, by omega⟩
  clear D2 P2 gd2 gt2 b3
  have L4 : Le ≤ 400 := by omega
  dsimp only [gName]
  rw [eLe]
  refine tSeq_join (fun σ H' => Same H3 H' ∧ σ = [some (.ref d), some (.ref p), some (.str (Str.ofString "sum")), some (.int (k : Int)), some (.int x), some (.int y), some (.int (t : Int)), some (.int (M : Int)), some u, some u2, some (.int (Le : Int)), none, none, none]) (fun N hN => ?_) ?_
  · refine ⟨_, rfl, _, rfl, _, k, x, y, t, Le, rfl, P3, ok, ps, L1, L4, fun H4 u4 s4 g4 => ?_⟩
    have rl2 := rowT_low (M := Le) ok ps
    rw [rl2.1, rl2.2] at g4
    dsimp only [tNil, tCons, tC, List.cons_append, List.nil_append]
    refine rep_big g4 F19 (ltT Le L4) (by rw [rowT_len L1]; exact L4) fun z1 ez1 => ?_
    obtain ⟨pu, qu, rfl, hu, hq⟩ := gd3.same s4
    refine ⟨_, rfl, .inr (.inl ⟨pu, _, 0, _, rfl, rfl, SqT.of hu, atI_nat (j := 0) rfl, ?_⟩)⟩
    refine ⟨_, rfl, .inr (.inl ⟨pu, _, 1, _, rfl, rfl, SqT.of hu, atI_nat (j := 1) rfl, ?_⟩)⟩
    refine ⟨_, rfl, _, rfl, slA_all hq fun H5 q5 s5 h5 => ?_⟩
    rw [rowT_take L1 LM] at h5
    refine ⟨(by show (2 : Nat) ≤ sizeLine; decide), fun p6 hp6 => ?_⟩
    have s6 : Same H5 (upd H5 p6 (.tup [V.int (fstV k x y t).2, V.ref q5])) := Same.upd_new hp6
    have g6 : Bg (upd H5 p6 (.tup [V.int (fstV k x y t).2, V.ref q5])) (.ref p6) (fstV k x y t).2 (rowT k x y t Le) := ⟨p6, q5, rfl, upd_same, s6 _ _ h5⟩
    dsimp only [tNil, tCons, tC, List.cons_append, List.nil_append]
    refine rep_big g6 F19 (ltT Le L4) (by rw [rowT_len L1]; exact L4) fun z2 ez2 => ?_
    obtain rfl : z2 = z1 := ez2.trans ez1.symm
    clear ez1 ez2
    refine ⟨rfl, ?_⟩
    exact ⟨_, rfl, neS (hN _ _ ⟨s4.trans (s5.trans s6), rfl⟩)⟩
  rintro _ H4 ⟨s4, rfl⟩
  have D4 := D3.same s4
  have P4 := P3.same s4
  have gd4 := gd3.same s4
  have gt4 := gt3.same s4
  clear D3 P3 gd3 gt3 s4
  have fs1 : Rs 1 9 (frD (fstV k x y t)) := rs_fr (Nat.lt_trans f2.1 (Nat.pow_lt_pow_right (by decide) (by decide))) F19
  have fro := fs1.rep (by decide) (by decide)
  refine tSeq_join (fun σ H' => Same H4 H' ∧ σ = [some (.ref d), some (.ref p), some (.str (Str.ofString "sum")), some (.int (k : Int)), some (.int x), some (.int y), some (.int (t : Int)), some (.int (M : Int)), some u, some u2, some (.int (Le : Int)), none, none, none]) (fun N hN => ?_) ?_
  · refine ⟨_, rfl, .ref p, k, x, y, t, rfl, P4, ok, ps, fun H5 r5 s5 f5 => ?_⟩
    obtain ⟨q5, rfl, h5⟩ := id f5
    refine ⟨q5, _, rfl, dp_fr f5, fro.show_, fro.dict, fro.depth, fro.len, ?_⟩
    refine ⟨_, rfl, .ref p, k, x, y, t, rfl, P4.same s5, ok, ps, fun H6 r6 s6 f6 => ?_⟩
    obtain ⟨q6, rfl, h6⟩ := id f6
    refine ⟨q6, _, rfl, dp_fr f6, fro.show_, fro.dict, fro.depth, fro.len, ?_⟩
    exact ⟨rfl, _, rfl, neS (hN _ _ ⟨s5.trans s6, rfl⟩)⟩
  rintro _ H5 ⟨s5, rfl⟩
  have D5 := D4.same s5
  have P5 := P4.same s5
  have gd5 := gd4.same s5
  have gt5 := gt4.same s5
  clear D4 P4 gd4 gt4 s5 fs1 fro
  have mxy : CMulW x y := mul8 (Nat.lt_of_le_of_lt x31 (by decide)) (Nat.lt_of_le_of_lt y31 (by decide))
  have xyl : (x * y).natAbs ≤ 961 := by rw [Int.natAbs_mul]; exact Nat.mul_le_mul x31 y31
  have xy0 : x * y ≠ 0 := Int.mul_ne_zero x0 y0
  have xy4 : (x * y).natAbs ≤ 400 := by have := ok.lev; have := Nat.mul_le_mul_left (x * y).natAbs t1; omega
  have lg : ∀ {z : Int}, z.natAbs ≤ 1000000 → z.natAbs.log2 < 1920 := fun h => PySem.Flt.log2_lt_of (by decide) (Nat.lt_of_le_of_lt h (by decide : 1000000 < 2 ^ 1920))
  have lgl : (((x * y).natAbs * t : Nat) : Int).natAbs ≤ 1000000 := by rw [Int.natAbs_natCast]; have := ok.lev; omega
  have elv : (((x * y).natAbs : Nat) : Int) * (t : Int) = (((x * y).natAbs * t : Nat) : Int) := (Int.natCast_mul _ _).symm
  refine tSeq_join (fun σ H' => Same H5 H' ∧ σ = [some (.ref d), some (.ref p), some (.str (Str.ofString "sum")), some (.int (k : Int)), some (.int x), some (.int y), some (.int (t : Int)), some (.int (M : Int)), some u, some u2, some (.int (Le : Int)), none, none, none]) (fun N hN => ?_) ?_
  · refine ⟨_, rfl, .ref p, k, x, y, t, rfl, P5, ok, by omega, by omega, fun H6 s6 => ⟨_, rfl, lg lgl, ?_⟩⟩
    refine ⟨_, rfl, _, rfl, _, _, rfl, rfl, mxy, _, rfl, ?_⟩
    rw [abs_ifN]
    refine ⟨_, rfl, _, _, rfl, rfl, mul8 (by rw [Int.natAbs_natCast]; exact Nat.lt_of_le_of_lt xyl (by decide)) (by rw [Int.natAbs_natCast]; exact Nat.lt_of_le_of_lt t4 (by decide)), _, rfl, by rw [elv]; exact lg lgl, ?_⟩
    rw [elv]
    refine ⟨rfl, _, rfl, neS ?_⟩
    refine ⟨_, rfl, .ref p, k, x, y, t, rfl, P5.same s6, ok, fun H7 s7 => ⟨_, rfl, lg (Nat.le_trans (anySgn_le xy0 xy4) (by decide)), ?_⟩⟩
    refine ⟨_, rfl, _, rfl, _, _, rfl, rfl, mxy, _, rfl, xy0, by omega, ?_⟩
    rw [lawSgn_eq xy0 xy4]
    refine ⟨_, rfl, lg (Nat.le_trans (anySgn_le xy0 xy4) (by decide)), ?_⟩
    exact ⟨rfl, _, rfl, neS (hN _ _ ⟨s6.trans s7, rfl⟩)⟩
  rintro _ H6 ⟨s6, rfl⟩
  have D6 := D5.same s6
  have P6 := P5.same s6
  have gd6 := gd5.same s6
  have gt6 := gt5.same s6
  clear D5 P5 gd5 gt5 s6
  refine ⟨_, rfl, _, rfl, _, _, rfl, rfl, _, rfl, ifD (fun _ => ?_) fun eMt => ?_⟩
  · exact q _ D6
  refine ⟨_, rfl, _, rfl, _, rfl, (by show (3 : Nat) ≤ sizeLine; decide), fun p1 hp1 => ?_⟩
  have a1 : Same H6 (upd H6 p1 (.tup [V.int (k : Int), V.int x, V.int y])) := Same.upd_new hp1
  have h1 : (upd H6 p1 (.tup [V.int (k : Int), V.int x, V.int y])) p1 = some (.tup [V.int (k : Int), V.int x, V.int y]) := upd_same
  generalize upd H6 p1 (.tup [V.int (k : Int), V.int x, V.int y]) = H7 at a1 h1
  refine ⟨(by show (3 : Nat) ≤ sizeLine; decide), fun p2 hp2 => ?_⟩
  have a2 : Same H7 (upd H7 p2 (.tup [V.int 2, V.int 1, V.int 1])) := Same.upd_new hp2
  have h2 : (upd H7 p2 (.tup [V.int 2, V.int 1, V.int 1])) p2 = some (.tup [V.int 2, V.int 1, V.int 1]) := upd_same
  generalize upd H7 p2 (.tup [V.int 2, V.int 1, V.int 1]) = H8 at a2 h2
  have D8 := D6.same (a1.trans a2)
  have gd8 := gd6.same (a1.trans a2)
  have gt8 := gt6.same (a1.trans a2)
  refine ⟨.tuple [.int (k : Int), .int x, .int y], .tuple [.int 2, .int 1, .int 1], .tup (SqT.of (a2 _ _ h1)) (.cons (.int _) (.cons (.int _) (.cons (.int _) .nil))), .tup (SqT.of h2) (.cons (.int _) (.cons (.int _) (.cons (.int _) .nil))), rfl, rfl, isPl k x y, congrArg V.bl (eqv_pl k x y), ?_⟩
  clear hp1 h1 h2 hp2 a1 a2 D6 gd6 gt6 P6
  refine if_by2 (fun e => q _ D8) fun hpl => ?_
  dsimp only [tNext]
  have tM : t < M := by omega
  have n1 : 1 ≤ (M - 1) / t := Nat.div_pos (by omega) t1
  have n4 : (M - 1) / t ≤ 400 := by have := Nat.div_le_self (M - 1) t; omega
  have ed : ((M : Int) - 1) / (t : Int) = (((M - 1) / t : Nat) : Int) := by
    rw [show (M : Int) - 1 = ((M - 1 : Nat) : Int) by omega]
    rfl
  refine ⟨_, rfl, _, rfl, _, _, rfl, rfl, _, rfl, _, _, rfl, rfl, cdivN t1 (by omega), d, l, (((M - 1) / t : Nat) : Int), (by show [V.ref d, V.int (((M : Int) - 1) / (t : Int))] = _; rw [ed]), D8, by omega, by omega, fun H9 r D9 b9 r0 r1 => ⟨_, _, rfl, rfl, ?_⟩⟩
  have gd9 := gd8.but D8 b9
  have gt9 := gt8.but D8 b9
  obtain ⟨n, en, nn1, nn2⟩ : ∃ z : Nat, 1 + r = (z : Int) ∧ 1 ≤ z ∧ z ≤ (M - 1) / t := ⟨(1 + r).toNat, by omega, by omega, by omega⟩
  clear D8 gd8 gt8 b9 r0 r1
  have ntM : n * t < M := by
    have := Nat.mul_le_mul_right t nn2
    have := Nat.div_mul_le_self (M - 1) t
    omega
  have n5 : n ≤ 400 := by omega
  dsimp only [gName]
  rw [en]
  refine ⟨_, rfl, _, rfl, _, _, rfl, rfl, _, rfl, _, rfl, n, k - 1, x, y, (by show [V.int (n : Int), V.int ((k : Int) - 1), V.int x, V.int y] = _; rw [show (k : Int) - 1 = ((k - 1 : Nat) : Int) by omega]), nn1, by omega, by omega, sx, sy, fun H10 s10 => ?_⟩
  have D10 := D9.same s10
  have gd10 := gd9.same s10
  have gt10 := gt9.same s10
  clear D9 gd9 gt9 s10 en
  have S5 : (dsF (k - 1) x y n).natAbs < 2 ^ 500 := dsF_le nn1 (by omega) (by omega)
  have lat : latV k x y t (n * t) = dsF (k - 1) x y n := by
    unfold latV
    rw [hpl, if_neg (by decide), if_pos (Nat.mul_mod_left n t), Nat.mul_div_cancel _ t1]
    unfold dsR
    rw [if_neg (by omega)]
  have row : (rowT k x y t M).getD (n * t) 0 = (fstV k x y t).2 * dsF (k - 1) x y n := by
    have : 0 < n * t := Nat.mul_pos nn1 t1
    rw [rowT_getD ntM]
    unfold rowF
    rw [if_neg (by omega), lat]
  have ent : (n : Int) * (t : Int) = ((n * t : Nat) : Int) := (Int.natCast_mul _ _).symm
  have mnt : CMulW (n : Int) (t : Int) := mul8 (by rw [Int.natAbs_natCast]; exact Nat.lt_of_le_of_lt n5 (by decide)) (by rw [Int.natAbs_natCast]; exact Nat.lt_of_le_of_lt t4 (by decide))
  have lrow : n * t < (rowT k x y t M).length := by rw [rowT_len M1]; exact ntM
  have F0 := f2.2.2
  have okT := rowT_ok (M := M) ok ps M1 M4
  have ltM := ltT M M4
  generalize dsF (k - 1) x y n = S at S5 row
  generalize rowT k x y t M = R at gd10 gt10 row lrow okT ltM
  generalize (fstV k x y t).2 = F2 at gd10 gt10 row F19 F0 okT
  have mSF : CMulW S F2 := mul8 (Nat.lt_trans S5 (Nat.pow_lt_pow_right (by decide) (by decide))) (Nat.lt_trans F19 (Nat.pow_lt_pow_right (by decide) (by decide)))
  have comm : S * F2 = F2 * S := Int.mul_comm _ _
  obtain ⟨pu, qu, rfl, hu, hq⟩ := gd10
  have at0 : ∀ {a c : V}, atI [a, c] 0 = some a := fun {a c} => atI_nat (j := 0) rfl
  have at1 : ∀ {a c : V}, atI [a, c] 1 = some c := fun {a c} => atI_nat (j := 1) rfl
  have atn : atI (R.map V.int) ((n : Int) * (t : Int)) = some (V.int (F2 * S)) := by
    rw [ent, ← row]
    exact atI_nat (getD_at lrow)
  dsimp only [gName]
  refine tSeq_join (fun σ H' => Same H10 H' ∧ σ = [some (.ref d), some (.ref p), some (.str (Str.ofString "sum")), some (.int (k : Int)), some (.int x), some (.int y), some (.int (t : Int)), some (.int (M : Int)), some (.ref pu), some u2, some (.int (Le : Int)), some (.int (n : Int)), some (.int S), none]) (fun N hN => ?_) ?_
  · refine ⟨_, rfl, _, _, rfl, rfl, _, rfl, ifD (fun _ => ?_) fun _ => ?_⟩
    · refine ⟨_, rfl, _, rfl, .inr (.inl ⟨pu, _, 0, _, rfl, rfl, SqT.of hu, at0, _, _, rfl, rfl, mSF, ?_⟩)⟩
      refine ⟨_, rfl, .inr (.inl ⟨pu, _, 1, _, rfl, rfl, SqT.of hu, at1, _, rfl, _, rfl, _, _, rfl, rfl, mnt, .inr (.inl ⟨qu, _, _, _, rfl, rfl, SqT.of hq, atn, rfl, ?_⟩)⟩)⟩
      rw [decide_eq_true (congrArg V.int comm)]
      exact q _ D10
    refine ⟨_, rfl, .inr (.inl ⟨pu, _, 1, _, rfl, rfl, SqT.of hu, at1, qu, rfl, ⟨_, SqT.of hq⟩, fun C hC => ?_⟩)⟩
    refine lc_it (walk_tup (xs := R.map V.int)) (fun i H' => Same H10 H' ∧ H' C = some (.lst (((R.take i).map fun z : Int => if z < 0 then -z else z).map V.int))) ⟨Same.upd_new hC, upd_same⟩ (fun i H' _ ⟨z, _⟩ => SqT.of (z _ _ hq)) ?_ ?_
    · rintro i v H11 _ hi ⟨s11, h11⟩ ⟨rfl, hv⟩
      obtain ⟨z, rfl, hz⟩ := int_at hv
      have htk : R.take (i + 1) = R.take i ++ [z] := by rw [List.take_add_one, hz]; rfl
      refine ⟨rfl, _, rfl, z, rfl, _, h11, ?_, fun b o e2 => ?_, ?_⟩
      · rw [List.length_map, List.length_map, List.length_take]
        exact Nat.lt_of_le_of_lt (Nat.le_trans (Nat.min_le_right _ _) okT.2.2) (by decide)
      · rw [upd_ne (ne_of_none e2 hC)]
        exact s11 _ _ e2
      · rw [upd_same, htk, List.map_append, List.map_append]
        rfl
    rintro H11 ⟨s11, h11⟩
    rw [List.length_map, List.take_length] at h11
    have hu11 := s11 _ _ hu
    have hq11 := s11 _ _ hq
    refine ⟨C, _, rfl, SqL.of h11, by rw [List.length_map]; exact okT.2.1, fun mx _ _ => ?_⟩
    refine ⟨_, _, rfl, rfl, ⟨by decide, by decide, by decide⟩, _, _, rfl, rfl, _, rfl, ifD (fun _ => ?_) fun _ => hN _ _ ⟨s11, rfl⟩⟩
    refine ⟨_, rfl, _, rfl, .inr (.inl ⟨pu, _, 0, _, rfl, rfl, SqT.of hu11, at0, _, _, rfl, rfl, mSF, ?_⟩)⟩
    refine ⟨_, rfl, .inr (.inl ⟨pu, _, 1, _, rfl, rfl, SqT.of hu11, at1, _, rfl, _, rfl, _, _, rfl, rfl, mnt, .inr (.inl ⟨qu, _, _, _, rfl, rfl, SqT.of hq11, atn, rfl, ?_⟩)⟩)⟩
    rw [decide_eq_true (congrArg V.int comm)]
    exact q _ (D10.same s11)
  rintro _ H11 ⟨s11, rfl⟩
  have hu11 := s11 _ _ hu
  have hq11 := s11 _ _ hq
  refine ⟨_, rfl, _, rfl, .inr (.inl ⟨pu, _, 0, _, rfl, rfl, SqT.of hu11, at0, _, _, rfl, rfl, mSF, ?_⟩)⟩
  refine ⟨_, rfl, .inr (.inl ⟨pu, _, 1, _, rfl, rfl, SqT.of hu11, at1, _, rfl, _, rfl, _, _, rfl, rfl, mnt, .inr (.inl ⟨qu, _, _, _, rfl, rfl, SqT.of hq11, atn, rfl, ?_⟩)⟩)⟩
  rw [decide_eq_true (congrArg V.int comm)]
  refine ⟨_, rfl, iteT ?_⟩
  have lowS : low (R.getD (n * t) 0) F2 = (S, 1) := by
    rw [row]
    unfold low
    have g : Nat.gcd (F2 * S).natAbs F2.natAbs = F2.natAbs := by rw [Int.natAbs_mul, Nat.gcd_comm]; exact Nat.gcd_eq_left (Nat.dvd_mul_right _ _)
    rw [g, show ((F2.natAbs : Nat) : Int) = F2 by omega, Int.mul_ediv_cancel_left _ (by omega), Int.ediv_self (by omega)]
  have fro := (rs_fr (x := (S, 1)) (k := 0) (Nat.lt_trans S5 (Nat.pow_lt_pow_right (by decide) (by decide))) (by show (1 : Int).natAbs < 2 ^ 1900; decide)).rep (by decide) (by decide)
  refine ⟨_, rfl, _, rfl, _, rfl, _, _, rfl, rfl, mnt, _, _, R, n * t, (by show [u2, V.int ((n : Int) * (t : Int))] = _; rw [ent]), gt10.same s11, okT, lrow, Nat.lt_trans F19 (Nat.pow_lt_pow_right (by decide) (by decide)), fun H12 r12 s12 f12 => ?_⟩
  rw [lowS] at f12
  obtain ⟨q5, rfl, h5⟩ := id f12
  refine ⟨q5, _, rfl, dp_fr f12, fro.show_, fro.dict, fro.depth, fro.len, ?_⟩
  refine ⟨_, rfl, (by show (2 : Nat) ≤ sizeLine; decide), fun p6 hp6 => ?_⟩
  have s6 : Same H12 (upd H12 p6 (.tup [V.int S, V.int 1])) := Same.upd_new hp6
  have f6 : Fr (upd H12 p6 (.tup [V.int S, V.int 1])) (.ref p6) (S, 1) := Fr.new
  refine ⟨p6, _, rfl, dp_fr f6, fro.show_, fro.dict, fro.depth, fro.len, rfl, ?_⟩
  rw [decide_eq_true rfl]
  exact q _ (D10.same (s11.trans (s12.trans s6)))
end
end Ft

set_option exponentiation.threshold 9000
namespace Ft
open PySem L2
theorem kb_sumTerms {K : PySem.W.Frag} {f : Addr} {fd : FuncData} (F : Fun K "sum_terms" "sum_terms" s_sum_terms f fd) : KBinds K fd ["divisor_piece", "many"] ["many", "divisor_piece"] swapU swapV := by
  obtain ⟨oc, od, kV, doc, pm, an, cdv, ct, osl, rfl, lk, hcd⟩ := F.ex
  refine ⟨fun s us ws _ hl => ?_, swap_rel⟩
  match us, ws, hl with
  | [], [a, b], _ => exact .of_eq rfl
theorem kb_sumFirst {K : PySem.W.Frag} {f : Addr} {fd : FuncData} (F : Fun K "sum_first" "sum_first" s_sum_first f fd) : KBinds K fd ["divisor_piece"] ["divisor_piece"] idU idV := by
  obtain ⟨oc, od, kV, doc, pm, an, cdv, ct, osl, rfl, lk, hcd⟩ := F.ex
  refine ⟨fun s us ws _ hl => ?_, id_rel⟩
  match us, ws, hl with
  | [], [a], _ => exact .of_eq rfl
def sp_law (K : PySem.W.Frag) : Sp := fun vs H Q _ => ∃ (a : Addr) (ns : List Int), vs = [.ref a] ∧ SqL K H a (ns.map V.int) ∧ ns.length ≤ 63 ∧ ∀ H', Q (.bl true) H'
section
variable {P : Program} {w : World} {K : PySem.W.Frag} {mg : Str → Option Value} {base : Heap}
theorem fn_law {f : Addr} {fd : FuncData} (F : Fun K "law" "law" s_law f fd) (B : Bi mg) (c__law_deck : Cal P w K mg base 1 "_law_deck" (sp_deck K)) (c__law_sum_piece : Cal P w K mg base 3 "_law_sum_piece" sp_sumPiece) (c__law_draw : Cal P w K mg base 1 "_law_draw" sp_draw) (g_pieceTold : CalG P w K mg base 9 "_law_is_piece_told" sp_pieceTold) : FnG P w K mg base 10 f fd ["_law_script"] (sp_law K) := by
  have sc := sc_law
  refine fun_g F sc (fun _ _ _ _ ⟨_, _, e, _⟩ => by rw [e]; rfl) (fun cdv A outer s H vs Q E hgd hr h => ?_)
  obtain ⟨a, ns, rfl, hS, hlen, q⟩ := h
  refine ⟨_, (pss_cons (ps_set (i := 1) sc.nd rfl (Or.inl rfl) (pe_c c__law_deck hr (by decide) (by rfl) (pa_cons (pv 0) pa_nil)))
      (pss_cons (ps_for PassesOwn.never rfl (pi_range1 rfl B.range (pa_cons pe_int pa_nil)) (pg_name (i := 2) sc.nd rfl (Or.inl rfl))
      (pss_cons (ps_set (i := 3) sc.nd rfl (Or.inl rfl) (pe_c c__law_sum_piece hr (by decide) (by rfl) (pa_cons (pv 1) (pa_cons (pe_ifExp (pt_cmpR op_eq (pe_c c__law_draw hr (by decide) (by rfl) (pa_cons (pv 1) (pa_cons pe_int pa_nil))) pe_int (nomark _)) pe_int pe_int) pa_nil))))
        (pss_one (ps_if (pt_not (pt_val (pe_g g_pieceTold hgd hr (by decide) (by rfl) (pa_cons (pv 1) (pa_cons (pv 3) pa_nil)))))
        (pss_one (ps_ret pe_bl))
        pss_nil))))
      (pss_one (ps_ret pe_bl)))), ?_⟩
  refine ⟨_, rfl, a, ns, rfl, hS, hlen, ?_⟩
  intro H1 d l D1 s1 _ _
  dsimp only [gName]
  refine ⟨2, rfl, by decide, by decide, for_range (lo := 0) (n := Int.toNat 2) (fun i σ H' => DeckAt H' d l ∧ ∃ o2 o3 : Option V, σ = [some (.ref a), some (.ref d), o2, o3]) ⟨D1, none, none, rfl⟩ ?_ fun σ H2 _ => q _⟩
  rintro i σ H2 hi ⟨D2, o2, o3, rfl⟩
  dsimp only [gName]
  refine ⟨_, rfl, _, rfl, d, l, 8, rfl, D2, by decide, by decide, fun H3 r D3 b3 r0 r1 => ⟨rfl, _, rfl, ifI (fun e => ?_) fun e => ?_⟩⟩
  · refine ⟨d, l, 400, rfl, D3, by decide, by decide, fun H4 v k x y t D4 b4 hp ok hx hy _ => ?_⟩
    refine ⟨_, rfl, _, rfl, d, l, v, k, x, y, t, rfl, D4, hp, ok, hx, hy, fun H5 D5 => ⟨true, rfl, iteF ⟨D5, _, _, rfl⟩⟩⟩
  · refine ⟨d, l, 60, rfl, D3, by decide, by decide, fun H4 v k x y t D4 b4 hp ok hx hy _ => ?_⟩
    refine ⟨_, rfl, _, rfl, d, l, v, k, x, y, t, rfl, D4, hp, ok, hx, hy, fun H5 D5 => ⟨true, rfl, iteF ⟨D5, _, _, rfl⟩⟩⟩
end
end Ft

set_option exponentiation.threshold 9000
namespace Ft
open PySem L2
theorem df_mk {K : PySem.W.Frag} {h : Heap} {mg : Str → Option Value} {x : Str} {st : Stmt} {ps : List Str} {f : Addr} {oc kV doc pm cdv ct : Value} {od an : Option Addr} {osl : Array (Option Value)} (X : K.In h) (G : h.Ns mainGlobals mg)
    (a : PySem.W.nsIn K mainGlobals x = some (some (.ref f))) (l : K.lookup f = some ⟨oc, od, .func (PySem.W.fnOf x x (defArgs st) (defBody st) (defScope st) .none kV doc pm an cdv ct), osl⟩) (c : PySem.W.codeIn K cdv x = true) (k : PySem.W.keepIn K (.ref f) = true)
    (hb : ∀ (kV doc pm : Value) (an : Option Addr) (cdv ct : Value) (us : List Value), us.length = ps.length → bindArgs (PySem.W.fnOf x x (defArgs st) (defBody st) (defScope st) .none kV doc pm an cdv ct) ⟨us, []⟩ = pure (ps.zip us)) : Df K mg x st ps :=
  have F := fun_mk (st := st) l c k
  ⟨f, _, F, PySem.W.mg_of X G a, F.binds hb⟩
theorem b1 {x : Str} {st : Stmt} {p0 : Str} (h : ∀ (kV doc pm : Value) (an : Option Addr) (cdv ct u0 : Value), bindArgs (PySem.W.fnOf x x (defArgs st) (defBody st) (defScope st) .none kV doc pm an cdv ct) ⟨[u0], []⟩ = pure [(p0, u0)]) :
    ∀ (kV doc pm : Value) (an : Option Addr) (cdv ct : Value) (us : List Value), us.length = [p0].length → bindArgs (PySem.W.fnOf x x (defArgs st) (defBody st) (defScope st) .none kV doc pm an cdv ct) ⟨us, []⟩ = pure ([p0].zip us) :=
  fun kV doc pm an cdv ct us hl => match us, hl with | [u0], _ => h kV doc pm an cdv ct u0
theorem b2 {x : Str} {st : Stmt} {p0 p1 : Str} (h : ∀ (kV doc pm : Value) (an : Option Addr) (cdv ct u0 u1 : Value), bindArgs (PySem.W.fnOf x x (defArgs st) (defBody st) (defScope st) .none kV doc pm an cdv ct) ⟨[u0, u1], []⟩ = pure [(p0, u0), (p1, u1)]) :
    ∀ (kV doc pm : Value) (an : Option Addr) (cdv ct : Value) (us : List Value), us.length = [p0, p1].length → bindArgs (PySem.W.fnOf x x (defArgs st) (defBody st) (defScope st) .none kV doc pm an cdv ct) ⟨us, []⟩ = pure ([p0, p1].zip us) :=
  fun kV doc pm an cdv ct us hl => match us, hl with | [u0, u1], _ => h kV doc pm an cdv ct u0 u1
theorem b3 {x : Str} {st : Stmt} {p0 p1 p2 : Str} (h : ∀ (kV doc pm : Value) (an : Option Addr) (cdv ct u0 u1 u2 : Value), bindArgs (PySem.W.fnOf x x (defArgs st) (defBody st) (defScope st) .none kV doc pm an cdv ct) ⟨[u0, u1, u2], []⟩ = pure [(p0, u0), (p1, u1), (p2, u2)]) :
    ∀ (kV doc pm : Value) (an : Option Addr) (cdv ct : Value) (us : List Value), us.length = [p0, p1, p2].length → bindArgs (PySem.W.fnOf x x (defArgs st) (defBody st) (defScope st) .none kV doc pm an cdv ct) ⟨us, []⟩ = pure ([p0, p1, p2].zip us) :=
  fun kV doc pm an cdv ct us hl => match us, hl with | [u0, u1, u2], _ => h kV doc pm an cdv ct u0 u1 u2
theorem b4 {x : Str} {st : Stmt} {p0 p1 p2 p3 : Str} (h : ∀ (kV doc pm : Value) (an : Option Addr) (cdv ct u0 u1 u2 u3 : Value), bindArgs (PySem.W.fnOf x x (defArgs st) (defBody st) (defScope st) .none kV doc pm an cdv ct) ⟨[u0, u1, u2, u3], []⟩ = pure [(p0, u0), (p1, u1), (p2, u2), (p3, u3)]) :
    ∀ (kV doc pm : Value) (an : Option Addr) (cdv ct : Value) (us : List Value), us.length = [p0, p1, p2, p3].length → bindArgs (PySem.W.fnOf x x (defArgs st) (defBody st) (defScope st) .none kV doc pm an cdv ct) ⟨us, []⟩ = pure ([p0, p1, p2, p3].zip us) :=
  fun kV doc pm an cdv ct us hl => match us, hl with | [u0, u1, u2, u3], _ => h kV doc pm an cdv ct u0 u1 u2 u3
/-- the defs of the text, as the top has left them -/
structure Dfs (K : PySem.W.Frag) (mg : Str → Option Value) : Prop where
  is_integer : Df K mg "is_integer" s_is_integer ["thing"]
  is_from : Df K mg "is_from" s_is_from ["thing", "least"]
  is_between : Df K mg "is_between" s_is_between ["thing", "least", "most"]
  check_from : Df K mg "check_from" s_check_from ["thing", "least"]
  check_between : Df K mg "check_between" s_check_between ["thing", "least", "most"]
  check_count : Df K mg "check_count" s_check_count ["many"]
  lowest_terms : Df K mg "lowest_terms" s_lowest_terms ["top", "bottom"]
  number_sum : Df K mg "number_sum" s_number_sum ["one", "other"]
  number_product : Df K mg "number_product" s_number_product ["one", "other"]
  raised : Df K mg "raised" s_raised ["base", "exponent"]
  is_sign : Df K mg "is_sign" s_is_sign ["thing"]
  check_sign : Df K mg "check_sign" s_check_sign ["sign"]
  value_at : Df K mg "value_at" s_value_at ["sign", "n"]
  value_at_two : Df K mg "value_at_two" s_value_at_two ["sign"]
  value_at_odd : Df K mg "value_at_odd" s_value_at_odd ["top", "bottom"]
  any_sign_of : Df K mg "any_sign_of" s_any_sign_of ["m"]
  without_squares : Df K mg "without_squares" s_without_squares ["m"]
  joined_sign : Df K mg "joined_sign" s_joined_sign ["one", "other"]
  is_beginning : Df K mg "is_beginning" s_is_beginning ["thing"]
  check_beginning : Df K mg "check_beginning" s_check_beginning ["beginning"]
  lowered : Df K mg "lowered" s_lowered ["bottom", "tops"]
  term_at : Df K mg "term_at" s_term_at ["beginning", "n"]
  bernoulli : Df K mg "bernoulli" s_bernoulli ["k", "sign"]
  plain_numbers : Df K mg "plain_numbers" s_plain_numbers ["k"]
  power_sum : Df K mg "power_sum" s_power_sum ["sign", "e"]
  is_told : Df K mg "is_told" s_is_told ["thing", "word", "many"]
  is_divisor_piece : Df K mg "is_divisor_piece" s_is_divisor_piece ["thing"]
  is_plain : Df K mg "is_plain" s_is_plain ["divisor_piece"]
  check_divisor_piece : Df K mg "check_divisor_piece" s_check_divisor_piece ["divisor_piece"]
  sum_level : Df K mg "sum_level" s_sum_level ["divisor_piece"]
  sum_sign : Df K mg "sum_sign" s_sum_sign ["divisor_piece"]
  sum_first : Df K mg "sum_first" s_sum_first ["divisor_piece"]
  sum_terms : Df K mg "sum_terms" s_sum_terms ["divisor_piece", "many"]
  sum_row : Df K mg "sum_row" s_sum_row ["divisor_piece", "many"]
  divisor_sums : Df K mg "divisor_sums" s_divisor_sums ["k", "one", "other", "many"]
  divisors : Df K mg "divisors" s_divisors ["n"]
  divisor_sum : Df K mg "divisor_sum" s_divisor_sum ["n", "k", "one", "other"]
  ldeck : Df K mg "_law_deck" s__law_deck ["_law_script"]
  ldraw : Df K mg "_law_draw" s__law_draw ["_law_deck_here", "_law_below"]
  lpick : Df K mg "_law_pick" s__law_pick ["_law_deck_here", "_law_some"]
  lgcd : Df K mg "_law_gcd" s__law_gcd ["_law_one", "_law_other"]
  llowest : Df K mg "_law_lowest" s__law_lowest ["_law_top", "_law_bottom"]
  lplus : Df K mg "_law_plus" s__law_plus ["_law_one", "_law_other"]
  lby : Df K mg "_law_by" s__law_by ["_law_one", "_law_other"]
  lprime_value : Df K mg "_law_prime_value" s__law_prime_value ["_law_sign", "_law_p"]
  lvalues : Df K mg "_law_values" s__law_values ["_law_sign", "_law_many"]
  lsign_of : Df K mg "_law_sign_of" s__law_sign_of ["_law_m"]
  lpower : Df K mg "_law_power" s__law_power ["_law_base", "_law_often"]
  lchoose : Df K mg "_law_choose" s__law_choose ["_law_n", "_law_k"]
  lsmall_bernoulli : Df K mg "_law_small_bernoulli" s__law_small_bernoulli ["_law_k"]
  lbernoulli : Df K mg "_law_bernoulli" s__law_bernoulli ["_law_k", "_law_sign"]
  lsum_first : Df K mg "_law_sum_first" s__law_sum_first ["_law_piece"]
  ldivisor_sums : Df K mg "_law_divisor_sums" s__law_divisor_sums ["_law_k", "_law_one", "_law_other", "_law_many"]
  lsum_terms : Df K mg "_law_sum_terms" s__law_sum_terms ["_law_piece", "_law_many"]
  lsum_piece : Df K mg "_law_sum_piece" s__law_sum_piece ["_law_deck_here", "_law_most"]
  lis_piece_told : Df K mg "_law_is_piece_told" s__law_is_piece_told ["_law_deck_here", "_law_piece"]
  law : Df K mg "law" s_law ["_law_script"]
theorem law_all {P : Program} {w : World} {K : PySem.W.Frag} {mg : Str → Option Value} {base : Heap} {f : Addr} {fd : FuncData}  (D : Dfs K mg) (B : Bi mg) (F : Fun K "law" "law" s_law f fd) : FnG P w K mg base 10 f fd ["_law_script"] (sp_law K) := by
  have c0__law_deck : Cal P w K mg base 1 "_law_deck" (sp_deck K) := ok_deck D.ldeck B
  have c1__law_draw : Cal P w K mg base 1 "_law_draw" (sp_draw) := ok_draw D.ldraw B
  have c1__law_pick : Cal P w K mg base 2 "_law_pick" (sp_pick K) := ok_pick D.lpick B c1__law_draw
  have c1__law_sum_piece : Cal P w K mg base 3 "_law_sum_piece" (sp_sumPiece) := ok_sumPiece D.lsum_piece B c1__law_pick c1__law_draw
  have c4__law_prime_value : Cal P w K mg base 1 "_law_prime_value" (sp_pval) := ok_pval D.lprime_value B
  have c4__law_values : Cal P w K mg base 2 "_law_values" (sp_lvals) := ok_lvals D.lvalues B c4__law_prime_value
  have c6__law_power : Cal P w K mg base 1 "_law_power" (sp_pow) := ok_pow D.lpower B
  have c4__law_divisor_sums : Cal P w K mg base 3 "_law_divisor_sums" (sp_ldsums) := ok_ldsums D.ldivisor_sums B c4__law_values c6__law_power
  have c8__law_gcd : Cal P w K mg base 1 "_law_gcd" (sp_gcd) := ok_gcd D.lgcd B
  have c8__law_lowest : Cal P w K mg base 2 "_law_lowest" (sp_lowest) := ok_lowest D.llowest B c8__law_gcd
  have c10__law_by : Cal P w K mg base 3 "_law_by" (sp_num nprod) := ok_by D.lby c8__law_lowest
  have c11__law_plus : Cal P w K mg base 3 "_law_plus" (sp_num nsum) := ok_plus D.lplus c8__law_lowest
  have c12__law_choose : Cal P w K mg base 1 "_law_choose" (sp_choose) := ok_choose D.lchoose B
  have c11__law_small_bernoulli : Cal P w K mg base 4 "_law_small_bernoulli" (sp_plain) := ok_lsmall D.lsmall_bernoulli B c11__law_plus c12__law_choose c8__law_lowest
  have c11__law_bernoulli : Cal P w K mg base 5 "_law_bernoulli" (sp_lbern) := ok_lbern D.lbernoulli B c4__law_values c11__law_small_bernoulli c6__law_power c11__law_plus c12__law_choose
  have c8__law_sum_first : Cal P w K mg base 6 "_law_sum_first" (sp_sumFirst) := ok_lsumFirst D.lsum_first B c8__law_lowest c10__law_by c11__law_bernoulli
  have c4__law_sum_terms : Cal P w K mg base 7 "_law_sum_terms" (sp_lsumTerms) := ok_lsumTerms D.lsum_terms B c4__law_divisor_sums c8__law_sum_first
  have c17_is_told : Cal P w K mg base 1 "is_told" (sp_isTold) := ok_isTold D.is_told B
  have c18_is_integer : Cal P w K mg base 1 "is_integer" (sp_is_integer) := ok_is_integer D.is_integer B
  have c18_is_from : Cal P w K mg base 2 "is_from" (sp_from) := ok_is_from D.is_from c18_is_integer
  have c20_without_squares : Cal P w K mg base 1 "without_squares" (sp_without_squares) := ok_without_squares D.without_squares B
  have c20_any_sign_of : Cal P w K mg base 2 "any_sign_of" (sp_any_sign_of) := ok_any_sign_of D.any_sign_of c20_without_squares
  have c22_is_between : Cal P w K mg base 2 "is_between" (sp_is_between) := ok_is_between D.is_between c18_is_integer
  have c20_is_sign : Cal P w K mg base 3 "is_sign" (sp_is_sign) := ok_is_sign D.is_sign c20_any_sign_of c22_is_between
  have c24_is_plain : Cal P w K mg base 1 "is_plain" (sp_isPlain) := ok_isPlain D.is_plain
  have c17_is_divisor_piece : Cal P w K mg base 4 "is_divisor_piece" (sp_isPiece) := by
    obtain ⟨f, fd, F, m, b⟩ := D.is_divisor_piece.ex
    exact ⟨f, fd, _, fn_isPiece F B c17_is_told c18_is_from c20_is_sign c22_is_between c24_is_plain, m, F.kp, b⟩
  have c17_check_divisor_piece : Cal P w K mg base 5 "check_divisor_piece" (sp_checkPiece) := ok_checkPiece D.check_divisor_piece c17_is_divisor_piece
  have c27_check_count : Cal P w K mg base 3 "check_count" (sp_checkCount) := ok_check_count D.check_count c22_is_between
  have c28_lowest_terms : Cal P w K mg base 1 "lowest_terms" (sp_low) := ok_lowest_terms D.lowest_terms B
  have c29_number_product : Cal P w K mg base 2 "number_product" (sp_num nprod) := ok_number_product D.number_product c28_lowest_terms
  have c30_check_between : Cal P w K mg base 3 "check_between" (sp3 (fun n a b => a ≤ n ∧ n ≤ b) fun _ _ _ => .non) := ok_check_between D.check_between c22_is_between
  have c31_check_sign : Cal P w K mg base 4 "check_sign" (sp_check_sign) := ok_check_sign D.check_sign c20_is_sign
  have c32_number_sum : Cal P w K mg base 2 "number_sum" (sp_num nsum) := ok_number_sum D.number_sum c28_lowest_terms
  have c32_plain_numbers : Cal P w K mg base 3 "plain_numbers" (sp_plain) := ok_plain_numbers D.plain_numbers B c32_number_sum c29_number_product
  have c34_raised : Cal P w K mg base 1 "raised" (sp_raised) := ok_raised D.raised
  have c35_value_at_two : Cal P w K mg base 1 "value_at_two" (sp_value_at_two) := ok_value_at_two D.value_at_two
  have c36_value_at_odd : Cal P w K mg base 1 "value_at_odd" (sp_value_at_odd) := ok_value_at_odd D.value_at_odd
  have c35_value_at : Cal P w K mg base 2 "value_at" (sp_value_at) := ok_value_at D.value_at B c35_value_at_two c36_value_at_odd
  have c35_power_sum : Cal P w K mg base 3 "power_sum" (sp_psum) := ok_power_sum D.power_sum B c35_value_at c34_raised
  have c30_bernoulli : Cal P w K mg base 5 "bernoulli" (sp_bern) := by
    obtain ⟨f, fd, F, m, b⟩ := D.bernoulli.ex
    exact ⟨f, fd, _, fn_bernoulli F B c30_check_between c31_check_sign c32_plain_numbers c34_raised c35_power_sum c32_number_sum c29_number_product, m, F.kp, b⟩
  have c28_sum_first : Cal P w K mg base 6 "sum_first" (sp_sumFirst) := by
    obtain ⟨f, fd, F, m, b⟩ := D.sum_first.ex
    exact ⟨f, fd, _, fn_sumFirst F B c17_check_divisor_piece c24_is_plain c28_lowest_terms c29_number_product c30_bernoulli, m, F.kp, b⟩
  have c41_divisor_sums : Cal P w K mg base 3 "divisor_sums" (sp_dsums) := ok_dsums D.divisor_sums B c35_value_at c34_raised
  have c28_sum_row : Cal P w K mg base 7 "sum_row" (sp_sumRow) := ok_sumRow D.sum_row B c28_sum_first c41_divisor_sums c24_is_plain
  have c43_lowered : Cal P w K mg base 1 "lowered" (sp_lowered) := ok_lowered D.lowered B
  have c17_sum_terms : Cal P w K mg base 8 "sum_terms" (sp_sumTerms) := by
    obtain ⟨f, fd, F, m, b⟩ := D.sum_terms.ex
    exact ⟨f, fd, _, fn_sumTerms F B c17_check_divisor_piece c27_check_count c28_sum_row c43_lowered, m, F.kp, b⟩
  have k45_sum_terms : CalK P w K mg base 8 "sum_terms" ["many", "divisor_piece"] swapV (sp_sumTerms) := by
    obtain ⟨f, fd, F, m, b⟩ := D.sum_terms.ex
    exact ⟨f, fd, _, _, fn_sumTerms F B c17_check_divisor_piece c27_check_count c28_sum_row c43_lowered, m, F.kp, kb_sumTerms F⟩
  have k46_sum_first : CalK P w K mg base 6 "sum_first" ["divisor_piece"] idV (sp_sumFirst) := by
    obtain ⟨f, fd, F, m, b⟩ := D.sum_first.ex
    exact ⟨f, fd, _, _, fn_sumFirst F B c17_check_divisor_piece c24_is_plain c28_lowest_terms c29_number_product c30_bernoulli, m, F.kp, kb_sumFirst F⟩
  have c47_sum_level : Cal P w K mg base 6 "sum_level" (sp_sumLevel) := ok_sumLevel D.sum_level B c17_check_divisor_piece
  have c48_joined_sign : Cal P w K mg base 5 "joined_sign" (sp_joined_sign) := by
    obtain ⟨f, fd, F, m, b⟩ := D.joined_sign.ex
    exact ⟨f, fd, _, fn_joined_sign F c31_check_sign c20_any_sign_of, m, F.kp, b⟩
  have c48_sum_sign : Cal P w K mg base 6 "sum_sign" (sp_sumSign) := ok_sumSign D.sum_sign c17_check_divisor_piece c48_joined_sign
  have c50__law_sign_of : Cal P w K mg base 1 "_law_sign_of" (sp_sgnOf) := ok_sgnOf D.lsign_of B
  have c51_check_from : Cal P w K mg base 3 "check_from" (sp_checkFrom) := ok_check_from D.check_from c18_is_from
  have c52_divisors : Cal P w K mg base 4 "divisors" (sp_divisors) := by
    obtain ⟨f, fd, F, m, b⟩ := D.divisors.ex
    exact ⟨f, fd, _, fn_divisors F B c51_check_from, m, F.kp, b⟩
  have c51_divisor_sum : Cal P w K mg base 5 "divisor_sum" (sp_dsum) := by
    obtain ⟨f, fd, F, m, b⟩ := D.divisor_sum.ex
    exact ⟨f, fd, _, fn_dsum F c51_check_from c31_check_sign c52_divisors c35_value_at c34_raised, m, F.kp, b⟩
  have c54_is_beginning : Cal P w K mg base 3 "is_beginning" (sp_isBeg) := ok_is_beginning D.is_beginning B c18_is_from c18_is_integer
  have c54_check_beginning : Cal P w K mg base 4 "check_beginning" (sp_checkBeg) := ok_check_beginning D.check_beginning c54_is_beginning
  have c54_term_at : Cal P w K mg base 5 "term_at" (sp_termAt) := ok_term_at D.term_at B c54_check_beginning c30_check_between c28_lowest_terms
  have g4__law_is_piece_told : CalG P w K mg base 9 "_law_is_piece_told" (sp_pieceTold) := by
    obtain ⟨f, fd, F, m, b⟩ := D.lis_piece_told.ex
    exact ⟨f, fd, _, fn_pieceTold F B c1__law_draw c4__law_sum_terms c17_sum_terms k45_sum_terms c17_is_divisor_piece k46_sum_first c8__law_sum_first c47_sum_level c48_sum_sign c50__law_sign_of c51_divisor_sum c54_term_at, m, F.kp, b⟩
  exact fn_law F B c0__law_deck c1__law_sum_piece c1__law_draw g4__law_is_piece_told
theorem walk {l : PySem.W.OpenLaw} {q : Program} {loose : List Str} {XP : (Str → Option Value) → Heap → Prop} {YP : World → Heap → Prop} {d : DefRec} {K : Params → PySem.W.Frag} (hn : l.most = some 63) (hdf : d.params.defaults = [])
    (hY : ∀ (w : World) (h : Heap), YP w h → (K w.params).In h)
    (F : ∀ (w : World) (mg : Str → Option Value) (fa : Addr) (h : Heap), (K w.params).In h → h.Ns mainGlobals mg → mg d.name = some (.ref fa) →
      ∃ fd : FuncData, (∀ (s : Shared) (u : Value), BindsTo s fd ⟨[u], []⟩ [("_law_script", u)]) ∧ ∀ base : Heap, (K w.params).In base → base.Ns mainGlobals mg → FnG l.prog w (K w.params) mg base 10 fa fd ["_law_script"] (sp_law (K w.params))) :
    PySem.W.WalkO q loose XP YP l.row.toRowW d [] (fun f vs => PySem.call f vs) :=
  walk_g (n := 63) (k := 10) (x := "_law_script") (sp := sp_law) hn (by decide) hdf ⟨rfl, by decide, by decide⟩ hY F (fun _ _ a ns hl hS => ⟨a, ns, rfl, hS, hl, fun _ => rfl⟩)
theorem law_at {l : PySem.W.OpenLaw} {w : World} {K : PySem.W.Frag} {mg : Str → Option Value} {h : Heap} {fa f : Addr} {oc kV doc pm cdv ct : Value} {od an : Option Addr} {osl : Array (Option Value)}  (X : K.In h) (G : h.Ns mainGlobals mg) (hfa : mg "law" = some (.ref fa))
    (a : PySem.W.nsIn K mainGlobals "law" = some (some (.ref f))) (lk : K.lookup f = some ⟨oc, od, .func (PySem.W.fnOf "law" "law" (defArgs s_law) (defBody s_law) (defScope s_law) .none kV doc pm an cdv ct), osl⟩) (c : PySem.W.codeIn K cdv "law" = true) (k : PySem.W.keepIn K (.ref f) = true)
    (D : Dfs K mg) (B : Bi mg) :
    ∃ fd : FuncData, (∀ (s : Shared) (u : Value), BindsTo s fd ⟨[u], []⟩ [("_law_script", u)]) ∧ ∀ base : Heap, K.In base → base.Ns mainGlobals mg → FnG l.prog w K mg base 10 fa fd ["_law_script"] (sp_law K) := by
  have e := hfa.symm.trans (PySem.W.mg_of X G a)
  cases e
  exact ⟨_, fun s u => .of_eq rfl, fun base _ _ => law_all  D B (fun_mk (st := s_law) lk c k)⟩
end Ft

open PySem PySem.W PyProof.Rows in
set_option maxRecDepth 100000 in
set_option maxHeartbeats 0 in
theorem PySem.Challenge.cw_firstterms_k34_terms_of_divisor_pieces_holds : PySem.Challenge.rw_firstterms_k34_terms_of_divisor_pieces.Holds := by
  w_on; o_law; k_head; (case hw => w_witness2)
  k_fill
  refine Ft.walk (l := PySem.Challenge.rw_firstterms_k34_terms_of_divisor_pieces) rfl rfl (fun w h Y => PySem.W.kIn_of Y) ?F
  case F =>
    intro w mg fa h KX G hmg
    refine' Ft.law_at  KX G hmg ?a ?lk ?c ?k ?D ?B
    (case a => k_is); (case lk => k_is); (case c => k_is); (case k => k_is)
    case D =>
      refine ⟨?d0, ?d1, ?d2, ?d3, ?d4, ?d5, ?d6, ?d7, ?d8, ?d9, ?d10, ?d11, ?d12, ?d13, ?d14, ?d15, ?d16, ?d17, ?d18, ?d19, ?d20, ?d21, ?d22, ?d23, ?d24, ?d25, ?d26, ?d27, ?d28, ?d29, ?d30, ?d31, ?d32, ?d33, ?d34, ?d35, ?d36, ?d37, ?d38, ?d39, ?d40, ?d41, ?d42, ?d43, ?d44, ?d45, ?d46, ?d47, ?d48, ?d49, ?d50, ?d51, ?d52, ?d53, ?d54, ?d55, ?d56⟩
      (case d0 => refine' Ft.df_mk KX G ?a0 ?l0 ?c0 ?k0 (Ft.b1 fun _ _ _ _ _ _ _ => rfl); (case a0 => k_is); (case l0 => k_is); (case c0 => k_is); (case k0 => k_is))
      (case d1 => refine' Ft.df_mk KX G ?a1 ?l1 ?c1 ?k1 (Ft.b2 fun _ _ _ _ _ _ _ _ => rfl); (case a1 => k_is); (case l1 => k_is); (case c1 => k_is); (case k1 => k_is))
      (case d2 => refine' Ft.df_mk KX G ?a2 ?l2 ?c2 ?k2 (Ft.b3 fun _ _ _ _ _ _ _ _ _ => rfl); (case a2 => k_is); (case l2 => k_is); (case c2 => k_is); (case k2 => k_is))
      (case d3 => refine' Ft.df_mk KX G ?a3 ?l3 ?c3 ?k3 (Ft.b2 fun _ _ _ _ _ _ _ _ => rfl); (case a3 => k_is); (case l3 => k_is); (case c3 => k_is); (case k3 => k_is))
      (case d4 => refine' Ft.df_mk KX G ?a4 ?l4 ?c4 ?k4 (Ft.b3 fun _ _ _ _ _ _ _ _ _ => rfl); (case a4 => k_is); (case l4 => k_is); (case c4 => k_is); (case k4 => k_is))
      (case d5 => refine' Ft.df_mk KX G ?a5 ?l5 ?c5 ?k5 (Ft.b1 fun _ _ _ _ _ _ _ => rfl); (case a5 => k_is); (case l5 => k_is); (case c5 => k_is); (case k5 => k_is))
      (case d6 => refine' Ft.df_mk KX G ?a6 ?l6 ?c6 ?k6 (Ft.b2 fun _ _ _ _ _ _ _ _ => rfl); (case a6 => k_is); (case l6 => k_is); (case c6 => k_is); (case k6 => k_is))
      (case d7 => refine' Ft.df_mk KX G ?a7 ?l7 ?c7 ?k7 (Ft.b2 fun _ _ _ _ _ _ _ _ => rfl); (case a7 => k_is); (case l7 => k_is); (case c7 => k_is); (case k7 => k_is))
      (case d8 => refine' Ft.df_mk KX G ?a8 ?l8 ?c8 ?k8 (Ft.b2 fun _ _ _ _ _ _ _ _ => rfl); (case a8 => k_is); (case l8 => k_is); (case c8 => k_is); (case k8 => k_is))
      (case d9 => refine' Ft.df_mk KX G ?a9 ?l9 ?c9 ?k9 (Ft.b2 fun _ _ _ _ _ _ _ _ => rfl); (case a9 => k_is); (case l9 => k_is); (case c9 => k_is); (case k9 => k_is))
      (case d10 => refine' Ft.df_mk KX G ?a10 ?l10 ?c10 ?k10 (Ft.b1 fun _ _ _ _ _ _ _ => rfl); (case a10 => k_is); (case l10 => k_is); (case c10 => k_is); (case k10 => k_is))
      (case d11 => refine' Ft.df_mk KX G ?a11 ?l11 ?c11 ?k11 (Ft.b1 fun _ _ _ _ _ _ _ => rfl); (case a11 => k_is); (case l11 => k_is); (case c11 => k_is); (case k11 => k_is))
      (case d12 => refine' Ft.df_mk KX G ?a12 ?l12 ?c12 ?k12 (Ft.b2 fun _ _ _ _ _ _ _ _ => rfl); (case a12 => k_is); (case l12 => k_is); (case c12 => k_is); (case k12 => k_is))
      (case d13 => refine' Ft.df_mk KX G ?a13 ?l13 ?c13 ?k13 (Ft.b1 fun _ _ _ _ _ _ _ => rfl); (case a13 => k_is); (case l13 => k_is); (case c13 => k_is); (case k13 => k_is))
      (case d14 => refine' Ft.df_mk KX G ?a14 ?l14 ?c14 ?k14 (Ft.b2 fun _ _ _ _ _ _ _ _ => rfl); (case a14 => k_is); (case l14 => k_is); (case c14 => k_is); (case k14 => k_is))
      (case d15 => refine' Ft.df_mk KX G ?a15 ?l15 ?c15 ?k15 (Ft.b1 fun _ _ _ _ _ _ _ => rfl); (case a15 => k_is); (case l15 => k_is); (case c15 => k_is); (case k15 => k_is))
      (case d16 => refine' Ft.df_mk KX G ?a16 ?l16 ?c16 ?k16 (Ft.b1 fun _ _ _ _ _ _ _ => rfl); (case a16 => k_is); (case l16 => k_is); (case c16 => k_is); (case k16 => k_is))
      (case d17 => refine' Ft.df_mk KX G ?a17 ?l17 ?c17 ?k17 (Ft.b2 fun _ _ _ _ _ _ _ _ => rfl); (case a17 => k_is); (case l17 => k_is); (case c17 => k_is); (case k17 => k_is))
      (case d18 => refine' Ft.df_mk KX G ?a18 ?l18 ?c18 ?k18 (Ft.b1 fun _ _ _ _ _ _ _ => rfl); (case a18 => k_is); (case l18 => k_is); (case c18 => k_is); (case k18 => k_is))
      (case d19 => refine' Ft.df_mk KX G ?a19 ?l19 ?c19 ?k19 (Ft.b1 fun _ _ _ _ _ _ _ => rfl); (case a19 => k_is); (case l19 => k_is); (case c19 => k_is); (case k19 => k_is))
      (case d20 => refine' Ft.df_mk KX G ?a20 ?l20 ?c20 ?k20 (Ft.b2 fun _ _ _ _ _ _ _ _ => rfl); (case a20 => k_is); (case l20 => k_is); (case c20 => k_is); (case k20 => k_is))
      (case d21 => refine' Ft.df_mk KX G ?a21 ?l21 ?c21 ?k21 (Ft.b2 fun _ _ _ _ _ _ _ _ => rfl); (case a21 => k_is); (case l21 => k_is); (case c21 => k_is); (case k21 => k_is))
      (case d22 => refine' Ft.df_mk KX G ?a22 ?l22 ?c22 ?k22 (Ft.b2 fun _ _ _ _ _ _ _ _ => rfl); (case a22 => k_is); (case l22 => k_is); (case c22 => k_is); (case k22 => k_is))
      (case d23 => refine' Ft.df_mk KX G ?a23 ?l23 ?c23 ?k23 (Ft.b1 fun _ _ _ _ _ _ _ => rfl); (case a23 => k_is); (case l23 => k_is); (case c23 => k_is); (case k23 => k_is))
      (case d24 => refine' Ft.df_mk KX G ?a24 ?l24 ?c24 ?k24 (Ft.b2 fun _ _ _ _ _ _ _ _ => rfl); (case a24 => k_is); (case l24 => k_is); (case c24 => k_is); (case k24 => k_is))
      (case d25 => refine' Ft.df_mk KX G ?a25 ?l25 ?c25 ?k25 (Ft.b3 fun _ _ _ _ _ _ _ _ _ => rfl); (case a25 => k_is); (case l25 => k_is); (case c25 => k_is); (case k25 => k_is))
      (case d26 => refine' Ft.df_mk KX G ?a26 ?l26 ?c26 ?k26 (Ft.b1 fun _ _ _ _ _ _ _ => rfl); (case a26 => k_is); (case l26 => k_is); (case c26 => k_is); (case k26 => k_is))
      (case d27 => refine' Ft.df_mk KX G ?a27 ?l27 ?c27 ?k27 (Ft.b1 fun _ _ _ _ _ _ _ => rfl); (case a27 => k_is); (case l27 => k_is); (case c27 => k_is); (case k27 => k_is))
      (case d28 => refine' Ft.df_mk KX G ?a28 ?l28 ?c28 ?k28 (Ft.b1 fun _ _ _ _ _ _ _ => rfl); (case a28 => k_is); (case l28 => k_is); (case c28 => k_is); (case k28 => k_is))
      (case d29 => refine' Ft.df_mk KX G ?a29 ?l29 ?c29 ?k29 (Ft.b1 fun _ _ _ _ _ _ _ => rfl); (case a29 => k_is); (case l29 => k_is); (case c29 => k_is); (case k29 => k_is))
      (case d30 => refine' Ft.df_mk KX G ?a30 ?l30 ?c30 ?k30 (Ft.b1 fun _ _ _ _ _ _ _ => rfl); (case a30 => k_is); (case l30 => k_is); (case c30 => k_is); (case k30 => k_is))
      (case d31 => refine' Ft.df_mk KX G ?a31 ?l31 ?c31 ?k31 (Ft.b1 fun _ _ _ _ _ _ _ => rfl); (case a31 => k_is); (case l31 => k_is); (case c31 => k_is); (case k31 => k_is))
      (case d32 => refine' Ft.df_mk KX G ?a32 ?l32 ?c32 ?k32 (Ft.b2 fun _ _ _ _ _ _ _ _ => rfl); (case a32 => k_is); (case l32 => k_is); (case c32 => k_is); (case k32 => k_is))
      (case d33 => refine' Ft.df_mk KX G ?a33 ?l33 ?c33 ?k33 (Ft.b2 fun _ _ _ _ _ _ _ _ => rfl); (case a33 => k_is); (case l33 => k_is); (case c33 => k_is); (case k33 => k_is))
      (case d34 => refine' Ft.df_mk KX G ?a34 ?l34 ?c34 ?k34 (Ft.b4 fun _ _ _ _ _ _ _ _ _ _ => rfl); (case a34 => k_is); (case l34 => k_is); (case c34 => k_is); (case k34 => k_is))
      (case d35 => refine' Ft.df_mk KX G ?a35 ?l35 ?c35 ?k35 (Ft.b1 fun _ _ _ _ _ _ _ => rfl); (case a35 => k_is); (case l35 => k_is); (case c35 => k_is); (case k35 => k_is))
      (case d36 => refine' Ft.df_mk KX G ?a36 ?l36 ?c36 ?k36 (Ft.b4 fun _ _ _ _ _ _ _ _ _ _ => rfl); (case a36 => k_is); (case l36 => k_is); (case c36 => k_is); (case k36 => k_is))
      (case d37 => refine' Ft.df_mk KX G ?a37 ?l37 ?c37 ?k37 (Ft.b1 fun _ _ _ _ _ _ _ => rfl); (case a37 => k_is); (case l37 => k_is); (case c37 => k_is); (case k37 => k_is))
      (case d38 => refine' Ft.df_mk KX G ?a38 ?l38 ?c38 ?k38 (Ft.b2 fun _ _ _ _ _ _ _ _ => rfl); (case a38 => k_is); (case l38 => k_is); (case c38 => k_is); (case k38 => k_is))
      (case d39 => refine' Ft.df_mk KX G ?a39 ?l39 ?c39 ?k39 (Ft.b2 fun _ _ _ _ _ _ _ _ => rfl); (case a39 => k_is); (case l39 => k_is); (case c39 => k_is); (case k39 => k_is))
      (case d40 => refine' Ft.df_mk KX G ?a40 ?l40 ?c40 ?k40 (Ft.b2 fun _ _ _ _ _ _ _ _ => rfl); (case a40 => k_is); (case l40 => k_is); (case c40 => k_is); (case k40 => k_is))
      (case d41 => refine' Ft.df_mk KX G ?a41 ?l41 ?c41 ?k41 (Ft.b2 fun _ _ _ _ _ _ _ _ => rfl); (case a41 => k_is); (case l41 => k_is); (case c41 => k_is); (case k41 => k_is))
      (case d42 => refine' Ft.df_mk KX G ?a42 ?l42 ?c42 ?k42 (Ft.b2 fun _ _ _ _ _ _ _ _ => rfl); (case a42 => k_is); (case l42 => k_is); (case c42 => k_is); (case k42 => k_is))
      (case d43 => refine' Ft.df_mk KX G ?a43 ?l43 ?c43 ?k43 (Ft.b2 fun _ _ _ _ _ _ _ _ => rfl); (case a43 => k_is); (case l43 => k_is); (case c43 => k_is); (case k43 => k_is))
      (case d44 => refine' Ft.df_mk KX G ?a44 ?l44 ?c44 ?k44 (Ft.b2 fun _ _ _ _ _ _ _ _ => rfl); (case a44 => k_is); (case l44 => k_is); (case c44 => k_is); (case k44 => k_is))
      (case d45 => refine' Ft.df_mk KX G ?a45 ?l45 ?c45 ?k45 (Ft.b2 fun _ _ _ _ _ _ _ _ => rfl); (case a45 => k_is); (case l45 => k_is); (case c45 => k_is); (case k45 => k_is))
      (case d46 => refine' Ft.df_mk KX G ?a46 ?l46 ?c46 ?k46 (Ft.b1 fun _ _ _ _ _ _ _ => rfl); (case a46 => k_is); (case l46 => k_is); (case c46 => k_is); (case k46 => k_is))
      (case d47 => refine' Ft.df_mk KX G ?a47 ?l47 ?c47 ?k47 (Ft.b2 fun _ _ _ _ _ _ _ _ => rfl); (case a47 => k_is); (case l47 => k_is); (case c47 => k_is); (case k47 => k_is))
      (case d48 => refine' Ft.df_mk KX G ?a48 ?l48 ?c48 ?k48 (Ft.b2 fun _ _ _ _ _ _ _ _ => rfl); (case a48 => k_is); (case l48 => k_is); (case c48 => k_is); (case k48 => k_is))
      (case d49 => refine' Ft.df_mk KX G ?a49 ?l49 ?c49 ?k49 (Ft.b1 fun _ _ _ _ _ _ _ => rfl); (case a49 => k_is); (case l49 => k_is); (case c49 => k_is); (case k49 => k_is))
      (case d50 => refine' Ft.df_mk KX G ?a50 ?l50 ?c50 ?k50 (Ft.b2 fun _ _ _ _ _ _ _ _ => rfl); (case a50 => k_is); (case l50 => k_is); (case c50 => k_is); (case k50 => k_is))
      (case d51 => refine' Ft.df_mk KX G ?a51 ?l51 ?c51 ?k51 (Ft.b1 fun _ _ _ _ _ _ _ => rfl); (case a51 => k_is); (case l51 => k_is); (case c51 => k_is); (case k51 => k_is))
      (case d52 => refine' Ft.df_mk KX G ?a52 ?l52 ?c52 ?k52 (Ft.b4 fun _ _ _ _ _ _ _ _ _ _ => rfl); (case a52 => k_is); (case l52 => k_is); (case c52 => k_is); (case k52 => k_is))
      (case d53 => refine' Ft.df_mk KX G ?a53 ?l53 ?c53 ?k53 (Ft.b2 fun _ _ _ _ _ _ _ _ => rfl); (case a53 => k_is); (case l53 => k_is); (case c53 => k_is); (case k53 => k_is))
      (case d54 => refine' Ft.df_mk KX G ?a54 ?l54 ?c54 ?k54 (Ft.b2 fun _ _ _ _ _ _ _ _ => rfl); (case a54 => k_is); (case l54 => k_is); (case c54 => k_is); (case k54 => k_is))
      (case d55 => refine' Ft.df_mk KX G ?a55 ?l55 ?c55 ?k55 (Ft.b2 fun _ _ _ _ _ _ _ _ => rfl); (case a55 => k_is); (case l55 => k_is); (case c55 => k_is); (case k55 => k_is))
      (case d56 => refine' Ft.df_mk KX G ?a56 ?l56 ?c56 ?k56 (Ft.b1 fun _ _ _ _ _ _ _ => rfl); (case a56 => k_is); (case l56 => k_is); (case c56 => k_is); (case k56 => k_is))
    case B =>
      refine' ⟨PySem.W.mg_none_of KX G ?z0, PySem.W.mg_none_of KX G ?z1, PySem.W.mg_none_of KX G ?z2, PySem.W.mg_of KX G ?z3, PySem.W.mg_none_of KX G ?z4, PySem.W.mg_none_of KX G ?z5, PySem.W.mg_of KX G ?z6, PySem.W.mg_none_of KX G ?z7, PySem.W.mg_none_of KX G ?z8, PySem.W.mg_none_of KX G ?z9, PySem.W.mg_of KX G ?z10, PySem.W.mg_none_of KX G ?z11, PySem.W.mg_none_of KX G ?z12, PySem.W.mg_none_of KX G ?z13, PySem.W.mg_none_of KX G ?z14, PySem.W.mg_none_of KX G ?z15, PySem.W.mg_none_of KX G ?z16, PySem.W.mg_none_of KX G ?z17, PySem.W.mg_none_of KX G ?z18, PySem.W.mg_none_of KX G ?z19, PySem.W.mg_none_of KX G ?z20, PySem.W.mg_none_of KX G ?z21, PySem.W.mg_none_of KX G ?z22⟩
      (case z0 => k_is)
      (case z1 => k_is)
      (case z2 => k_is)
      (case z3 => k_is)
      (case z4 => k_is)
      (case z5 => k_is)
      (case z6 => k_is)
      (case z7 => k_is)
      (case z8 => k_is)
      (case z9 => k_is)
      (case z10 => k_is)
      (case z11 => k_is)
      (case z12 => k_is)
      (case z13 => k_is)
      (case z14 => k_is)
      (case z15 => k_is)
      (case z16 => k_is)
      (case z17 => k_is)
      (case z18 => k_is)
      (case z19 => k_is)
      (case z20 => k_is)
      (case z21 => k_is)
      (case z22 => k_is)

