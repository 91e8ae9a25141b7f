import PyProof.Rows.All
import Wide.All
import OpenK.AllK
import Wide.FinOn
import HandS.ForMost
import HandS.Flow
import HandS.Wide
import HandS.Gcd
import HandS.IsInst
import HandS.Zip
import HandS.Ends
import HandS.Walk
import KE.KMathGC
import Flt.RightSqrt
import HandS.Style
import PyProof.ReprBulk
import PyProof.Rows.StrJoinMade
import HandS.Iter
import HandS.Dict
import KE.KDictPairs
import HandS.SortRule
import HandS.TupAny
import HandS.More
import HandS.Conv
import HandS.SortInts
import HandS.ExcInit
import HandS.ExcField
import HandS.TryMany
import HandS.TryOnly
import HandS.ExcOwn
import HandS.WordsExc
import KE.KExcInit
import KE.KExcPX
import HandS.EndTab
import HandS.Lambda
import KE.KNestM
import HandS.Small
import HandS.RaiseMore
import KE.KExcLine
import PySem.Challenge.RW_firstterms_k23_levels_and_signs_of_produ
set_option Elab.async false
set_option maxRecDepth 100000
namespace Ft
open PySem L2

/-! ### general: what a def may be called for -/
structure Cal (P : Program) (w : World) (K : PySem.W.Frag) (mg : Str → Option Value) (base : Heap) (k : Nat) (x : Str) (sp : Sp) : Prop where
  ex : ∃ (f : Addr) (fd : FuncData) (ps : List Str), FnOk P w K mg base CX0 k f fd ps sp ∧ mg x = some (.ref f) ∧ PySem.W.keepIn K (.ref f) = true ∧ Binds K fd ps []
/-- a def of the top: its text stands, its name leads to it, its arguments bind -/
structure Df (K : PySem.W.Frag) (mg : Str → Option Value) (x : Str) (st : Stmt) (ps : List Str) : Prop where
  ex : ∃ (f : Addr) (fd : FuncData), Fun K x x st f fd ∧ mg x = some (.ref f) ∧ Binds K fd ps []
section
variable {X : Cx} {k j : Nat} {x : Str} {sp : Sp} {p pos : Pos} {e : Expr} {es : List Expr} {t : TA}
theorem pe_c (c : Cal X.prog X.w X.K X.mg X.base k x sp) (hr : Room j X.A) (hk : k ≤ j) (hg : Gl X x) (ha : PA X (e :: es) t)
    (hdb : (x == ("__debug__" : Str)) = false := by decide) (he : starEach (e :: es) X.env = (false, eval e X.env) :: starEach es X.env := by rfl) (hpl : (backTo pos (starEach es X.env)).any (·.1) = false := by rfl) :
    PE X (.Call (.Name x p) (e :: es) [] pos) (tCall sp [] E0 t) := by
  obtain ⟨f, fd, ps, F, hm, kp, b⟩ := c.ex
  exact pe_call F (hr.mono hk) hg hm kp b .nil pass0 ha hdb he hpl
end
/-- what may be called for by keywords alone, in this order -/
structure CalK (P : Program) (w : World) (K : PySem.W.Frag) (mg : Str → Option Value) (base : Heap) (k : Nat) (x : Str) (ks : List Str) (gV : List V → List V → List V) (sp : Sp) : Prop where
  ex : ∃ (f : Addr) (fd : FuncData) (ps : List Str) (g : List Value → List Value → List Value), FnOk P w K mg base CX0 k f fd ps sp ∧ mg x = some (.ref f) ∧ PySem.W.keepIn K (.ref f) = true ∧ KBinds K fd ps ks g gV
section
variable {X : Cx} {k j : Nat} {x : Str} {ks : List Str} {gV : List V → List V → List V} {sp : Sp} {p pos : Pos} {kws : List Keyword} {tk : TA}
theorem pe_k0 (c : CalK X.prog X.w X.K X.mg X.base k x ks gV sp) (hr : Room j X.A) (hk : k ≤ j) (hg : Gl X x) (hkw : PK X kws tk)
    (hall : (backToKw pos (keywordEach kws X.env)).all (·.1.isSome) = true := by rfl) (hks : (backToKw pos (keywordEach kws X.env)).filterMap (·.1) = ks := by rfl) (hdb : (x == ("__debug__" : Str)) = false := by decide)
    (hpl : ((backTo pos (starEach [] X.env)).any (·.1) || (backToKw pos (keywordEach kws X.env)).any (·.1.isNone)) = false := by rfl) :
    PE X (.Call (.Name x p) [] kws pos) (tCallK sp gV E0 tNil tk) := by
  obtain ⟨f, fd, ps, g, F, hm, kp, b⟩ := c.ex
  refine ⟨fun pins s σ H Q I h => wpAny_Call_Name_kw (ld_glob I hg hm ?_ hdb)⟩
  refine PySem.W.callWith_KW0 (h₀ := X.base) I.ok.mod.kin kp hall (thn (hkw.run pos pins s σ H _ I h) fun ws s2 ⟨zs, H2, I2, rz, q2⟩ => ⟨I2.kIn, ?_⟩) hpl
  rw [hks]
  exact run_fnk F (hr.mono hk) b pass0 I2 .nil rz q2
end
section
variable {X : Cx}
theorem pe_ty {x : Str} {n : String} {pos : Pos} (hg : Gl X x) (hm : X.mg x = none) (hv : bootBuiltins x = some (.type n)) (hn : x ≠ "__name__" := by decide) (hd : (x == ("__debug__" : Str)) = false := by decide) : PE X (.Name x pos) (tC (.ty n)) := pe_bltn hg hm hv rfl hn hd
end
theorem kit_int_int {K : PySem.W.Frag} : PySem.W.kitOne K (.type "int") (.type "int") = some true := kit_ty (by decide +kernel)
theorem kit_int_bool {K : PySem.W.Frag} : PySem.W.kitOne K (.type "int") (.type "bool") = some false := kit_ty (by decide +kernel)
theorem ifD {c A B : Prop} [Decidable c] (h1 : c → A) (h2 : ¬ c → B) : if decide c = true then A else B := by
  by_cases h : c
  · rw [decide_eq_true h]; exact iteT (h1 h)
  · rw [decide_eq_false h]; exact iteF (h2 h)
theorem ifI {i j : Int} {A B : Prop} (h1 : i = j → A) (h2 : i ≠ j → B) : if decide (V.int i = V.int j) = true then A else B :=
  ifD (fun h => h1 (V.int.inj h)) fun h => h2 fun e => h (congrArg V.int e)
theorem ifN {c A B : Prop} [Decidable c] (h1 : ¬ c → A) (h2 : c → B) : if (!decide c) = true then A else B := by
  by_cases h : c
  · rw [decide_eq_true h]; exact iteF (h2 h)
  · rw [decide_eq_false h]; exact iteT (h1 h)
theorem ifNI {i j : Int} {A B : Prop} (h1 : i ≠ j → A) (h2 : i = j → B) : if (!decide (V.int i = V.int j)) = true then A else B :=
  ifN (fun h => h1 fun e => h (congrArg V.int e)) fun h => h2 (V.int.inj h)
/-- what follows, said once for all ways that lead there -/
theorem tSeq_join {a b : TS} {D : Ends} {σ : L2.St} {H : Hp} (J : L2.St → Hp → Prop) (h1 : ∀ N : L2.St → Hp → Prop, (∀ σ H, J σ H → N σ H) → a { D with nx := N } σ H) (h2 : ∀ σ H, J σ H → b D σ H) : tSeq a b D σ H := h1 (b D) h2
/-- while, by an invariant and a measure -/
theorem while_go {c : TT} {tb : TS} {D : Ends} {σ : L2.St} {H : Hp} (Pv : L2.St → Hp → Prop) (μ : L2.St → Hp → Nat) (h0 : Pv σ H)
    (hs : ∀ σ H, Pv σ H → c σ H fun b H1 => if b = true then ∃ N : L2.St → Hp → Prop, (∀ σ' H', N σ' H' → ∃ m', m' < μ σ H ∧ m' = μ σ' H' ∧ Pv σ' H') ∧ tb { D with nx := N, ct := N, bk := D.nx } σ H1 else D.nx σ H1) :
    tWhile c tb D σ H := by
  refine ⟨fun m σ H => m = μ σ H ∧ Pv σ H, ⟨_, rfl, h0⟩, ?_⟩
  rintro m σ H ⟨rfl, p⟩
  exact hs σ H p
/-- math.isqrt below 2 ^ 64 -/
def rIsqrt : List V → Hp → VK → Prop := fun vs H Q => ∃ a : Int, vs = [.int a] ∧ 0 ≤ a ∧ a < 2 ^ 64 ∧ Q (.int ((Float64.isqrt a.toNat : Nat) : Int)) H
theorem cr_isqrt {X : Cx} : CallR X (.builtin "math.isqrt") rIsqrt := by
  intro pins s σ H vs us Q I r h
  obtain ⟨a, rfl, h0, h1, q⟩ := h
  obtain ⟨u, rfl, t, rfl⟩ := vals1 r
  exact PySem.W.mg_isqrt h0 h1 ⟨.int _, H, I.tok _, ⟨_, rfl⟩, q⟩
/-- the built-ins of the text -/
structure Bi (mg : Str → Option Value) : Prop where
  abs : mg "abs" = none
  all : mg "all" = none
  bool : mg "bool" = none
  dict : mg "dict" = none
  gcd : mg "gcd" = some (.builtin "math.gcd")
  int : mg "int" = none
  int_ : mg "int" = none
  isinstance : mg "isinstance" = none
  isqrt : mg "isqrt" = some (.builtin "math.isqrt")
  lcm : mg "lcm" = some (.builtin "math.lcm")
  len : mg "len" = none
  len_ : mg "len" = none
  list : mg "list" = none
  max : mg "max" = none
  max_ : mg "max" = none
  range : mg "range" = none
  repr : mg "repr" = none
  reversed : mg "reversed" = none
  sorted : mg "sorted" = none
  sum : mg "sum" = none
  tuple : mg "tuple" = none
  zip : mg "zip" = none
/-- math.comb of ints from 0 to 18000 -/
def rComb : List V → Hp → VK → Prop := fun vs H Q => ∃ a b : Int, vs = [.int a, .int b] ∧ 0 ≤ a ∧ 0 ≤ b ∧ a ≤ 18000 ∧ Q (.int (PySem.W.mcComb a b)) H
theorem cr_comb {X : Cx} : CallR X (.builtin "math.comb") rComb := by
  intro pins s σ H vs us Q I r h
  obtain ⟨a, b, rfl, h0, h1, h2, q⟩ := h
  obtain ⟨t, u, rfl⟩ := Vals.int2 r
  exact PySem.W.mc_comb h0 h1 (by omega) (.inr h2) fun _ => ⟨.int _, H, I.tok _, ⟨_, rfl⟩, q⟩
end Ft

namespace Ft
open PySem L2
def top (i : Nat) : Stmt := PySem.Challenge.pw_firstterms_k23_levels_and_signs_of_produ.main.body.getD i (.Pass ⟨0, 0, 0, 0⟩)
abbrev s_is_integer : Stmt := top 8
abbrev N_is_integer : List Str := ["thing"]
theorem sc_is_integer : FnScope N_is_integer ["thing"] (defScope s_is_integer) := ⟨rfl, rfl, rfl, by decide +kernel, rfl, by decide +kernel, by decide +kernel⟩
abbrev s_is_between : Stmt := top 9
abbrev N_is_between : List Str := ["thing", "least", "most"]
theorem sc_is_between : FnScope N_is_between ["thing", "least", "most"] (defScope s_is_between) := ⟨rfl, rfl, rfl, by decide +kernel, rfl, by decide +kernel, by decide +kernel⟩
abbrev s_is_tuple_of_integers : Stmt := top 10
abbrev N_is_tuple_of_integers : List Str := ["thing", "many", "item"]
theorem sc_is_tuple_of_integers : FnScope N_is_tuple_of_integers ["thing", "many"] (defScope s_is_tuple_of_integers) := ⟨rfl, rfl, rfl, by decide +kernel, rfl, by decide +kernel, by decide +kernel⟩
abbrev s_is_pair_of_integers : Stmt := top 11
abbrev N_is_pair_of_integers : List Str := ["thing"]
theorem sc_is_pair_of_integers : FnScope N_is_pair_of_integers ["thing"] (defScope s_is_pair_of_integers) := ⟨rfl, rfl, rfl, by decide +kernel, rfl, by decide +kernel, by decide +kernel⟩
abbrev s_check_level : Stmt := top 12
abbrev N_check_level : List Str := ["level"]
theorem sc_check_level : FnScope N_check_level ["level"] (defScope s_check_level) := ⟨rfl, rfl, rfl, by decide +kernel, rfl, by decide +kernel, by decide +kernel⟩
abbrev s_common_multiple : Stmt := top 14
abbrev N_common_multiple : List Str := ["integers", "result", "integer"]
theorem sc_common_multiple : FnScope N_common_multiple ["integers"] (defScope s_common_multiple) := ⟨rfl, rfl, rfl, by decide +kernel, rfl, by decide +kernel, by decide +kernel⟩
abbrev s_is_sign : Stmt := top 16
abbrev N_is_sign : List Str := ["thing"]
theorem sc_is_sign : FnScope N_is_sign ["thing"] (defScope s_is_sign) := ⟨rfl, rfl, rfl, by decide +kernel, rfl, by decide +kernel, by decide +kernel⟩
abbrev s_sign_of : Stmt := top 17
abbrev N_sign_of : List Str := ["m"]
theorem sc_sign_of : FnScope N_sign_of ["m"] (defScope s_sign_of) := ⟨rfl, rfl, rfl, by decide +kernel, rfl, by decide +kernel, by decide +kernel⟩
abbrev s_any_sign_of : Stmt := top 18
abbrev N_any_sign_of : List Str := ["m", "bare"]
theorem sc_any_sign_of : FnScope N_any_sign_of ["m"] (defScope s_any_sign_of) := ⟨rfl, rfl, rfl, by decide +kernel, rfl, by decide +kernel, by decide +kernel⟩
abbrev s_without_squares : Stmt := top 19
abbrev N_without_squares : List Str := ["m", "rest", "bare", "p", "root"]
theorem sc_without_squares : FnScope N_without_squares ["m"] (defScope s_without_squares) := ⟨rfl, rfl, rfl, by decide +kernel, rfl, by decide +kernel, by decide +kernel⟩
abbrev s_is_product : Stmt := top 21
abbrev N_is_product : List Str := ["thing", "pair", "i"]
theorem sc_is_product : FnScope N_is_product ["thing"] (defScope s_is_product) := ⟨rfl, rfl, rfl, by decide +kernel, rfl, by decide +kernel, by decide +kernel⟩
abbrev s_is_product_pair : Stmt := top 22
abbrev N_is_product_pair : List Str := ["thing", "d", "r"]
theorem sc_is_product_pair : FnScope N_is_product_pair ["thing"] (defScope s_is_product_pair) := ⟨rfl, rfl, rfl, by decide +kernel, rfl, by decide +kernel, by decide +kernel⟩
abbrev s_check_product : Stmt := top 23
abbrev N_check_product : List Str := ["product"]
theorem sc_check_product : FnScope N_check_product ["product"] (defScope s_check_product) := ⟨rfl, rfl, rfl, by decide +kernel, rfl, by decide +kernel, by decide +kernel⟩
abbrev s_is_whole : Stmt := top 24
abbrev N_is_whole : List Str := ["product", "d", "r"]
theorem sc_is_whole : FnScope N_is_whole ["product"] (defScope s_is_whole) := ⟨rfl, rfl, rfl, by decide +kernel, rfl, by decide +kernel, by decide +kernel⟩
abbrev s_does_fit : Stmt := top 25
abbrev N_does_fit : List Str := ["product", "level", "d", "r"]
theorem sc_does_fit : FnScope N_does_fit ["product", "level"] (defScope s_does_fit) := ⟨rfl, rfl, rfl, by decide +kernel, rfl, by decide +kernel, by decide +kernel⟩
abbrev s_does_all_divide : Stmt := top 26
abbrev N_does_all_divide : List Str := ["product", "level", "d", "r"]
theorem sc_does_all_divide : FnScope N_does_all_divide ["product", "level"] (defScope s_does_all_divide) := ⟨rfl, rfl, rfl, by decide +kernel, rfl, by decide +kernel, by decide +kernel⟩
abbrev s_product_level : Stmt := top 27
abbrev N_product_level : List Str := ["product", "d", "r", "common", "turned"]
theorem sc_product_level : FnScope N_product_level ["product"] (defScope s_product_level) := ⟨rfl, rfl, rfl, by decide +kernel, rfl, by decide +kernel, by decide +kernel⟩
abbrev s_product_sign : Stmt := top 28
abbrev N_product_sign : List Str := ["product", "d", "r", "weight", "m"]
theorem sc_product_sign : FnScope N_product_sign ["product"] (defScope s_product_sign) := ⟨rfl, rfl, rfl, by decide +kernel, rfl, by decide +kernel, by decide +kernel⟩
abbrev s__law_deck : Stmt := top 30
abbrev N__law_deck : List Str := ["_law_script", "_law_mixed", "_law_cell"]
theorem sc__law_deck : FnScope N__law_deck ["_law_script"] (defScope s__law_deck) := ⟨rfl, rfl, rfl, by decide +kernel, rfl, by decide +kernel, by decide +kernel⟩
abbrev s__law_draw : Stmt := top 31
abbrev N__law_draw : List Str := ["_law_deck_here", "_law_many", "_law_figure", "_law_cell"]
theorem sc__law_draw : FnScope N__law_draw ["_law_deck_here", "_law_many"] (defScope s__law_draw) := ⟨rfl, rfl, rfl, by decide +kernel, rfl, by decide +kernel, by decide +kernel⟩
abbrev s__law_pick : Stmt := top 32
abbrev N__law_pick : List Str := ["_law_deck_here", "_law_some"]
theorem sc__law_pick : FnScope N__law_pick ["_law_deck_here", "_law_some"] (defScope s__law_pick) := ⟨rfl, rfl, rfl, by decide +kernel, rfl, by decide +kernel, by decide +kernel⟩
abbrev s__law_same : Stmt := top 33
abbrev N__law_same : List Str := ["_law_told", "_law_due"]
theorem sc__law_same : FnScope N__law_same ["_law_told", "_law_due"] (defScope s__law_same) := ⟨rfl, rfl, rfl, by decide +kernel, rfl, by decide +kernel, by decide +kernel⟩
abbrev s__law_divisor : Stmt := top 34
abbrev N__law_divisor : List Str := ["_law_one", "_law_other"]
theorem sc__law_divisor : FnScope N__law_divisor ["_law_one", "_law_other"] (defScope s__law_divisor) := ⟨rfl, rfl, rfl, by decide +kernel, rfl, by decide +kernel, by decide +kernel⟩
abbrev s__law_divisors : Stmt := top 35
abbrev N__law_divisors : List Str := ["_law_n", "_law_d"]
theorem sc__law_divisors : FnScope N__law_divisors ["_law_n"] (defScope s__law_divisors) := ⟨rfl, rfl, rfl, by decide +kernel, rfl, by decide +kernel, by decide +kernel⟩
abbrev s__law_product : Stmt := top 36
abbrev N__law_product : List Str := ["_law_deck_here", "_law_pairs", "_law_most", "_law_high", "_law_found", "_law_turn", "_law_d", "_law_r"]
theorem sc__law_product : FnScope N__law_product ["_law_deck_here", "_law_pairs", "_law_most", "_law_high"] (defScope s__law_product) := ⟨rfl, rfl, rfl, by decide +kernel, rfl, by decide +kernel, by decide +kernel⟩
abbrev s__law_whole : Stmt := top 37
abbrev N__law_whole : List Str := ["_law_deck_here", "_law_level_here", "_law_low", "_law_high", "_law_divisors_here", "_law_r", "_law_d", "_law_total", "_law_near", "_law_far", "_law_some", "_law_one", "_law_other", "_law_last", "_law_weight"]
theorem sc__law_whole : FnScope N__law_whole ["_law_deck_here", "_law_level_here", "_law_low", "_law_high"] (defScope s__law_whole) := ⟨rfl, rfl, rfl, by decide +kernel, rfl, by decide +kernel, by decide +kernel⟩
abbrev s__law_does_fit : Stmt := top 38
abbrev N__law_does_fit : List Str := ["_law_product_here", "_law_level_here", "_law_d", "_law_r", "_law_near", "_law_far"]
theorem sc__law_does_fit : FnScope N__law_does_fit ["_law_product_here", "_law_level_here"] (defScope s__law_does_fit) := ⟨rfl, rfl, rfl, by decide +kernel, rfl, by decide +kernel, by decide +kernel⟩
abbrev s__law_level : Stmt := top 39
abbrev N__law_level : List Str := ["_law_product_here", "_law_least", "_law_d", "_law_r"]
theorem sc__law_level : FnScope N__law_level ["_law_product_here"] (defScope s__law_level) := ⟨rfl, rfl, rfl, by decide +kernel, rfl, by decide +kernel, by decide +kernel⟩
abbrev s__law_product_sign : Stmt := top 40
abbrev N__law_product_sign : List Str := ["_law_product_here", "_law_d", "_law_r", "_law_odd", "_law_found", "_law_rest", "_law_p"]
theorem sc__law_product_sign : FnScope N__law_product_sign ["_law_product_here"] (defScope s__law_product_sign) := ⟨rfl, rfl, rfl, by decide +kernel, rfl, by decide +kernel, by decide +kernel⟩
abbrev s__law_refused : Stmt := top 41
abbrev N__law_refused : List Str := ["_law_call", "_law_told"]
theorem sc__law_refused : FnScope N__law_refused ["_law_call"] (defScope s__law_refused) := ⟨rfl, rfl, rfl, by decide +kernel, rfl, by decide +kernel, by decide +kernel⟩
abbrev s__law_is_sign_right : Stmt := top 42
abbrev N__law_is_sign_right : List Str := ["_law_product_here", "_law_level_here", "_law_told", "_law_due", "_law_d", "_law_r", "_law_number"]
theorem sc__law_is_sign_right : FnScope N__law_is_sign_right ["_law_product_here", "_law_level_here"] (defScope s__law_is_sign_right) := ⟨rfl, rfl, rfl, by decide +kernel, rfl, by decide +kernel, by decide +kernel⟩
abbrev s__law_are_fits_right : Stmt := top 43
abbrev N__law_are_fits_right : List Str := ["_law_deck_here", "_law_product_here", "_law_level_here", "_law_n", "_law_fits", "_law_turn", "_law_some"]
theorem sc__law_are_fits_right : FnScope N__law_are_fits_right ["_law_deck_here", "_law_product_here", "_law_level_here"] (defScope s__law_are_fits_right) := ⟨rfl, rfl, rfl, by decide +kernel, rfl, by decide +kernel, by decide +kernel⟩
abbrev s_law : Stmt := top 44
abbrev N_law : List Str := ["_law_script", "_law_deck_here", "_law_turn", "_law_level_here", "_law_product_here", "_law_way", "_law_most", "_law_high", "_law_at", "_law_d", "_law_r", "_law_more", "_law_least"]
theorem sc_law : FnScope N_law ["_law_script"] (defScope s_law) := ⟨rfl, rfl, rfl, by decide +kernel, rfl, by decide +kernel, by decide +kernel⟩
end Ft

namespace Ft
open PySem L2

/-! ### the mirror of the program's defs -/
def valueTwo (s : Int) : Int := if s % 2 = 0 then 0 else if s % 8 = 1 then 1 else -1
/-- a sign as an int: true is 1 -/
def sg (v : Bool) : Int := if v = true then 1 else -1
def halve (b : Nat) : Nat → Nat → Bool → Nat × Bool
  | 0, t, v => (t, v)
  | f + 1, t, v => if t % 2 = 0 then halve b f (t / 2) (if b % 8 = 3 ∨ b % 8 = 5 then !v else v) else (t, v)
def jac : Nat → Nat → Nat → Bool → Nat × Bool
  | 0, _, b, v => (b, v)
  | f + 1, t, b, v => if t = 0 then (b, v) else
    let r := halve b t t v
    jac f (b % r.1) r.1 (if r.1 % 4 = 3 ∧ b % 4 = 3 then !r.2 else r.2)
def valueOdd (top : Int) (b : Nat) : Int :=
  let r := jac b (top % (b : Int)).toNat b true
  if r.1 = 1 then sg r.2 else 0
def twos (z : Int) : Nat → Nat → Int → Nat × Int
  | 0, r, v => (r, v)
  | f + 1, r, v => if r % 2 = 0 then twos z f (r / 2) (v * z) else (r, v)
def valueRest (s : Int) (r : Nat) : Int :=
  if r = 0 then (if s = 1 then 1 else 0) else
    let q := twos (valueTwo s) r r 1
    q.2 * valueOdd s q.1
def valueAt (s n : Int) : Int := valueRest s (n % (s.natAbs : Int)).toNat
def sqs (p : Nat) : Nat → Nat → Nat
  | 0, r => r
  | f + 1, r => if r % (p * p) = 0 then sqs p f (r / (p * p)) else r
def wsq : Nat → Nat → Int → Nat → Nat × Int
  | 0, r, b, _ => (r, b)
  | f + 1, r, b, p => if p * p * p ≤ r then
      let r1 := sqs p r r
      if r1 % p = 0 then wsq f (r1 / p) (b * p) (p + 1) else wsq f r1 b (p + 1)
    else (r, b)
def without (m : Int) : Int :=
  let q := wsq m.natAbs m.natAbs (if 0 < m then 1 else -1) 2
  if Float64.isqrt q.1 * Float64.isqrt q.1 = q.1 then q.2 else q.2 * q.1
def anySign (m : Int) : Int := if without m % 4 = 1 then without m else 4 * without m
def isSign (n : Int) : Bool := decide (-400 ≤ n) && (decide (n ≤ 400) && (decide (n ≠ 0) && decide (anySign n = n)))

/-! ### promises -/
def sp1 (C : Int → Prop) (g : Int → V) : Sp := fun vs H Q _ => ∃ n, vs = [.int n] ∧ C n ∧ Q (g n) H
def sp2 (C : Int → Int → Prop) (g : Int → Int → V) : Sp := fun vs H Q _ => ∃ m n, vs = [.int m, .int n] ∧ C m n ∧ Q (g m n) H
def sp3 (C : Int → Int → Int → Prop) (g : Int → Int → Int → V) : Sp := fun vs H Q _ => ∃ l m n, vs = [.int l, .int m, .int n] ∧ C l m n ∧ Q (g l m n) H
theorem sp1_len {C g} : ∀ vs H Q E, sp1 C g vs H Q E → vs.length = 1 := fun _ _ _ _ ⟨_, e, _⟩ => by rw [e]; rfl
theorem sp2_len {C g} : ∀ vs H Q E, sp2 C g vs H Q E → vs.length = 2 := fun _ _ _ _ ⟨_, _, e, _⟩ => by rw [e]; rfl
theorem sp3_len {C g} : ∀ vs H Q E, sp3 C g vs H Q E → vs.length = 3 := fun _ _ _ _ ⟨_, _, _, e, _⟩ => by rw [e]; rfl
def sp_is_integer : Sp := sp1 (fun _ => True) fun _ => .bl true
def sp_is_between : Sp := sp3 (fun _ _ _ => True) fun n a b => .bl (decide (a ≤ n) && decide (n ≤ b))
def sp_check_integer : Sp := sp1 (fun _ => True) fun _ => .non
def sp_is_sign : Sp := sp1 (fun _ => True) fun n => .bl (isSign n)
def sp_check_sign : Sp := sp1 (fun n => isSign n = true) fun _ => .non
def sp_value_at_two : Sp := sp1 (fun _ => True) fun n => .int (valueTwo n)
def sp_value_at_odd : Sp := sp2 (fun _ b => 0 < b) fun t b => .int (valueOdd t b.toNat)
def sp_value_at : Sp := sp2 (fun s _ => s ≠ 0) fun s n => .int (valueAt s n)
def sp_sign_at : Sp := sp2 (fun s _ => isSign s = true) fun s n => .int (valueAt s n)
def sp_without_squares : Sp := sp1 (fun m => m ≠ 0 ∧ m.natAbs ≤ 160000) fun m => .int (without m)
def sp_any_sign_of : Sp := sp1 (fun m => m ≠ 0 ∧ m.natAbs ≤ 160000) fun m => .int (anySign m)
def sp_joined_sign : Sp := sp2 (fun a b => isSign a = true ∧ isSign b = true) fun a b => .int (anySign (a * b))

section
variable {P : Program} {w : World} {K : PySem.W.Frag} {mg : Str → Option Value} {base : Heap}
theorem ok_is_integer (D : Df K mg "is_integer" s_is_integer ["thing"]) (B : Bi mg)  : Cal P w K mg base 1 "is_integer" sp_is_integer := by
  obtain ⟨f, fd, F, m, b⟩ := D.ex
  have sc := sc_is_integer
  refine ⟨f, fd, _, F.ok sc sp1_len (fun cdv A outer s H vs Q E hr h => ?_), m, F.kp, b⟩
  obtain ⟨n, rfl, _, q⟩ := h
  have hu := hu_of hr
  refine ⟨_, (pss_one (ps_ret (pe_and (pe_callB call_isi (by rfl) B.isinstance (by decide +kernel) (pa_cons (pv 0) (pa_cons (pe_ty (n := "int") (by rfl) B.int_ (by decide +kernel)) pa_nil))) (pe_one (pe_not (pe_callB call_isi (by rfl) B.isinstance (by decide +kernel) (pa_cons (pv 0) (pa_cons (pe_ty (n := "bool") (by rfl) B.bool (by decide +kernel)) pa_nil)))))))), ?_⟩
  refine ⟨_, rfl, _, _, _, _, true, rfl, .ty _, .base (.int n), kit_int_int, true, rfl, iteT ?_⟩
  refine ⟨_, rfl, _, _, _, _, false, rfl, .ty _, .base (.int n), kit_int_bool, false, rfl, ?_⟩
  exact q
theorem ok_is_between (D : Df K mg "is_between" s_is_between ["thing", "least", "most"]) (c_is_integer : Cal P w K mg base 1 "is_integer" sp_is_integer) : Cal P w K mg base 2 "is_between" sp_is_between := by
  obtain ⟨f, fd, F, m, b⟩ := D.ex
  have sc := sc_is_between
  refine ⟨f, fd, _, F.ok sc sp3_len (fun cdv A outer s H vs Q E hr h => ?_), m, F.kp, b⟩
  obtain ⟨n, lo, hi, rfl, _, q⟩ := h
  have hu := hu_of hr
  refine ⟨_, (pss_one (ps_ret (pe_and (pe_c c_is_integer hr (by decide) (by rfl) (pa_cons (pv 0) pa_nil)) (pe_one (pe_chain op_le op_le (pv 1) (pv 0) (pv 2)))))), ?_⟩
  refine ⟨_, rfl, n, rfl, trivial, true, rfl, iteT ?_⟩
  refine ⟨_, rfl, _, rfl, lo, n, rfl, rfl, _, rfl, ?_⟩
  refine ifD (fun h => ?_) fun h => ?_
  · refine ⟨_, rfl, n, hi, rfl, rfl, ?_⟩
    simp only [decide_eq_true h, Bool.true_and] at q
    exact q
  · simp only [decide_eq_false h, Bool.false_and] at q
    exact q
end
end Ft

namespace Ft
open PySem L2
theorem sg_not (v : Bool) : -(sg v) = sg (!v) := by cases v <;> decide
theorem sg_true : sg true = 1 := by decide
/-- the int in slot i, as a measure -/
def m0 (i : Nat) (σ : L2.St) : Nat := match σ[i]? with
  | some (some (.int z)) => z.toNat
  | _ => 0
theorem st3 {a b c a' b' c' : Int} (h1 : a = a') (h2 : b = b') (h3 : c = c') : [some (V.int a), some (V.int b), some (V.int c)] = [some (V.int a'), some (V.int b'), some (V.int c')] := by rw [h1, h2, h3]
theorem halve_go {b f t : Nat} {v : Bool} (h : t % 2 = 0) : halve b (f + 1) t v = halve b f (t / 2) (if b % 8 = 3 ∨ b % 8 = 5 then !v else v) := by
  show (if t % 2 = 0 then _ else _) = _
  rw [if_pos h]
theorem halve_stop {b f t : Nat} {v : Bool} (h : ¬ t % 2 = 0) : halve b f t v = (t, v) := by
  cases f with
  | zero => rfl
  | succ f => show (if t % 2 = 0 then _ else _) = _; rw [if_neg h]
theorem jac_stop {b f : Nat} {v : Bool} : jac f 0 b v = (b, v) := by
  cases f with
  | zero => rfl
  | succ f => show (if (0:Nat) = 0 then _ else _) = _; rw [if_pos rfl]
theorem jac_go {b f t t' : Nat} {v v' : Bool} (h : t ≠ 0) (e : halve b t t v = (t', v')) : jac (f + 1) t b v = jac f (b % t') t' (if t' % 4 = 3 ∧ b % 4 = 3 then !v' else v') := by
  show (if t = 0 then _ else _) = _
  rw [if_neg h]
  dsimp only
  rw [e]

section
variable {P : Program} {w : World} {K : PySem.W.Frag} {mg : Str → Option Value} {base : Heap}
end
end Ft

namespace Ft
open PySem L2
theorem st4 {a b c d a' b' c' d' : Int} (h1 : a = a') (h2 : b = b') (h3 : c = c') (h4 : d = d') : [some (V.int a), some (V.int b), some (V.int c), some (V.int d)] = [some (V.int a'), some (V.int b'), some (V.int c'), some (V.int d')] := by rw [h1, h2, h3, h4]
theorem cdivN {i : Int} {n : Nat} (h0 : 0 < n) (h : n < 2 ^ 64) : CDivW i (n : Int) := wide_div (b := 64) (by omega) (by omega) (by decide) (by decide)
theorem cmulL {i : Int} {n : Nat} (h : n < 2 ^ 64) : CMul (n : Int) i := .inl ⟨by omega, by omega⟩
theorem cmulR {i : Int} {n : Nat} (h : n < 2 ^ 64) : CMul i (n : Int) := .inr ⟨by omega, by omega⟩
theorem twos_go {z : Int} {f r : Nat} {v : Int} (h : r % 2 = 0) : twos z (f + 1) r v = twos z f (r / 2) (v * z) := by
  show (if r % 2 = 0 then _ else _) = _
  rw [if_pos h]
theorem twos_stop {z : Int} {f r : Nat} {v : Int} (h : ¬ r % 2 = 0) : twos z f r v = (r, v) := by
  cases f with
  | zero => rfl
  | succ f => show (if r % 2 = 0 then _ else _) = _; rw [if_neg h]
theorem valueTwo_le (s : Int) : -1 ≤ valueTwo s ∧ valueTwo s ≤ 1 := by
  unfold valueTwo
  split
  · omega
  · split <;> omega
theorem sqs_go {p f r : Nat} (h : r % (p * p) = 0) : sqs p (f + 1) r = sqs p f (r / (p * p)) := by
  show (if r % (p * p) = 0 then _ else _) = _
  rw [if_pos h]
theorem sqs_stop {p f r : Nat} (h : ¬ r % (p * p) = 0) : sqs p f r = r := by
  cases f with
  | zero => rfl
  | succ f => show (if r % (p * p) = 0 then _ else _) = _; rw [if_neg h]
theorem wsq_stop {f r p : Nat} {b : Int} (h : ¬ p * p * p ≤ r) : wsq f r b p = (r, b) := by
  cases f with
  | zero => rfl
  | succ f => show (if p * p * p ≤ r then _ else _) = _; rw [if_neg h]
theorem wsq_go1 {f r p r1 : Nat} {b : Int} (h : p * p * p ≤ r) (e : sqs p r r = r1) (h1 : r1 % p = 0) : wsq (f + 1) r b p = wsq f (r1 / p) (b * p) (p + 1) := by
  show (if p * p * p ≤ r then _ else _) = _
  rw [if_pos h]
  dsimp only
  rw [e, if_pos h1]
theorem wsq_go2 {f r p r1 : Nat} {b : Int} (h : p * p * p ≤ r) (e : sqs p r r = r1) (h1 : ¬ r1 % p = 0) : wsq (f + 1) r b p = wsq f r1 b (p + 1) := by
  show (if p * p * p ≤ r then _ else _) = _
  rw [if_pos h]
  dsimp only
  rw [e, if_neg h1]
theorem cube_le {p r : Nat} (h : p * p * p ≤ r) (hp : 2 ≤ p) : p < r := by
  have h1 : 2 * p ≤ p * p := Nat.mul_le_mul_right p hp
  have h2 : p * p * 2 ≤ p * p * p := Nat.mul_le_mul_left (p * p) hp
  omega
theorem div_small {r q : Nat} (h : r % q = 0) (hr : 0 < r) (hq : 2 ≤ q) : 0 < r / q ∧ r / q < r := by
  refine ⟨?_, Nat.div_lt_self hr hq⟩
  have e := Nat.div_add_mod r q
  rw [h, Nat.add_zero] at e
  refine Nat.pos_of_ne_zero fun z => ?_
  rw [z, Nat.mul_zero] at e
  omega
theorem sq_small {p : Nat} (h : p ≤ 160001) : p * p < 2 ^ 64 := Nat.lt_of_le_of_lt (Nat.mul_le_mul h h) (by decide)
theorem isqrt_le (n : Nat) : Float64.isqrt n ≤ n := by
  have h := (Float64.isqrt_spec n).1
  rcases Nat.eq_zero_or_pos (Float64.isqrt n) with z | z
  · omega
  · exact Nat.le_trans (Nat.le_mul_of_pos_left _ z) h

section
variable {P : Program} {w : World} {K : PySem.W.Frag} {mg : Str → Option Value} {base : Heap}
theorem ok_without_squares (D : Df K mg "without_squares" s_without_squares ["m"]) (B : Bi mg)  : Cal P w K mg base 1 "without_squares" sp_without_squares := by
  obtain ⟨f, fd, F, m, b⟩ := D.ex
  have sc := sc_without_squares
  refine ⟨f, fd, _, F.ok sc sp1_len (fun cdv A outer s H vs Q E hr h => ?_), m, F.kp, b⟩
  obtain ⟨z, rfl, ⟨hz, hz2⟩, q⟩ := h
  replace q : Q (.int (without z)) H := q
  refine ⟨_, (pss_cons (ps_set (i := 1) sc.nd rfl (Or.inl rfl) (pe_callB call_abs (by rfl) B.abs (by decide +kernel) (pa_cons (pv 0) pa_nil)))
      (pss_cons (ps_set (i := 2) sc.nd rfl (Or.inl rfl) (pe_ifExp (pt_cmpR op_gt (pv 0) pe_int (nomark _)) pe_int (pe_un un_neg pe_int)))
      (pss_cons (ps_set (i := 3) sc.nd rfl (Or.inl rfl) pe_int)
      (pss_cons (ps_while PassesOwn.never (pt_cmpR op_le (pe_op op_mul (pe_op op_mul (pv 3) (pv 3)) (pv 3)) (pv 1) (nomark _))
      (pss_cons (ps_while PassesOwn.never (pt_cmpR op_eq (pe_op op_mod (pv 1) (pe_op op_mul (pv 3) (pv 3))) pe_int (nomark _))
        (pss_one (ps_set (i := 1) sc.nd rfl (Or.inl rfl) (pe_op op_fdivW (pv 1) (pe_op op_mul (pv 3) (pv 3))))))
        (pss_cons (ps_if (pt_cmpR op_eq (pe_op op_mod (pv 1) (pv 3)) pe_int (nomark _))
        (pss_cons (ps_set (i := 1) sc.nd rfl (Or.inl rfl) (pe_op op_fdivW (pv 1) (pv 3)))
          (pss_one (ps_set (i := 2) sc.nd rfl (Or.inl rfl) (pe_op op_mul (pv 2) (pv 3)))))
        pss_nil)
        (pss_one (ps_aug (i := 3) sc.nd rfl (Or.inl rfl) pe_int ip_add)))))
      (pss_cons (ps_set (i := 4) sc.nd rfl (Or.inl rfl) (pe_callBfun cr_isqrt (by rfl) B.isqrt (pa_cons (pv 1) pa_nil)))
      (pss_one (ps_ret (pe_ifExp (pt_cmpR op_eq (pe_op op_mul (pv 4) (pv 4)) (pv 1) (nomark _)) (pv 2) (pe_op op_mul (pv 2) (pv 1)))))))))), ?_⟩
  have ea : (if z < 0 then -z else z) = (z.natAbs : Int) := by split <;> omega
  have st5 : ∀ {b2 c2 d2 b' c' d' : Int} {x : Option V}, b2 = b' → c2 = c' → d2 = d' → [some (V.int z), some (V.int b2), some (V.int c2), some (V.int d2), x] = [some (V.int z), some (V.int b'), some (V.int c'), some (V.int d'), x] := fun h1 h2 h3 => by rw [h1, h2, h3]
  have st5r : ∀ {b2 c2 d2 b' : Int} {x : Option V}, b2 = b' → [some (V.int z), some (V.int b2), some (V.int c2), some (V.int d2), x] = [some (V.int z), some (V.int b'), some (V.int c2), some (V.int d2), x] := fun h1 => by rw [h1]
  unfold without at q
  refine ⟨_, rfl, z, rfl, ?_⟩
  refine ⟨_, rfl, _, _, rfl, rfl, _, rfl, ifD (fun e => ?_) fun e => ⟨_, rfl, ?_⟩⟩
  · rw [if_pos e] at q
    generalize hR : wsq z.natAbs z.natAbs 1 2 = R at q
    dsimp only at q
    refine while_go (fun σ H' => H = H' ∧ ∃ (f r p : Nat) (b : Int), σ = [some (.int z), some (.int (r : Nat)), some (.int b), some (.int (p : Nat)), none] ∧ 0 < r ∧ r ≤ 160000 ∧ 2 ≤ p ∧ p ≤ 160001 ∧ r < f + p ∧ wsq f r b p = R) (fun σ _ => m0 1 σ + 160002 - m0 3 σ)
      ⟨rfl, z.natAbs, z.natAbs, 2, _, st5 ea rfl rfl, by omega, by omega, by decide, by decide, by omega, hR⟩ ?_
    rintro σ _ ⟨rfl, f, r, p, b, rfl, r0, r1, p2, p3, hf, hw⟩
    have hpp := sq_small p3
    have hpl : p < 2 ^ 64 := by omega
    refine ⟨_, rfl, _, rfl, _, _, rfl, rfl, cmulL hpl, _, rfl, _, _, rfl, rfl, cmulR hpl, _, rfl, _, _, rfl, rfl, _, rfl, ifD (fun e => ?_) fun e => ?_⟩
    · have e' : p * p * p ≤ r := Int.ofNat_le.mp e
      have pr := cube_le e' p2
      have pp0 : 0 < p * p := Nat.mul_pos (by omega) (by omega)
      have pp2 : 2 ≤ p * p := Nat.le_trans p2 (Nat.le_mul_of_pos_left _ (by omega))
      obtain ⟨f', rfl⟩ : ∃ n, f = n + 1 := ⟨f - 1, by omega⟩
      refine ⟨fun σ' H' => H = H' ∧ ∃ (f r' p' : Nat) (b : Int), σ' = [some (.int z), some (.int (r' : Nat)), some (.int b), some (.int (p' : Nat)), none] ∧ 0 < r' ∧ r' ≤ 160000 ∧ 2 ≤ p' ∧ p' ≤ 160001 ∧ r' < f + p' ∧ wsq f r' b p' = R ∧ r' ≤ r ∧ p' = p + 1, ?_, ?_⟩
      · rintro σ' _ ⟨rfl, f2, r', p', b', rfl, k1, k2, k3, k4, k5, k6, k7, k8⟩
        exact ⟨_, (by show ((r' : Int)).toNat + 160002 - ((p' : Int)).toNat < ((r : Int)).toNat + 160002 - ((p : Int)).toNat; omega), rfl, rfl, f2, r', p', b', rfl, k1, k2, k3, k4, k5, k6⟩
      refine while_go (fun σ H' => H = H' ∧ ∃ (g t : Nat), σ = [some (.int z), some (.int (t : Nat)), some (.int b), some (.int (p : Nat)), none] ∧ 0 < t ∧ t ≤ g ∧ t ≤ r ∧ sqs p g t = sqs p r r) (fun σ _ => m0 1 σ)
        ⟨rfl, r, r, rfl, r0, Nat.le_refl _, Nat.le_refl _, rfl⟩ ?_
      rintro σ _ ⟨rfl, g, t, rfl, h1, h2, h3, h4⟩
      refine ⟨_, rfl, _, rfl, _, rfl, _, _, rfl, rfl, cmulL hpl, _, _, rfl, rfl, (by show (0 : Int) < ((p * p : Nat) : Int); omega), rfl, _, rfl, ifI (fun em => ?_) fun em => ?_⟩
      · have em' : t % (p * p) = 0 := Int.ofNat.inj em
        obtain ⟨g', rfl⟩ : ∃ n, g = n + 1 := ⟨g - 1, by omega⟩
        rw [sqs_go em'] at h4
        have ds := div_small em' h1 pp2
        refine ⟨fun σ' H' => H = H' ∧ ∃ (g t' : Nat), σ' = [some (.int z), some (.int (t' : Nat)), some (.int b), some (.int (p : Nat)), none] ∧ 0 < t' ∧ t' ≤ g ∧ t' ≤ r ∧ sqs p g t' = sqs p r r ∧ t' < t, ?_, ?_⟩
        · rintro σ' _ ⟨rfl, g2, t', rfl, k1, k2, k3, k4, k5⟩
          exact ⟨_, (by show ((t' : Int)).toNat < ((t : Int)).toNat; omega), rfl, rfl, g2, t', rfl, k1, k2, k3, k4⟩
        refine ⟨_, rfl, _, rfl, _, rfl, _, _, rfl, rfl, cmulL hpl, _, _, rfl, rfl, cdivN pp0 hpp, ?_⟩
        exact ⟨rfl, g', t / (p * p), rfl, ds.1, by omega, by omega, h4, ds.2⟩
      · have em' : ¬ t % (p * p) = 0 := fun z => em (congrArg Int.ofNat z)
        rw [sqs_stop em'] at h4
        refine ⟨_, rfl, _, rfl, _, _, rfl, rfl, (by show (0 : Int) < (p : Int); omega), rfl, _, rfl, ifI (fun ep => ?_) fun ep => ?_⟩
        · have ep' : t % p = 0 := Int.ofNat.inj ep
          have hg := wsq_go1 (f := f') (b := b) e' h4.symm ep'
          rw [hw] at hg
          have ds := div_small ep' h1 p2
          refine ⟨_, rfl, _, rfl, _, _, rfl, rfl, cdivN (by omega) hpl, ?_⟩
          refine ⟨_, rfl, _, rfl, _, _, rfl, rfl, cmulR hpl, ?_⟩
          refine ⟨_, rfl, _, _, rfl, rfl, ?_⟩
          exact ⟨rfl, f', t / p, p + 1, b * p, rfl, ds.1, by omega, by omega, by omega, by omega, hg.symm, by omega, rfl⟩
        · have ep' : ¬ t % p = 0 := fun z => ep (congrArg Int.ofNat z)
          have hg := wsq_go2 (f := f') (b := b) e' h4.symm ep'
          rw [hw] at hg
          refine ⟨_, rfl, _, _, rfl, rfl, ?_⟩
          exact ⟨rfl, f', t, p + 1, b, rfl, h1, by omega, by omega, by omega, by omega, hg.symm, by omega, rfl⟩
    · have e' : ¬ p * p * p ≤ r := fun z => e (Int.ofNat_le.mpr z)
      rw [wsq_stop e'] at hw
      subst hw
      dsimp only at q
      have hi := isqrt_le r
      refine ⟨_, rfl, _, rfl, by omega, by omega, ?_⟩
      refine ⟨_, rfl, _, rfl, _, _, rfl, rfl, cmulL (n := Float64.isqrt r) (by omega), _, rfl, rfl, _, rfl, ifI (fun er => ?_) fun er => ?_⟩
      · rw [if_pos (show Float64.isqrt r * Float64.isqrt r = r from Int.ofNat.inj er)] at q
        exact ⟨_, rfl, q⟩
      · rw [if_neg (show ¬ Float64.isqrt r * Float64.isqrt r = r from fun z => er (congrArg Int.ofNat z))] at q
        exact ⟨_, rfl, _, rfl, _, _, rfl, rfl, cmulR (by omega), q⟩
  · rw [if_neg e] at q
    generalize hR : wsq z.natAbs z.natAbs (-1) 2 = R at q
    dsimp only at q
    refine while_go (fun σ H' => H = H' ∧ ∃ (f r p : Nat) (b : Int), σ = [some (.int z), some (.int (r : Nat)), some (.int b), some (.int (p : Nat)), none] ∧ 0 < r ∧ r ≤ 160000 ∧ 2 ≤ p ∧ p ≤ 160001 ∧ r < f + p ∧ wsq f r b p = R) (fun σ _ => m0 1 σ + 160002 - m0 3 σ)
      ⟨rfl, z.natAbs, z.natAbs, 2, _, st5 ea rfl rfl, by omega, by omega, by decide, by decide, by omega, hR⟩ ?_
    rintro σ _ ⟨rfl, f, r, p, b, rfl, r0, r1, p2, p3, hf, hw⟩
    have hpp := sq_small p3
    have hpl : p < 2 ^ 64 := by omega
    refine ⟨_, rfl, _, rfl, _, _, rfl, rfl, cmulL hpl, _, rfl, _, _, rfl, rfl, cmulR hpl, _, rfl, _, _, rfl, rfl, _, rfl, ifD (fun e => ?_) fun e => ?_⟩
    · have e' : p * p * p ≤ r := Int.ofNat_le.mp e
      have pr := cube_le e' p2
      have pp0 : 0 < p * p := Nat.mul_pos (by omega) (by omega)
      have pp2 : 2 ≤ p * p := Nat.le_trans p2 (Nat.le_mul_of_pos_left _ (by omega))
      obtain ⟨f', rfl⟩ : ∃ n, f = n + 1 := ⟨f - 1, by omega⟩
      refine ⟨fun σ' H' => H = H' ∧ ∃ (f r' p' : Nat) (b : Int), σ' = [some (.int z), some (.int (r' : Nat)), some (.int b), some (.int (p' : Nat)), none] ∧ 0 < r' ∧ r' ≤ 160000 ∧ 2 ≤ p' ∧ p' ≤ 160001 ∧ r' < f + p' ∧ wsq f r' b p' = R ∧ r' ≤ r ∧ p' = p + 1, ?_, ?_⟩
      · rintro σ' _ ⟨rfl, f2, r', p', b', rfl, k1, k2, k3, k4, k5, k6, k7, k8⟩
        exact ⟨_, (by show ((r' : Int)).toNat + 160002 - ((p' : Int)).toNat < ((r : Int)).toNat + 160002 - ((p : Int)).toNat; omega), rfl, rfl, f2, r', p', b', rfl, k1, k2, k3, k4, k5, k6⟩
      refine while_go (fun σ H' => H = H' ∧ ∃ (g t : Nat), σ = [some (.int z), some (.int (t : Nat)), some (.int b), some (.int (p : Nat)), none] ∧ 0 < t ∧ t ≤ g ∧ t ≤ r ∧ sqs p g t = sqs p r r) (fun σ _ => m0 1 σ)
        ⟨rfl, r, r, rfl, r0, Nat.le_refl _, Nat.le_refl _, rfl⟩ ?_
      rintro σ _ ⟨rfl, g, t, rfl, h1, h2, h3, h4⟩
      refine ⟨_, rfl, _, rfl, _, rfl, _, _, rfl, rfl, cmulL hpl, _, _, rfl, rfl, (by show (0 : Int) < ((p * p : Nat) : Int); omega), rfl, _, rfl, ifI (fun em => ?_) fun em => ?_⟩
      · have em' : t % (p * p) = 0 := Int.ofNat.inj em
        obtain ⟨g', rfl⟩ : ∃ n, g = n + 1 := ⟨g - 1, by omega⟩
        rw [sqs_go em'] at h4
        have ds := div_small em' h1 pp2
        refine ⟨fun σ' H' => H = H' ∧ ∃ (g t' : Nat), σ' = [some (.int z), some (.int (t' : Nat)), some (.int b), some (.int (p : Nat)), none] ∧ 0 < t' ∧ t' ≤ g ∧ t' ≤ r ∧ sqs p g t' = sqs p r r ∧ t' < t, ?_, ?_⟩
        · rintro σ' _ ⟨rfl, g2, t', rfl, k1, k2, k3, k4, k5⟩
          exact ⟨_, (by show ((t' : Int)).toNat < ((t : Int)).toNat; omega), rfl, rfl, g2, t', rfl, k1, k2, k3, k4⟩
        refine ⟨_, rfl, _, rfl, _, rfl, _, _, rfl, rfl, cmulL hpl, _, _, rfl, rfl, cdivN pp0 hpp, ?_⟩
        exact ⟨rfl, g', t / (p * p), rfl, ds.1, by omega, by omega, h4, ds.2⟩
      · have em' : ¬ t % (p * p) = 0 := fun z => em (congrArg Int.ofNat z)
        rw [sqs_stop em'] at h4
        refine ⟨_, rfl, _, rfl, _, _, rfl, rfl, (by show (0 : Int) < (p : Int); omega), rfl, _, rfl, ifI (fun ep => ?_) fun ep => ?_⟩
        · have ep' : t % p = 0 := Int.ofNat.inj ep
          have hg := wsq_go1 (f := f') (b := b) e' h4.symm ep'
          rw [hw] at hg
          have ds := div_small ep' h1 p2
          refine ⟨_, rfl, _, rfl, _, _, rfl, rfl, cdivN (by omega) hpl, ?_⟩
          refine ⟨_, rfl, _, rfl, _, _, rfl, rfl, cmulR hpl, ?_⟩
          refine ⟨_, rfl, _, _, rfl, rfl, ?_⟩
          exact ⟨rfl, f', t / p, p + 1, b * p, rfl, ds.1, by omega, by omega, by omega, by omega, hg.symm, by omega, rfl⟩
        · have ep' : ¬ t % p = 0 := fun z => ep (congrArg Int.ofNat z)
          have hg := wsq_go2 (f := f') (b := b) e' h4.symm ep'
          rw [hw] at hg
          refine ⟨_, rfl, _, _, rfl, rfl, ?_⟩
          exact ⟨rfl, f', t, p + 1, b, rfl, h1, by omega, by omega, by omega, by omega, hg.symm, by omega, rfl⟩
    · have e' : ¬ p * p * p ≤ r := fun z => e (Int.ofNat_le.mpr z)
      rw [wsq_stop e'] at hw
      subst hw
      dsimp only at q
      have hi := isqrt_le r
      refine ⟨_, rfl, _, rfl, by omega, by omega, ?_⟩
      refine ⟨_, rfl, _, rfl, _, _, rfl, rfl, cmulL (n := Float64.isqrt r) (by omega), _, rfl, rfl, _, rfl, ifI (fun er => ?_) fun er => ?_⟩
      · rw [if_pos (show Float64.isqrt r * Float64.isqrt r = r from Int.ofNat.inj er)] at q
        exact ⟨_, rfl, q⟩
      · rw [if_neg (show ¬ Float64.isqrt r * Float64.isqrt r = r from fun z => er (congrArg Int.ofNat z))] at q
        exact ⟨_, rfl, _, rfl, _, _, rfl, rfl, cmulR (by omega), q⟩
theorem ok_any_sign_of (D : Df K mg "any_sign_of" s_any_sign_of ["m"]) (c_without_squares : Cal P w K mg base 1 "without_squares" sp_without_squares) : Cal P w K mg base 2 "any_sign_of" sp_any_sign_of := by
  obtain ⟨f, fd, F, m, b⟩ := D.ex
  have sc := sc_any_sign_of
  refine ⟨f, fd, _, F.ok sc sp1_len (fun cdv A outer s H vs Q E hr h => ?_), m, F.kp, b⟩
  obtain ⟨z, rfl, hz, q⟩ := h
  replace q : Q (.int (anySign z)) H := q
  refine ⟨_, (pss_cons (ps_set (i := 1) sc.nd rfl (Or.inl rfl) (pe_c c_without_squares hr (by decide) (by rfl) (pa_cons (pv 0) pa_nil)))
      (pss_one (ps_ret (pe_ifExp (pt_cmpR op_eq (pe_op op_mod (pv 1) pe_int) pe_int (nomark _)) (pv 1) (pe_op op_mul pe_int (pv 1)))))), ?_⟩
  unfold anySign at q
  refine ⟨_, rfl, z, rfl, hz, ?_⟩
  refine ⟨_, rfl, _, _, rfl, rfl, (by show (0 : Int) < 4; decide), rfl, _, rfl, ifI (fun e => ?_) fun e => ?_⟩
  · rw [if_pos e] at q; exact ⟨_, rfl, q⟩
  · rw [if_neg e] at q; exact ⟨_, rfl, _, _, rfl, rfl, .inl ⟨by decide, by decide⟩, q⟩
theorem ok_is_sign (D : Df K mg "is_sign" s_is_sign ["thing"]) (c_any_sign_of : Cal P w K mg base 2 "any_sign_of" sp_any_sign_of) (c_is_between : Cal P w K mg base 2 "is_between" sp_is_between) : Cal P w K mg base 3 "is_sign" sp_is_sign := by
  obtain ⟨f, fd, F, m, b⟩ := D.ex
  have sc := sc_is_sign
  refine ⟨f, fd, _, F.ok sc sp1_len (fun cdv A outer s H vs Q E hr h => ?_), m, F.kp, b⟩
  obtain ⟨z, rfl, _, q⟩ := h
  replace q : Q (.bl (isSign z)) H := q
  refine ⟨_, (pss_one (ps_ret (pe_and (pe_c c_is_between hr (by decide) (by rfl) (pa_cons (pv 0) (pa_cons (pe_un un_neg pe_int) (pa_cons pe_int pa_nil)))) (pe_and (pe_cmpR op_ne (pv 0) pe_int (nomark _)) (pe_one (pe_cmpR op_eq (pe_c c_any_sign_of hr (by decide) (by rfl) (pa_cons (pv 0) pa_nil)) (pv 0) (nomark _))))))), ?_⟩
  unfold isSign at q
  refine ⟨_, rfl, _, rfl, z, -400, 400, rfl, trivial, _, rfl, ?_⟩
  cases e1 : decide (-400 ≤ z)
  · rw [e1] at q; exact iteF q
  · cases e2 : decide (z ≤ 400)
    · rw [e1, e2] at q; exact iteF q
    · rw [e1, e2] at q
      refine iteT ?_
      refine ⟨_, rfl, rfl, _, rfl, ifNI (fun e => ?_) fun e => ?_⟩
      · rw [decide_eq_true e] at q
        have k1 := of_decide_eq_true e1
        have k2 := of_decide_eq_true e2
        refine ⟨_, rfl, z, rfl, ⟨e, by omega⟩, _, rfl, rfl, ?_⟩
        have ee : decide (V.int (anySign z) = V.int z) = decide (anySign z = z) := by
          by_cases h : anySign z = z
          · rw [decide_eq_true h, h]; exact decide_eq_true rfl
          · rw [decide_eq_false h]; exact decide_eq_false fun k => h (V.int.inj k)
        show Q (.bl (decide (V.int (anySign z) = V.int z))) H
        rw [ee]
        exact q
      · rw [show decide (z ≠ 0) = false from decide_eq_false fun k => k e] at q
        exact q
theorem isSign_le {z : Int} (h : isSign z = true) : z.natAbs ≤ 400 ∧ z ≠ 0 ∧ anySign z = z := by
  unfold isSign at h
  simp only [Bool.and_eq_true, decide_eq_true_eq] at h
  omega
theorem mul_le_160000 {a b : Int} (ha : a.natAbs ≤ 400) (hb : b.natAbs ≤ 400) : (a * b).natAbs ≤ 160000 := by
  rw [Int.natAbs_mul]
  exact Nat.mul_le_mul ha hb
end
end Ft

/-! Defs that are called where no repr is under way (A.guards = some []): their texts may say repr of a list or a tuple. -/
namespace Ft
open PySem L2 PySem.Spec PyProof.Rows

structure FnG (P : Program) (w : World) (K : PySem.W.Frag) (mg : Str → Option Value) (base : Heap) (k : Nat) (f : Addr) (fd : FuncData) (ps : List Str) (sp : Sp) : Prop where
  len : ∀ vs H Q E, sp vs H Q E → vs.length = ps.length
  go : ∀ (A : Around) (outer : List Env) (s : Shared) (H : Hp) (args : Args) (us : List Value) (vs : List V) (Q : VK) (E : XK), A.guards = some [] → Room k A →
    Env0 P w K mg base A outer s H → BindsTo s fd args (ps.zip us) → Vals vs us → sp vs H Q E → codeAny (model P w) A (.call (.ref f) args) (CR CX0 outer P w H s Q E) s
theorem FnG.of {P : Program} {w : World} {K : PySem.W.Frag} {mg : Str → Option Value} {base : Heap} {k : Nat} {f : Addr} {fd : FuncData} {ps : List Str} {sp : Sp} (F : FnOk P w K mg base CX0 k f fd ps sp) : FnG P w K mg base k f fd ps sp :=
  ⟨F.len, fun A outer s H args us vs Q E _ => F.run A outer s H args us vs Q E⟩
/-- what may be called for, where no repr is under way -/
structure CalG (P : Program) (w : World) (K : PySem.W.Frag) (mg : Str → Option Value) (base : Heap) (k : Nat) (x : Str) (sp : Sp) : Prop where
  ex : ∃ (f : Addr) (fd : FuncData) (ps : List Str), FnG P w K mg base k f fd ps sp ∧ mg x = some (.ref f) ∧ PySem.W.keepIn K (.ref f) = true ∧ Binds K fd ps []
section
variable {X : Cx} {k j : Nat} {x : Str} {sp : Sp} {p pos : Pos} {e : Expr} {es : List Expr} {t : TA}
theorem pe_g (c : CalG X.prog X.w X.K X.mg X.base k x sp) (hgd : X.A.guards = some []) (hr : Room j X.A) (hk : k ≤ j) (hg : Gl X x) (ha : PA X (e :: es) t)
    (hdb : (x == ("__debug__" : Str)) = false := by decide) (he : starEach (e :: es) X.env = (false, eval e X.env) :: starEach es X.env := by rfl) (hpl : (backTo pos (starEach es X.env)).any (·.1) = false := by rfl) :
    PE X (.Call (.Name x p) (e :: es) [] pos) (tCall sp [] E0 t) := by
  obtain ⟨f, fd, ps, F, hm, kp, b⟩ := c.ex
  refine ⟨fun pins s σ H Q I h => wpAny_Call_Name_kw (ld_glob I hg hm ?_ hdb)⟩
  refine PySem.W.callWith_K (h₀ := X.base) I.ok.mod.kin kp (thn (ha.run pos pins s σ H _ I h) fun us s1 ⟨vs, H1, I1, rv, q1⟩ => ⟨I1.kIn, ?_⟩) he hpl
  have rv' : Vals (vs ++ []) us := by rw [List.append_nil]; exact rv
  have hl : us.length = ps.length := by
    have z := F.len _ _ _ _ q1
    rw [rv'.length] at z
    exact z
  have bd := b s1 us I1.kIn (by rw [List.append_nil]; exact hl)
  rw [List.append_nil] at bd
  refine wpAny_call (codeAny_mono (F.go X.A X.stack s1 H1 ⟨us, []⟩ us (vs ++ []) Q E0 hgd (hr.mono hk) I1.env0 bd rv' q1) fun r s2 hq => ?_)
  match r, hq with
  | .error _, hq => exact (hq : False).elim
  | .ok (.ret _), hq => exact I1.after hq
  | .ok .next, hq => exact (hq : False).elim
  | .ok .brk, hq => exact (hq : False).elim
  | .ok .cont, hq => exact (hq : False).elim
end
/-- a def by its body, where no repr is under way -/
theorem fun_g {P : Program} {w : World} {K : PySem.W.Frag} {mg : Str → Option Value} {base : Heap} {x qual : Str} {st : Stmt} {f : Addr} {fd : FuncData} {N ps : List Str} {k : Nat} {sp : Sp} (F : Fun K x qual st f fd) (S : FnScope N ps (defScope st))
    (len : ∀ vs H Q E, sp vs H Q E → vs.length = ps.length)
    (body : ∀ (cdv : Value) (A : Around) (outer : List Env) (s : Shared) (H : Hp) (vs : List V) (Q : VK) (E : XK), (A.deeper (envOfC qual (defScope st) s.heap.objs.size f cdv)).guards = some [] →
      Room k (A.deeper (envOfC qual (defScope st) s.heap.objs.size f cdv)) → sp vs H Q E →
      ∃ t, PSs (cxOf CX0 P w K mg base N qual (defScope st) f cdv A outer s H E).nox (defBody st) t ∧ t { nx := fun _ H' => Q .non H', rt := Q } (start N vs) H) : FnG P w K mg base (k + 1) f fd ps sp := by
  obtain ⟨oc, od, kV, doc, pm, an, cdv, ct, osl, rfl, lk, hcd⟩ := F.ex
  refine ⟨len, fun A outer s H args us vs Q E hgd hr e0 hb rv hsp => ?_⟩
  have inK : K.In s.heap := e0.mod.kin.keeps fun b o e => (e0.bs b o e).1
  have noL : s.heap.NoLimit := e0.mod.nolimit.keeps fun b o e => (e0.bs b o e).1
  have kinds : ∀ y ∈ ps.zip us, (defScope st).names.lookup y.1 = some .local ∨ ((defScope st).names.lookup y.1 = some .cell ∧ ((cellsFrom (s.heap.objs.size + 1) (defScope st).names []).lookup y.1).isSome = true) := by
    intro y hy
    rcases S.par y.1 (List.of_mem_zip hy).1 with q | q
    · exact .inl q
    · exact .inr ⟨q, PySem.W.cellsFrom_some _ _ _ (.inl q)⟩
  refine codeAny_call_function hr.depth (inK _ _ lk) rfl S.co S.gen rfl (PySem.W.codeRec_of inK hcd) (hb _ _ _ _ ?_)
  refine wpAny_newFunctionEnv_cells S.kind kinds fun env he s1 made => ?_
  subst he
  refine ⟨noL.keeps made.toInCall.keep, codeAny_func ?_⟩
  obtain ⟨t, ht, hq⟩ := body cdv A outer s H vs Q E hgd (hr.deeper _) hsp
  have J0 : Inv (cxOf CX0 P w K mg base N qual (defScope st) f cdv A outer s H E) [] (start N vs) H s1 := inv_start S hr.hd e0 (len _ _ _ _ hsp) rv made
  refine wpAny_mono (ht.nox.run [] s1 (start N vs) H _ J0 hq) (fun fl s' hs => ?_) fun _ _ hs => hs
  match fl, hs with
  | .ret u, hs =>
    obtain ⟨v, σ', H', J, rv', q⟩ := hs
    exact ⟨v, H', J.os, J.bare, J.base, J.hok, rv', q⟩
  | .next, hs =>
    obtain ⟨σ', H', J, q⟩ := hs
    exact ⟨V.non, H', J.os, J.bare, J.base, J.hok, rfl, q⟩
  | .brk, hs => exact (hs.choose_spec.choose_spec.2 : False).elim
  | .cont, hs => exact (hs.choose_spec.choose_spec.2 : False).elim
end Ft

/-! The law's call, from a promise that holds where no repr is under way. -/
namespace Ft
open PySem L2 PySem.Spec PyProof.Rows

/-- the heap behind the top, seen with the script tracked (or nothing) -/
theorem call_of {P : Program} {w : World} {K : PySem.W.Frag} {mg mb : Str → Option Value} {k : Nat} {fa a : Addr} {fd : FuncData} {x : Str} {sp : Sp} {s1 : Shared} {vs : List Value} {H : Hp}
    (inK : K.In s1.heap) (hns : s1.heap.Ns mainGlobals mg) (hb : s1.heap.Ns builtinsNs mb) (hbb : ∀ x : Str, x ≠ "__name__" → mb x = bootBuiltins x) (hlim : s1.heap.NoLimit) (hg : s1.gens = #[])
    (ha : s1.heap.get? a = some { cls := .type "list", data := .seq vs.toArray }) (hr : Room k callerA)
    (F : ∀ base : Heap, K.In base → base.Ns mainGlobals mg → FnG P w K mg base k fa fd [x] sp) (hbind : ∀ (s : Shared) (u : Value), BindsTo s fd ⟨[u], []⟩ [(x, u)])
    (hO : Only H) (hp : sp [.ref a] H (fun v _ => v = .bl true) fun _ _ _ => False) (hok : HOk P w H s1.heap) (only : ∀ b, H b ≠ none → b = a) (notK : H a ≠ none → K.lookup a = none) :
    codeAny (model P w) callerA (.call (.ref fa) ⟨[.ref a], []⟩) (fun r s2 => r = .ok (.ret (.bool true)) ∧ OldK s1.heap s2.heap ∧ s2.os = s1.os ∧ AllBare s2.gens) s1 := by
  have below : ∀ {b : Addr} {o : Obj}, s1.heap.get? b = some o → H b = none → (hidT s1.heap H).get? b = some o := fun e n => hidT_get e n
  have dictFree : ∀ {b : Addr} {o : Obj} {es : Array DictEntry} {ep : Nat}, s1.heap.get? b = some o → o.data = .dict es ep → H b = none := by
    intro b o es ep e d
    cases q : H b with
    | none => rfl
    | some z =>
      obtain rfl : b = a := only b (fun n => by rw [n] at q; cases q)
      rw [ha] at e
      cases e
      exact absurd (show Data.seq vs.toArray _ = Data.dict es ep from d) (fun z => by cases z)
  have spaces : ∀ {b : Addr} {m : Str → Option Value}, s1.heap.Ns b m → (hidT s1.heap H).Ns b m := fun {b m} ⟨o, es, ep, e, d, r⟩ => ⟨o, es, ep, below e (dictFree e d), d, r⟩
  have inB : K.In (hidT s1.heap H) := by
    intro b o e
    refine below (inK b o e) ?_
    cases q : H b with
    | none => rfl
    | some z =>
      have nz : H b ≠ none := fun n => by rw [n] at q; cases q
      obtain rfl : b = a := only b nz
      rw [notK nz] at e
      cases e
  have hM : Mod K mg (hidT s1.heap H) := ⟨inB, spaces hns, ⟨mb, spaces hb, hbb⟩, hlim.elim fun mc z => ⟨mc, spaces z.1, z.2⟩⟩
  have noFr : ∀ b ∈ frs ([] : List Env), H b = none := fun b z => absurd (show b ∈ ([] : List Addr) from z) List.not_mem_nil
  have e0 : Env0 P w K mg (hidT s1.heap H) callerA [] s1 H := ⟨rfl, hM, fun b o e => of_hidT e, Nat.le_of_eq (hidT_size _ _), trivial, noFr, hok, .of_eq hg⟩
  refine codeAny_mono ((F _ inB (spaces hns)).go callerA [] s1 H ⟨[.ref a], []⟩ [.ref a] [.ref a] _ _ rfl hr e0 (hbind s1 (.ref a)) (.cons rfl .nil) hp) fun r s2 h => ?_
  match r, h with
  | .error _, h => exact (h : False).elim
  | .ok .next, h => exact (h : False).elim
  | .ok .brk, h => exact (h : False).elim
  | .ok .cont, h => exact (h : False).elim
  | .ok (.ret u), h =>
    obtain ⟨v, H2, os, bare, un, hok2, rv, q⟩ := h
    obtain rfl : v = .bl true := q
    obtain rfl : u = Value.bool true := rv
    refine ⟨rfl, OldK.of_keep fun b o e => ?_, os, bare⟩
    cases q : H b with
    | none => exact un.keep b o e q (fun z => absurd (show b ∈ ([] : List Addr) from z) List.not_mem_nil) List.not_mem_nil
    | some z =>
      rcases hO b with n | ⟨ob, xs, y⟩
      · rw [q] at n; cases n
      · have k1 := (hok b _ y).1
        have k2 := (hok2 b _ (un.frzs b ob _ y)).1
        rw [e] at k1
        cases k1
        exact k2
/-- what k_head leaves, from the law's promise -/
theorem walk_g {l : PySem.W.OpenLaw} {n k : Nat} {q : Program} {loose : List Str} {XP : (Str → Option Value) → Heap → Prop} {YP : World → Heap → Prop} {d : DefRec} {K : Params → PySem.W.Frag} {sp : PySem.W.Frag → Sp} {x : Str}
    (hn : l.most = some n) (hn2 : n ≤ sizeLine) (hdf : d.params.defaults = []) (hr : Room k callerA)
    (hY : ∀ (w : World) (h : Heap), YP w h → (K w.params).In h)
    (F : ∀ (w : World) (mg : Str → Option Value) (fa : Addr) (h : Heap), (K w.params).In h → h.Ns mainGlobals mg → mg d.name = some (.ref fa) →
      ∃ fd : FuncData, (∀ (s : Shared) (u : Value), BindsTo s fd ⟨[u], []⟩ [(x, u)]) ∧
        ∀ base : Heap, (K w.params).In base → base.Ns mainGlobals mg → FnG l.prog w (K w.params) mg base k fa fd [x] (sp (K w.params)))
    (hsp : ∀ (K : PySem.W.Frag) (H : Hp) (a : Addr) (ns : List Int), ns.length ≤ n → SqL K H a (ns.map V.int) → sp K [.ref a] H (fun v _ => v = .bl true) fun _ _ _ => False) :
    PySem.W.WalkO q loose XP YP l.row.toRowW d [] (fun f vs => PySem.call f vs) := by
  refine Att.attach_call hn hdf fun w s0 s1 mg mb fa o pm cd doc a vs ns G Y ho hd hcd hmg hobj hints hlen hg => ?_
  have inK := hY w _ Y
  obtain ⟨fd, hb, hF⟩ := F w mg fa _ inK G.T.g hmg
  have rv := vals_ints hints
  have lv := hints.length
  have main := fun (H : Hp) (hO : Only H) (hS : SqL (K w.params) H a (ns.map V.int)) => call_of (H := H) inK G.T.g G.T.b G.T.builtins G.T.nolimit hg hobj hr hF hb hO (hsp (K w.params) H a ns hlen hS)
  cases hk : (K w.params).lookup a with
  | some ob =>
    have e := inK a ob hk
    rw [hobj] at e
    cases e
    have none_ : ∀ {b : Addr} {z : HO}, (fun _ => none : Hp) b = some z → False := fun z => by cases z
    exact main (fun _ => none) (fun _ => .inl rfl) (.inr ⟨_, vs.toArray, _, hk, rfl, rfl, rfl, by rw [List.size_toArray, lv]; exact Nat.le_trans hlen hn2, by simpa using rv⟩) (fun b z y => (none_ (b := b) y).elim) (fun b z => absurd rfl z) fun z => absurd rfl z
  | none =>
    let ob : Obj := { cls := .type "list", data := .seq vs.toArray }
    have at_a : ∀ {b : Addr}, b = a → (fun b => if b = a then some (HO.frz ob (.lst (ns.map V.int))) else none : Hp) b = some (.frz ob (.lst (ns.map V.int))) := fun h => if_pos h
    have off_a : ∀ {b : Addr}, ¬ b = a → (fun b => if b = a then some (HO.frz ob (.lst (ns.map V.int))) else none : Hp) b = none := fun h => if_neg h
    refine main (fun b => if b = a then some (.frz ob (.lst (ns.map V.int))) else none) (fun b => ?_) (.inl (.inr ⟨ob, at_a rfl⟩)) (fun b u z => ?_) (fun b z => ?_) fun _ => hk
    · exact (Decidable.em (b = a)).elim (fun h => .inr ⟨_, _, at_a h⟩) fun h => .inl (off_a h)
    · by_cases h : b = a
      · have y := (at_a h).symm.trans z
        cases y
        subst h
        exact ⟨hobj, by rw [List.length_map]; exact Nat.le_trans hlen hn2, vs, _, rv, hobj⟩
      · exact absurd ((off_a h).symm.trans z) (fun y => by cases y)
    · exact (Decidable.em (b = a)).elim id fun h => absurd (off_a h) z
end Ft

/-! repr of data; the deck of draws -/
namespace Ft
open PySem L2 PySem.Spec PyProof.Rows

def rRepr (K : PySem.W.Frag) : List V → Hp → VK → Prop := fun xs H Q => ∃ a d, xs = [.ref a] ∧ Dp K H (.ref a) d ∧ d.showable = true ∧ d.hasDict = false ∧ d.depth ≤ 64 ∧ d.shown.length ≤ sizeLine ∧ Q (.str d.shown) H
theorem call_repr {X : Cx} {k : Nat} (hgd : X.A.guards = some []) (hr : Room k X.A) : CallR X (.builtin "repr") (rRepr X.K) := by
  intro pins s σ H xs us Q I r h
  obtain ⟨a, d, rfl, hd, h1, h2, h3, h4, q⟩ := h
  obtain ⟨u, rfl, rx⟩ := vals1 r
  obtain ⟨as, rd⟩ := Dp.reads I d (.ref a) u hd rx
  obtain rfl : u = Value.ref a := rx
  exact repr_of_reads' rd h1 (fun z => by rw [h2] at z; cases z) hgd (by have := hr.un; omega) (fun _ _ e => e) (fun h' u tk kept => ⟨.str d.shown, H, I.kept kept, ⟨_, rfl⟩, q⟩) h4

/-! ### the deck -/
def kCells : Key := .inr "left"
def kMixed : Key := .inr "mixed"
def kDraws : Key := .inr "draws"
theorem ncm : ¬ kCells = kMixed := by decide +kernel
theorem ncd : ¬ kCells = kDraws := by decide +kernel
theorem nmd : ¬ kMixed = kDraws := by decide +kernel
theorem nmc : ¬ kMixed = kCells := by decide +kernel
theorem ndc : ¬ kDraws = kCells := by decide +kernel
def deckL (l : Addr) (mx dr : Int) : List (Key × V) := [(kCells, .ref l), (kMixed, .int mx), (kDraws, .int dr)]
theorem deck_cells {l : Addr} {mx dr : Int} : valV (deckL l mx dr) kCells = some (.ref l) := valV_pos rfl
theorem deck_mixed {l : Addr} {mx dr : Int} : valV (deckL l mx dr) kMixed = some (.int mx) := by
  unfold deckL
  rw [valV_neg ncm]
  exact valV_pos rfl
theorem deck_draws {l : Addr} {mx dr : Int} : valV (deckL l mx dr) kDraws = some (.int dr) := by
  unfold deckL
  rw [valV_neg ncd, valV_neg nmd]
  exact valV_pos rfl
theorem deck_put {l : Addr} {mx dr z : Int} : putK (deckL l mx dr) kDraws (.int z) = deckL l mx z := by
  unfold putK deckL
  rw [if_pos (by simp)]
  simp only [List.map_cons, List.map_nil, if_neg ncd, if_neg nmd, if_true]
/-- a deck at d, its list at l -/
def DeckAt (H : Hp) (d l : Addr) : Prop := ∃ (mx dr : Int) (cs : List Int), H d = some (.dK (deckL l mx dr)) ∧ H l = some (.lst (cs.map V.int)) ∧ cs.length ≤ 63
/-- all that was tracked is as it was, but at d and l -/
def But (d l : Addr) (H H' : Hp) : Prop := ∀ b o, H b = some o → b ≠ d → b ≠ l → H' b = some o
theorem But.refl {d l : Addr} {H : Hp} : But d l H H := fun _ _ h _ _ => h
theorem But.trans {d l : Addr} {H H1 H2 : Hp} (a : But d l H H1) (b : But d l H1 H2) : But d l H H2 := fun c o h h1 h2 => b c o (a c o h h1 h2) h1 h2
theorem But.of {d l : Addr} {H H' : Hp} (s : Same H H') : But d l H H' := fun b o h _ _ => s b o h
theorem Same.upd_new {H : Hp} {p : Addr} {o : HO} (h : H p = none) : Same H (upd H p o) := fun b u e => by rw [upd_ne (ne_of_none e h)]; exact e
theorem DeckAt.same {H H' : Hp} {d l : Addr} (D : DeckAt H d l) (s : Same H H') : DeckAt H' d l := by
  obtain ⟨mx, dr, cs, h1, h2, h3⟩ := D
  exact ⟨mx, dr, cs, s _ _ h1, s _ _ h2, h3⟩
theorem DeckAt.ne {H : Hp} {d l : Addr} (D : DeckAt H d l) : d ≠ l := by
  obtain ⟨mx, dr, cs, h1, h2, h3⟩ := D
  exact ne_of h1 h2 (by intro z; cases z)
/-- a new address is neither -/
theorem DeckAt.new {H : Hp} {d l p : Addr} (D : DeckAt H d l) (h : H p = none) : p ≠ d ∧ p ≠ l := by
  obtain ⟨mx, dr, cs, h1, h2, h3⟩ := D
  exact ⟨fun e => (by rw [e, h1] at h; cases h), fun e => (by rw [e, h2] at h; cases h)⟩
/-- draws: from 0 to below many; the deck stays a deck, all else stays -/
def sp_draw : Sp := fun vs H Q _ => ∃ (d l : Addr) (n : Int), vs = [.ref d, .int n] ∧ DeckAt H d l ∧ 0 < n ∧ n < 2 ^ 64 ∧ ∀ (H' : Hp) (r : Int), DeckAt H' d l → But d l H H' → 0 ≤ r → r < n → Q (.int r) H'
theorem sp_draw_len : ∀ vs H Q E, sp_draw vs H Q E → vs.length = 2 := fun _ _ _ _ ⟨_, _, _, e, _⟩ => by rw [e]; rfl
theorem dp_ints {K : PySem.W.Frag} {H : Hp} : ∀ ns : List Int, DpAll K H (ns.map V.int) (ns.map PyData.int)
  | [] => .nil
  | n :: ns => .cons (.int n) (dp_ints ns)
theorem eqv_nil : ∀ ds : List PyData, PyData.eqv (.list ds) (.list []) = ds.isEmpty
  | [] => rfl
  | _ :: _ => rfl
theorem deck_merge {l : Addr} {mx dr : Int} : mergeK [] (deckL l mx dr) = deckL l mx dr := by
  unfold mergeK deckL
  simp only [List.foldl_cons, List.foldl_nil]
  have h1 : putK ([] : List (Key × V)) kCells (.ref l) = [(kCells, V.ref l)] := rfl
  rw [h1]
  have h2 : putK [(kCells, V.ref l)] kMixed (.int mx) = [(kCells, V.ref l), (kMixed, V.int mx)] := putK_new _ (by rw [valV_neg ncm]; rfl)
  rw [h2]
  exact putK_new _ (by rw [valV_neg ncd, valV_neg nmd]; rfl)
/-- a slice of ints is one -/
theorem cut_ints (ns : List Int) (lo hi : Option Int) : ∃ ms : List Int, cutV (ns.map V.int) lo hi = ms.map V.int ∧ ms.length ≤ ns.length := by
  have hl := cutV_length (ns.map V.int) lo hi
  rw [List.length_map] at hl
  have h : cutV (ns.map V.int) lo hi = ((ns.drop (HT.sIx (ns.map V.int).length 0 lo)).take (HT.sIx (ns.map V.int).length (ns.map V.int).length hi - HT.sIx (ns.map V.int).length 0 lo)).map V.int := by
    unfold cutV
    rw [List.map_take, List.map_drop]
  refine ⟨_, h, ?_⟩
  rw [h, List.length_map] at hl
  exact hl
theorem int_at {ns : List Int} {i : Nat} {v : V} (h : (ns.map V.int)[i]? = some v) : ∃ z, v = .int z ∧ ns[i]? = some z := by
  rw [List.getElem?_map] at h
  cases e : ns[i]? with
  | none => rw [e] at h; cases h
  | some z => rw [e] at h; exact ⟨z, (Option.some.inj h).symm, rfl⟩
def sp_deck (K : PySem.W.Frag) : Sp := fun vs H Q _ => ∃ (a : Addr) (ns : List Int), vs = [.ref a] ∧ SqL K H a (ns.map V.int) ∧ ns.length ≤ 63 ∧ ∀ (H' : Hp) (d l : Addr), DeckAt H' d l → Same H H' → H d = none → H l = none → Q (.ref d) H'
theorem sp_deck_len {K : PySem.W.Frag} : ∀ vs H Q E, sp_deck K vs H Q E → vs.length = 1 := fun _ _ _ _ ⟨_, _, e, _⟩ => by rw [e]; rfl
/-- an item of a list that stands -/
def sp_pick (K : PySem.W.Frag) : Sp := fun vs H Q _ => ∃ (d l p : Addr) (xs : List V), vs = [.ref d, .ref p] ∧ DeckAt H d l ∧ (H p = some (.lst xs) ∧ p ≠ l ∨ H p = some (.tup xs)) ∧ 0 < xs.length ∧ xs.length < 2 ^ 64 ∧
  ∀ (H' : Hp) (v : V), DeckAt H' d l → But d l H H' → v ∈ xs → Q v H'
theorem sp_pick_len {K : PySem.W.Frag} : ∀ vs H Q E, sp_pick K vs H Q E → vs.length = 2 := fun _ _ _ _ ⟨_, _, _, _, e, _⟩ => by rw [e]; rfl
end Ft

namespace Ft
open PySem L2
theorem canLay_ints : ∀ ns : List Int, PyData.canLayAll0 (ns.map PyData.int) = true
  | [] => rfl
  | n :: ns => by
    show (true && PyData.canLayAll0 (ns.map PyData.int)) = true
    rw [canLay_ints ns]
    rfl
theorem depth_ints : ∀ ns : List Int, PyData.depthAll (ns.map PyData.int) = 0
  | [] => rfl
  | n :: ns => by
    show max 0 (PyData.depthAll (ns.map PyData.int)) = 0
    rw [depth_ints ns]
    rfl
theorem shaped_ints (ns : List Int) : SeqAt.shaped (.list (ns.map PyData.int)) = true := by
  unfold SeqAt.shaped
  rw [show PyData.canLay0 (.list (ns.map PyData.int)) = true from canLay_ints ns, show PyData.depth (.list (ns.map PyData.int)) = 0 + 1 from by rw [← depth_ints ns]; rfl]
  rfl
section
variable {P : Program} {w : World} {K : PySem.W.Frag} {mg : Str → Option Value} {base : Heap}
theorem ok_draw (D : Df K mg "_law_draw" s__law_draw ["_law_deck_here", "_law_many"]) (B : Bi mg) : Cal P w K mg base 1 "_law_draw" sp_draw := by
  obtain ⟨f, fd, F, m, b⟩ := D.ex
  have sc := sc__law_draw
  refine ⟨f, fd, _, F.ok sc sp_draw_len (fun cdv A outer s H vs Q E hr h => ?_), m, F.kp, b⟩
  obtain ⟨d, l, n, rfl, DK, hn0, hn1, q⟩ := h
  have hu := hu_of hr
  have h64 : (A.deeper (PyProof.Rows.envOfC "_law_draw" (defScope s__law_draw) s.heap.objs.size f cdv)).units + 64 < cLine := by have := hr.un; omega
  refine ⟨_, (pss_cons (ps_dput hu (pv 0) pe_str (pe_op op_add (pe_dget hu (pv 0) pe_str (fun _ _ => rfl)) pe_int) rfl)
      (pss_cons (ps_set (i := 2) sc.nd rfl (Or.inl rfl) (pe_op op_add (pe_dget hu (pv 0) pe_str (fun _ _ => rfl)) (pe_op op_mul pe_int (pe_dget hu (pv 0) pe_str (fun _ _ => rfl)))))
      (pss_cons (ps_if (pt_cmpR (op_neD h64) (pe_dget hu (pv 0) pe_str (fun _ _ => rfl)) (pe_lst pa_nil) (nomark _))
      (pss_cons (ps_set (i := 3) sc.nd rfl (Or.inl rfl) (pe_bm0 PySem.F.plainAttrs_list PySem.F.slot_list_pop PySem.F.type_list_pop mt_pop (pe_dget hu (pv 0) pe_str (fun _ _ => rfl))))
        (pss_cons (ps_if (pt_cmpR op_ge (pv 3) (pe_op op_pow pe_int pe_int) (nomark _))
        (pss_cons (ps_expr (pe_bm PySem.F.plainAttrs_list PySem.F.slot_list_append PySem.F.type_list_append mt_append (pe_dget hu (pv 0) pe_str (fun _ _ => rfl)) (pa_cons (pe_op op_fdivW (pv 3) (pe_callB (call_max2 rfl) (by rfl) B.max_ (by decide +kernel) (pa_cons pe_int (pa_cons (pv 1) pa_nil)))) pa_nil)))
          (pss_one (ps_ret (pe_op op_mod (pe_callTy call_int1 (by rfl) B.int_ (by decide +kernel) (pa_cons (pv 3) pa_nil)) (pv 1)))))
        pss_nil)
        (pss_one (ps_set (i := 2) sc.nd rfl (Or.inl rfl) (pe_op op_add (pv 2) (pe_op op_mod (pe_callTy call_int1 (by rfl) B.int_ (by decide +kernel) (pa_cons (pv 3) pa_nil)) pe_int))))))
      pss_nil)
      (pss_cons (ps_set (i := 2) sc.nd rfl (Or.inl rfl) (pe_op op_mod (pe_callTy call_int1 (by rfl) B.int_ (by decide +kernel) (pa_cons (pe_op op_add (pe_op op_mul (pv 2) pe_int) pe_int) pa_nil)) pe_int))
      (pss_cons (ps_set (i := 2) sc.nd rfl (Or.inl rfl) (pe_op op_mod (pe_callTy call_int1 (by rfl) B.int_ (by decide +kernel) (pa_cons (pe_op op_add (pe_op op_add (pe_op op_mul (pv 2) (pv 2)) (pe_op op_mul pe_int (pe_dget hu (pv 0) pe_str (fun _ _ => rfl)))) pe_int) pa_nil)) pe_int))
      (pss_cons (ps_set (i := 2) sc.nd rfl (Or.inl rfl) (pe_op op_mod (pe_callTy call_int1 (by rfl) B.int_ (by decide +kernel) (pa_cons (pe_op op_mul (pv 2) pe_int) pa_nil)) pe_int))
      (pss_one (ps_ret (pe_op op_mod (pe_callTy call_int1 (by rfl) B.int_ (by decide +kernel) (pa_cons (pe_op op_fdivW (pv 2) pe_int) pa_nil)) (pv 1)))))))))), ?_⟩
  have dl := DK.ne
  obtain ⟨mx, dr, cs, hd, hl, hcs⟩ := DK
  -- draws + 1
  have gd := DGet.k (k := kDraws) hd
  rw [deck_draws] at gd
  have pd := DPut.k (k := kDraws) (v := .int (dr + 1)) hd (Nat.lt_of_le_of_lt (Nat.le_of_eq rfl : (deckL l mx dr).length ≤ 3) (by decide))
  rw [deck_put] at pd
  refine ⟨_, rfl, d, _, rfl, gd, _, _, rfl, rfl, _, rfl, d, _, rfl, pd, ?_⟩
  generalize hH1 : upd H d (.dK (deckL l mx (dr + 1))) = H1
  have hd1 : H1 d = some (.dK (deckL l mx (dr + 1))) := by rw [← hH1]; exact upd_same
  have hl1 : H1 l = some (.lst (cs.map V.int)) := by rw [← hH1, upd_ne dl.symm]; exact hl
  have b1 : But d l H H1 := fun b o e h1 h2 => by rw [← hH1, upd_ne h1]; exact e
  have gd1 := DGet.k (k := kDraws) hd1
  rw [deck_draws] at gd1
  have gm1 := DGet.k (k := kMixed) hd1
  rw [deck_mixed] at gm1
  have gc1 := DGet.k (k := kCells) hd1
  rw [deck_cells] at gc1
  refine ⟨_, rfl, d, _, rfl, gm1, _, rfl, d, _, rfl, gd1, _, _, rfl, rfl, .inl ⟨by decide, by decide⟩, _, _, rfl, rfl, ?_⟩
  dsimp only [gName]
  refine tSeq_join (fun σ H2 => ∃ (z : Int) (o : Option V), σ = [some (.ref d), some (.int n), some (.int z), o] ∧ DeckAt H2 d l ∧ But d l H H2) (fun N hN => ?_) ?_
  · -- if cells != []
    refine ⟨_, rfl, d, _, rfl, gc1, Nat.zero_le _, fun p hp => ?_⟩
    have s2 : Same H1 (upd H1 p (.lst [])) := Same.upd_new hp
    generalize hH2 : upd H1 p (.lst []) = H2 at s2
    have hd2 := s2 _ _ hd1
    have hl2 := s2 _ _ hl1
    have hp2 : H2 p = some (.lst []) := by rw [← hH2]; exact upd_same
    have b2 : But d l H H2 := b1.trans (But.of s2)
    have gc2 := DGet.k (k := kCells) hd2
    rw [deck_cells] at gc2
    refine ⟨_, _, .lst (SqL.of hl2) (dp_ints cs), .lst (SqL.of hp2) .nil, shaped_ints cs, by decide, _, rfl, ?_⟩
    rw [eqv_nil]
    cases hcc : cs with
    | nil =>
      refine iteF ?_
      exact hN _ _ ⟨_, none, rfl, ⟨mx, dr + 1, [], hd2, by rw [hcc] at hl2; exact hl2, by decide⟩, b2⟩
    | cons c0 cr =>
      refine iteT ?_
      -- cell = cells.pop()
      have hlast : ∃ c, (cs.map V.int)[(cs.map V.int).length - 1]? = some (V.int c) := by
        have hn : cs.length - 1 < cs.length := by rw [hcc]; exact Nat.sub_lt (Nat.succ_pos _) (by decide)
        exact ⟨cs[cs.length - 1], by rw [List.length_map, List.getElem?_map, List.getElem?_eq_getElem hn]; rfl⟩
      obtain ⟨c, hlast⟩ := hlast
      have hdrop : (cs.map V.int).dropLast = cs.dropLast.map V.int := by rw [List.map_dropLast]
      have ldrop : cs.dropLast.length ≤ 62 := by rw [List.length_dropLast]; omega
      have hne : l ≠ d := dl.symm
      refine ⟨_, rfl, d, _, rfl, gc2, .inl ⟨rfl, _, SqL.of hl2⟩, l, _, _, rfl, rfl, hl2, hlast, ?_⟩
      rw [hdrop]
      generalize hH3 : upd H2 l (.lst (cs.dropLast.map V.int)) = H3
      have hl3 : H3 l = some (.lst (cs.dropLast.map V.int)) := by rw [← hH3]; exact upd_same
      have hd3 : H3 d = some (.dK (deckL l mx (dr + 1))) := by rw [← hH3, upd_ne dl]; exact hd2
      have b3 : But d l H H3 := b2.trans fun b o e _ h2 => by rw [← hH3, upd_ne h2]; exact e
      have gc3 := DGet.k (k := kCells) hd3
      rw [deck_cells] at gc3
      refine ⟨_, rfl, _, _, rfl, rfl, ⟨by decide, by decide, by decide⟩, _, _, rfl, rfl, _, rfl, ifD (fun hbig => ?_) fun hbig => ?_⟩
      · -- cells.append(cell // max(2, many)); return int(cell) % many
        have hmx : (if n > 2 then n else 2) = max 2 n := by by_cases h : n > 2 <;> simp only [h, if_true, if_false] <;> omega
        refine ⟨_, rfl, d, _, rfl, gc3, .inl ⟨rfl, _, SqL.of hl3⟩, _, rfl, _, rfl, 2, n, rfl, _, _, rfl, rfl, ?_, ?_⟩
        · show CDivW c (if n > 2 then n else 2)
          exact wide_div (b := 64) (by split <;> omega) (by split <;> omega) (by decide) (by decide)
        refine ⟨l, _, _, rfl, rfl, hl3, Nat.lt_of_le_of_lt (by rw [List.length_map]; exact ldrop) (by decide : (62 : Nat) < sizeLine), ?_⟩
        have happ : cs.dropLast.map V.int ++ [V.int (c / (if n > 2 then n else 2))] = (cs.dropLast ++ [c / (if n > 2 then n else 2)]).map V.int := by rw [List.map_append]; rfl
        refine ⟨_, rfl, .inl ⟨c, rfl, ?_⟩⟩
        refine ⟨_, rfl, _, _, rfl, rfl, hn0, ?_⟩
        refine q _ _ ⟨mx, dr + 1, cs.dropLast ++ [c / (if n > 2 then n else 2)], by rw [upd_ne dl]; exact hd3, by rw [upd_same]; exact congrArg (fun z => some (HO.lst z)) happ, by rw [List.length_append]; exact Nat.add_le_add ldrop (Nat.le_refl 1)⟩ (b3.trans fun b o e _ h2 => by rw [upd_ne h2]; exact e) (Int.emod_nonneg _ (by omega)) (Int.emod_lt_of_pos _ hn0)
      · refine ⟨_, rfl, _, rfl, .inl ⟨c, rfl, ?_⟩⟩
        refine ⟨_, _, rfl, rfl, (by show (0 : Int) < 2147483629; decide), _, _, rfl, rfl, ?_⟩
        exact hN _ _ ⟨_, _, rfl, ⟨mx, dr + 1, cs.dropLast, hd3, hl3, Nat.le_trans ldrop (by decide)⟩, b3⟩
  · rintro _ H4 ⟨z, o, rfl, DK4, b4⟩
    obtain ⟨mx, dr, cs, hd4, hl4, hcs4⟩ := id DK4
    have gd4 := DGet.k (k := kDraws) hd4
    rw [deck_draws] at gd4
    refine ⟨_, rfl, _, _, rfl, rfl, .inr ⟨by decide, by decide⟩, _, _, rfl, rfl, .inl ⟨_, rfl, _, _, rfl, rfl, (by show (0 : Int) < 2147483563; decide), ?_⟩⟩
    have y0 := Int.emod_nonneg (z * 40014 + 91) (b := 2147483563) (by decide)
    have y1 := Int.emod_lt_of_pos (z * 40014 + 91) (b := 2147483563) (by decide)
    refine ⟨_, rfl, _, rfl, _, _, rfl, rfl, .inl ⟨by omega, by omega⟩, _, rfl, d, _, rfl, gd4, _, _, rfl, rfl, .inl ⟨by decide, by decide⟩, _, _, rfl, rfl, _, _, rfl, rfl, .inl ⟨_, rfl, _, _, rfl, rfl, (by show (0 : Int) < 2147483399; decide), ?_⟩⟩
    refine ⟨_, rfl, _, _, rfl, rfl, .inr ⟨by decide, by decide⟩, .inl ⟨_, rfl, _, _, rfl, rfl, (by show (0 : Int) < 2147483647; decide), ?_⟩⟩
    refine ⟨_, rfl, _, _, rfl, rfl, ⟨by decide, by decide⟩, .inl ⟨_, rfl, _, rfl, _, _, rfl, rfl, hn0, ?_⟩⟩
    exact q _ _ DK4 b4 (Int.emod_nonneg _ (by omega)) (Int.emod_lt_of_pos _ hn0)
end
end Ft

namespace Ft
open PySem L2
section
variable {P : Program} {w : World} {K : PySem.W.Frag} {mg : Str → Option Value} {base : Heap}
theorem ok_pick (D : Df K mg "_law_pick" s__law_pick ["_law_deck_here", "_law_some"]) (B : Bi mg) (c__law_draw : Cal P w K mg base 1 "_law_draw" sp_draw) : Cal P w K mg base 2 "_law_pick" (sp_pick K) := by
  obtain ⟨f, fd, F, m, b⟩ := D.ex
  have sc := sc__law_pick
  refine ⟨f, fd, _, F.ok sc sp_pick_len (fun cdv A outer s H vs Q E hr h => ?_), m, F.kp, b⟩
  obtain ⟨d, l, p, xs, rfl, DK, hp, h0, h1, q⟩ := h
  refine ⟨_, (pss_one (ps_ret (pe_ix ix_seq (pv 1) (pe_c c__law_draw hr (by decide) (by rfl) (pa_cons (pv 0) (pa_cons (pe_callB call_len_seq (by rfl) B.len_ (by decide +kernel) (pa_cons (pv 1) pa_nil)) pa_nil))) (fun _ _ => rfl)))), ?_⟩
  have hs : SqL K H p xs ∨ SqT K H p xs := hp.imp (fun z => SqL.of z.1) SqT.of
  refine ⟨_, rfl, _, rfl, _, rfl, p, xs, rfl, hs, d, l, _, rfl, DK, by omega, by omega, fun H1 r DK1 b1 r0 r1 => ?_⟩
  obtain ⟨n, rfl⟩ : ∃ n : Nat, r = n := ⟨r.toNat, by omega⟩
  have hn : n < xs.length := by omega
  obtain ⟨mx, dr, cs, hd, hl, _⟩ := DK
  rcases hp with ⟨hp, hpl⟩ | hp
  · have hp1 := b1 _ _ hp (ne_of hp hd (by intro z; cases z)) hpl
    exact .inl ⟨p, xs, _, _, rfl, rfl, SqL.of hp1, atI_nat (List.getElem?_eq_getElem hn), q _ _ DK1 b1 (List.getElem_mem hn)⟩
  · have hp1 := b1 _ _ hp (ne_of hp hd (by intro z; cases z)) (ne_of hp hl (by intro z; cases z))
    exact .inr (.inl ⟨p, xs, _, _, rfl, rfl, SqT.of hp1, atI_nat (List.getElem?_eq_getElem hn), q _ _ DK1 b1 (List.getElem_mem hn)⟩)
theorem ok_deck (D : Df K mg "_law_deck" s__law_deck ["_law_script"]) (B : Bi mg)  : Cal P w K mg base 1 "_law_deck" (sp_deck K) := by
  obtain ⟨f, fd, F, m, b⟩ := D.ex
  have sc := sc__law_deck
  refine ⟨f, fd, _, F.ok sc sp_deck_len (fun cdv A outer s H vs Q E hr h => ?_), m, F.kp, b⟩
  obtain ⟨a, ns, rfl, hS, hlen, q⟩ := h
  have hu := hu_of hr
  refine ⟨_, (pss_cons (ps_set (i := 1) sc.nd rfl (Or.inl rfl) pe_int)
      (pss_cons (ps_for PassesOwn.never rfl (pi_list (pe_slice sl_list (pv 0) po_none (po_some pe_int))) (pg_name (i := 2) sc.nd rfl (Or.inl rfl))
      (pss_one (ps_set (i := 1) sc.nd rfl (Or.inl rfl) (pe_op op_mod (pe_callTy call_int1 (by rfl) B.int_ (by decide +kernel) (pa_cons (pe_op op_add (pe_op op_add (pe_op op_mul (pv 1) pe_int) (pe_op op_mod (pe_callTy call_int1 (by rfl) B.int_ (by decide +kernel) (pa_cons (pv 2) pa_nil)) pe_int)) pe_int) pa_nil)) pe_int))))
      (pss_one (ps_ret (pe_disp (pps_cons pe_str (pe_revL (pe_callTy call_list_of (by rfl) B.list (by decide +kernel) (pa_cons (pe_slice sl_list (pv 0) po_none (po_some pe_int)) pa_nil))) (pps_cons pe_str (pv 1) (pps_cons pe_str pe_int pps_nil))) (by rfl) (by rfl) (fun z => by cases z) (by decide)))))), ?_⟩
  refine ⟨_, rfl, _, rfl, a, _, rfl, hS, fun p hp => ?_⟩
  obtain ⟨ms, hms, lms⟩ := cut_ints ns none (some 63)
  rw [hms]
  have s1 : Same H (upd H p (.lst (ms.map V.int))) := Same.upd_new hp
  generalize hH1 : upd H p (.lst (ms.map V.int)) = H1 at s1
  have hp1 : H1 p = some (.lst (ms.map V.int)) := by rw [← hH1]; exact upd_same
  refine ⟨p, rfl, ⟨_, SqL.of hp1⟩, for_list (K := K) (a := p) (xs := ms.map V.int) (fun i σ H2 => H1 = H2 ∧ ∃ (z : Int) (o : Option V), σ = [some (.ref a), some (.int z), o]) ⟨rfl, _, none, rfl⟩ (fun i σ H2 _ ⟨e, _⟩ => by rw [← e]; exact SqL.of hp1) ?_ ?_⟩
  · rintro i x σ _ hi ⟨rfl, z, o, rfl⟩
    obtain ⟨c, rfl, _⟩ := int_at hi
    refine ⟨_, rfl, _, _, rfl, rfl, .inr ⟨by decide, by decide⟩, _, rfl, .inl ⟨c, rfl, _, _, rfl, rfl, (by show (0 : Int) < 2147483629; decide), _, _, rfl, rfl, _, _, rfl, rfl, .inl ⟨_, rfl, _, _, rfl, rfl, (by show (0 : Int) < 2147483587; decide), ?_⟩⟩⟩
    exact ⟨rfl, _, _, rfl⟩
  · rintro σ _ ⟨rfl, z, o, rfl⟩
    intro d hd
    have s2 : Same H1 (upd H1 d (.dK [])) := Same.upd_new hd
    generalize hH2 : upd H1 d (.dK []) = H2 at s2
    have hd2 : H2 d = some (.dK []) := by rw [← hH2]; exact upd_same
    refine ⟨_, rfl, _, rfl, a, _, rfl, s2.seq (s1.seq hS), fun p2 hp2 => ?_⟩
    rw [hms]
    have s3 : Same H2 (upd H2 p2 (.lst (ms.map V.int))) := Same.upd_new hp2
    generalize hH3 : upd H2 p2 (.lst (ms.map V.int)) = H3 at s3
    have h3 : H3 p2 = some (.lst (ms.map V.int)) := by rw [← hH3]; exact upd_same
    refine ⟨p2, _, rfl, .inl (SqL.of h3), fun p3 hp3 => ?_⟩
    have s4 : Same H3 (upd H3 p3 (.lst (ms.map V.int))) := Same.upd_new hp3
    generalize hH4 : upd H3 p3 (.lst (ms.map V.int)) = H4 at s4
    have h4 : H4 p3 = some (.lst (ms.map V.int)) := by rw [← hH4]; exact upd_same
    refine ⟨p3, _, rfl, SqL.of h4, fun l hl => ?_⟩
    have s5 : Same H4 (upd H4 l (.lst (ms.map V.int).reverse)) := Same.upd_new hl
    generalize hH5 : upd H4 l (.lst (ms.map V.int).reverse) = H5 at s5
    have h5 : H5 l = some (.lst (ms.reverse.map V.int)) := by rw [← hH5, List.map_reverse]; exact upd_same
    have sA := s1.trans (s2.trans (s3.trans (s4.trans s5)))
    have hd5 : H5 d = some (.dK []) := s5 _ _ (s4 _ _ (s3 _ _ hd2))
    have dl : d ≠ l := ne_of hd5 h5 (by intro z; cases z)
    refine ⟨_, rfl, hd5, deckL l z 0, rfl, (by show (3 : Nat) ≤ 15; decide), ?_⟩
    rw [deck_merge]
    have hd0 : H d = none := s1.free hd
    have hl0 : H l = none := s1.free (s2.free (s3.free (s4.free hl)))
    refine q _ d l ⟨z, 0, ms.reverse, upd_same, by rw [upd_ne dl.symm]; exact h5, by rw [List.length_reverse]; omega⟩ (fun b u e => ?_) hd0 hl0
    rw [upd_ne (ne_of_none e hd0)]
    exact sA _ _ e
end
end Ft

set_option exponentiation.threshold 9000
namespace Ft
open PySem L2
/-! ### beginnings: a number and a tuple of numbers -/
theorem kit_tup_tup {K : PySem.W.Frag} : PySem.W.kitOne K (.type "tuple") (.type "tuple") = some true := kit_ty (by decide +kernel)
theorem kit_int_int' {K : PySem.W.Frag} : PySem.W.kitOne K (.type "int") (.type "int") = some true := kit_ty (by decide +kernel)
def Bg (H : Hp) (v : V) (b : Int) (ts : List Int) : Prop := ∃ p q, v = .ref p ∧ H p = some (.tup [.int b, .ref q]) ∧ H q = some (.tup (ts.map V.int))
theorem Bg.same {H H' : Hp} {v : V} {b : Int} {ts : List Int} (h : Bg H v b ts) (s : Same H H') : Bg H' v b ts := by
  obtain ⟨p, q, e, h1, h2⟩ := h
  exact ⟨p, q, e, s _ _ h1, s _ _ h2⟩
/-- what the document calls a beginning -/
def BgOk (b : Int) (ts : List Int) : Prop := 1 ≤ b ∧ 1 ≤ ts.length ∧ ts.length ≤ 400
def gcdL (g : Nat) (ts : List Int) : Nat := ts.foldl (fun g t => Nat.gcd g t.natAbs) g
def lowB (b : Int) (ts : List Int) : Int := b / ((gcdL b.natAbs ts : Nat) : Int)
def lowT (b : Int) (ts : List Int) : List Int := ts.map fun t => t / ((gcdL b.natAbs ts : Nat) : Int)
theorem gcdL_one : ∀ ts : List Int, gcdL 1 ts = 1
  | [] => rfl
  | t :: ts => by
    show gcdL (Nat.gcd 1 t.natAbs) ts = 1
    rw [Nat.gcd_one_left]
    exact gcdL_one ts
theorem gcdL_dvd : ∀ (ts : List Int) (g : Nat), gcdL g ts ∣ g
  | [], g => Nat.dvd_refl g
  | t :: ts, g => Nat.dvd_trans (gcdL_dvd ts (Nat.gcd g t.natAbs)) (Nat.gcd_dvd_left _ _)
theorem gcdL_drop {ts : List Int} {i : Nat} {z : Int} (h : ts[i]? = some z) (g : Nat) : gcdL g (ts.drop i) = gcdL (Nat.gcd g z.natAbs) (ts.drop (i + 1)) := by
  obtain ⟨hi, rfl⟩ := List.getElem?_eq_some_iff.mp h
  rw [List.drop_eq_getElem_cons hi]
  rfl
theorem take_snoc {ts : List Int} {i : Nat} {z : Int} (h : ts[i]? = some z) : ts.take (i + 1) = ts.take i ++ [z] := by
  rw [List.take_add_one, h]
  rfl
theorem all_true : ∀ n : Nat, (List.replicate n true).all id = true
  | 0 => rfl
  | n + 1 => by rw [List.replicate_succ, List.all_cons, all_true n]; rfl
def sp_from : Sp := fun vs H Q _ => ∃ n a : Int, vs = [.int n, .int a] ∧ Q (.bl (decide (a ≤ n))) H
def sp_checkFrom : Sp := fun vs H Q _ => ∃ n a : Int, vs = [.int n, .int a] ∧ a ≤ n ∧ Q .non H
def sp_isBeg : Sp := fun vs H Q _ => ∃ v b ts, vs = [v] ∧ Bg H v b ts ∧ BgOk b ts ∧ ∀ H', Same H H' → Q (.bl true) H'
def sp_checkBeg : Sp := fun vs H Q _ => ∃ v b ts, vs = [v] ∧ Bg H v b ts ∧ BgOk b ts ∧ ∀ H', Same H H' → Q .non H'
def sp_lowered : Sp := fun vs H Q _ => ∃ (b : Int) (p : Addr) (ts : List Int), vs = [.int b, .ref p] ∧ H p = some (.lst (ts.map V.int)) ∧ 0 < b ∧ b.natAbs < 2 ^ 8000 ∧ ts.length ≤ 1000 ∧ ∀ H' v, Same H H' → Bg H' v (lowB b ts) (lowT b ts) → Q v H'
section
variable {P : Program} {w : World} {K : PySem.W.Frag} {mg : Str → Option Value} {base : Heap}
end
end Ft

set_option exponentiation.threshold 9000
namespace Ft
open PySem L2
def sprL (ts : List Int) (d : Nat) : List Int := (List.range ts.length).map fun n => if n % d = 0 then ts.getD (n / d) 0 else 0
def eveL (ts : List Int) (d : Nat) : List Int := ((List.range ts.length).filter fun n => decide (n % d = 0)).map fun n => ts.getD n 0
def shfL (ts : List Int) (s : Nat) : List Int := List.replicate s 0 ++ ts
def sp_deed (f : List Int → Nat → List Int) (C : Nat → Prop) : Sp := fun vs H Q _ => ∃ v b ts d, vs = [v, .int ((d : Nat) : Int)] ∧ Bg H v b ts ∧ BgOk b ts ∧ b.natAbs < 2 ^ 8000 ∧ C d ∧ ∀ H' u, Same H H' → Bg H' u (lowB b (f ts d)) (lowT b (f ts d)) → Q u H'
theorem filter_succ (f : Nat → Bool) (j : Nat) : (List.range (j + 1)).filter f = (List.range j).filter f ++ if f j = true then [j] else [] := by
  rw [List.range_succ, List.filter_append]
  congr 1
  cases h : f j <;> simp [h]
theorem filter_len (f : Nat → Bool) (j : Nat) : ((List.range j).filter f).length ≤ j := by
  have := List.length_filter_le f (List.range j)
  rw [List.length_range] at this
  exact this
theorem getD_at {l : List Int} {i : Nat} (h : i < l.length) : (l.map V.int)[i]? = some (V.int (l.getD i 0)) := by
  rw [List.getElem?_map, List.getElem?_eq_getElem h, List.getD_eq_getElem?_getD, List.getElem?_eq_getElem h]
  rfl
section
variable {P : Program} {w : World} {K : PySem.W.Frag} {mg : Str → Option Value} {base : Heap}
end
end Ft

set_option exponentiation.threshold 9000
namespace Ft
open PySem L2
theorem flat_one {α : Type} (x : α) : ∀ n : Nat, (List.replicate n [x]).flatten = List.replicate n x
  | 0 => rfl
  | n + 1 => by rw [List.replicate_succ, List.flatten_cons, flat_one x n, List.replicate_succ]; rfl
/-- the first place where two rows part -/
def apartGo (b1 b2 : Int) (t1 t2 : List Int) : Nat → Nat → Option Nat
  | 0, _ => none
  | f + 1, i => if t1.getD i 0 * b2 = t2.getD i 0 * b1 then apartGo b1 b2 t1 t2 f (i + 1) else some i
def apart (b1 b2 : Int) (t1 t2 : List Int) : Option Nat := apartGo b1 b2 t1 t2 (min t1.length t2.length) 0
def optV : Option Nat → V
  | none => .non
  | some n => .int (n : Int)
def sp_apart : Sp := fun vs H Q _ => ∃ u v b1 b2 t1 t2, vs = [u, v] ∧ Bg H u b1 t1 ∧ Bg H v b2 t2 ∧ BgOk b1 t1 ∧ BgOk b2 t2 ∧ b1.natAbs < 2 ^ 8000 ∧ b2.natAbs < 2 ^ 8000 ∧ (∀ x ∈ t1, x.natAbs < 2 ^ 8000) ∧ (∀ x ∈ t2, x.natAbs < 2 ^ 8000) ∧ ∀ H', Same H H' → Q (optV (apart b1 b2 t1 t2)) H'
theorem mul8 {i j : Int} (h1 : i.natAbs < 2 ^ 8000) (h2 : j.natAbs < 2 ^ 8000) : CMulW i j := wide_mul h1 h2 (by decide) (by decide) (by decide)
theorem getD_mem {l : List Int} {i : Nat} (h : i < l.length) : l.getD i 0 ∈ l := by
  rw [List.getD_eq_getElem?_getD, List.getElem?_eq_getElem h]
  exact List.getElem_mem h
section
variable {P : Program} {w : World} {K : PySem.W.Frag} {mg : Str → Option Value} {base : Heap}
end
end Ft

set_option exponentiation.threshold 9000
namespace Ft
open PySem L2
/-! ### lowest terms of rows -/
theorem gcdL_mul (c : Nat) : ∀ (ts : List Int) (g : Nat), gcdL (c * g) (ts.map fun t => (c : Int) * t) = c * gcdL g ts
  | [], g => rfl
  | t :: ts, g => by
    show gcdL (Nat.gcd (c * g) ((c : Int) * t).natAbs) (ts.map fun t => (c : Int) * t) = c * gcdL (Nat.gcd g t.natAbs) ts
    rw [Int.natAbs_mul, Int.natAbs_natCast, Nat.gcd_mul_left]
    exact gcdL_mul c ts _
theorem gcdL_mem : ∀ (ts : List Int) (g : Nat) (t : Int), t ∈ ts → gcdL g ts ∣ t.natAbs
  | u :: ts, g, t, h => by
    show gcdL (Nat.gcd g u.natAbs) ts ∣ t.natAbs
    rcases List.mem_cons.mp h with rfl | h
    · exact Nat.dvd_trans (gcdL_dvd ts _) (Nat.gcd_dvd_right _ _)
    · exact gcdL_mem ts _ t h
theorem low_mul {c : Nat} (hc : 0 < c) {b : Int} (hb : 0 < b) (ts : List Int) : lowB ((c : Int) * b) (ts.map fun t => (c : Int) * t) = lowB b ts ∧ lowT ((c : Int) * b) (ts.map fun t => (c : Int) * t) = lowT b ts := by
  have e : gcdL ((c : Int) * b).natAbs (ts.map fun t => (c : Int) * t) = c * gcdL b.natAbs ts := by
    rw [Int.natAbs_mul, Int.natAbs_natCast]
    exact gcdL_mul c ts _
  have c0 : (0 : Int) < (c : Int) := by omega
  unfold lowB lowT
  rw [e, Int.natCast_mul]
  refine ⟨Int.mul_ediv_mul_of_pos _ _ c0, ?_⟩
  rw [List.map_map]
  exact List.map_congr_left fun t _ => Int.mul_ediv_mul_of_pos _ _ c0
theorem gcdL_pos {b : Int} (hb : 0 < b) (ts : List Int) : 0 < gcdL b.natAbs ts := Nat.pos_of_dvd_of_pos (gcdL_dvd ts _) (by omega)
theorem mul_lowB {b : Int} (ts : List Int) : ((gcdL b.natAbs ts : Nat) : Int) * lowB b ts = b :=
  Int.mul_ediv_cancel' (Int.dvd_natAbs.mp (Int.natCast_dvd_natCast.mpr (gcdL_dvd ts _)))
theorem mul_lowT {b : Int} (ts : List Int) : (lowT b ts).map (fun t => ((gcdL b.natAbs ts : Nat) : Int) * t) = ts := by
  unfold lowT
  rw [List.map_map]
  conv => rhs; rw [← List.map_id ts]
  exact List.map_congr_left fun t ht => Int.mul_ediv_cancel' (Int.dvd_natAbs.mp (Int.natCast_dvd_natCast.mpr (gcdL_mem ts _ t ht)))
theorem lowB_pos {b : Int} (hb : 0 < b) (ts : List Int) : 0 < lowB b ts := by
  have h1 := mul_lowB (b := b) ts
  have h2 := gcdL_pos hb ts
  rcases Int.lt_trichotomy (lowB b ts) 0 with h | h | h
  · have := Int.mul_neg_of_pos_of_neg (a := ((gcdL b.natAbs ts : Nat) : Int)) (b := lowB b ts) (by omega) h
    omega
  · rw [h, Int.mul_zero] at h1
    omega
  · exact h
theorem lowB_le {b : Int} (hb : 0 < b) (ts : List Int) : lowB b ts ≤ b := Int.ediv_le_self _ (by omega)
/-- a deed on rows that keeps multiples -/
def Lin (F : List Int → List Int) : Prop := ∀ (c : Int) (ts : List Int), F (ts.map fun t => c * t) = (F ts).map fun t => c * t
theorem low_lin {F : List Int → List Int} (hF : Lin F) {b : Int} (hb : 0 < b) (ts : List Int) : lowB (lowB b ts) (F (lowT b ts)) = lowB b (F ts) ∧ lowT (lowB b ts) (F (lowT b ts)) = lowT b (F ts) := by
  have h := low_mul (gcdL_pos hb ts) (lowB_pos hb ts) (F (lowT b ts))
  rw [mul_lowB, ← hF, mul_lowT] at h
  exact ⟨h.1.symm, h.2.symm⟩
theorem getD_mul (c : Int) (ts : List Int) (i : Nat) : (ts.map fun t => c * t).getD i 0 = c * ts.getD i 0 := by
  rw [List.getD_eq_getElem?_getD, List.getD_eq_getElem?_getD, List.getElem?_map]
  cases ts[i]? with
  | none => exact (Int.mul_zero c).symm
  | some x => rfl
theorem getD_range (g : Nat → Int) (m i : Nat) : ((List.range m).map g).getD i 0 = if i < m then g i else 0 := by
  rw [List.getD_eq_getElem?_getD, List.getElem?_map]
  by_cases h : i < m
  · rw [List.getElem?_range h, if_pos h]; rfl
  · rw [List.getElem?_eq_none (by rw [List.length_range]; omega), if_neg h]; rfl
/-! ### texts of beginnings -/
theorem int_short {v : Int} (h : v.natAbs < 2 ^ 250) : (PyData.int v).leavesShort 100 = true := by
  have key : (PyData.shown (.int v)).length ≤ 100 := by
    have p : (2 : Int) ^ 140 < 10 ^ 78 := by decide
    rcases Int.lt_or_le v 0 with h0 | h0
    · obtain ⟨m, rfl⟩ : ∃ m : Nat, v = Int.negSucc m := ⟨v.natAbs - 1, by omega⟩
      have l := PyProof.Rows.toString_length_le (v := ((m + 1 : Nat) : Int)) (by omega) (k := 78) (by decide) (by omega)
      have e : toString (Int.negSucc m) = "-" ++ toString (m + 1) := rfl
      show (Str.ofString (toString (Int.negSucc m))).length ≤ 100
      rw [e, PyProof.Rows.ofString_length, String.toList_append, List.length_append]
      rw [PyProof.Rows.ofString_length] at l
      have l' : (toString (m + 1)).toList.length ≤ 78 := l
      have : "-".toList.length = 1 := by decide
      omega
    · have l := PyProof.Rows.toString_length_le h0 (k := 78) (by decide) (by omega)
      exact Nat.le_trans l (by decide)
  simpa only [PyData.leavesShort, decide_eq_true_eq] using key
theorem ints_short : ∀ {ts : List Int}, (∀ x ∈ ts, x.natAbs < 2 ^ 250) → PyData.leavesShortAll 100 (ts.map PyData.int) = true
  | [], _ => by simp only [List.map_nil, PyData.leavesShortAll]
  | t :: ts, h => by
    simp only [List.map_cons, PyData.leavesShortAll, Bool.and_eq_true]
    exact ⟨int_short (h t List.mem_cons_self), ints_short fun x hx => h x (List.mem_cons_of_mem _ hx)⟩
theorem ints_bulk : ∀ ts : List Int, PyData.bulkAll (ts.map PyData.int) = ts.length
  | [] => by simp only [List.map_nil, PyData.bulkAll, List.length_nil]
  | t :: ts => by
    simp only [List.map_cons, PyData.bulkAll, PyData.bulk, List.length_cons, ints_bulk ts]
    omega
theorem int_showable {v : Int} (h : v.natAbs < 2 ^ 250) : (PyData.int v).showable = true := by
  have := PySem.Flt.log2_lt_of (by decide) h
  simp only [PyData.showable, decide_eq_true_eq]
  omega
theorem ints_showable : ∀ {ts : List Int}, (∀ x ∈ ts, x.natAbs < 2 ^ 250) → PyData.showableAll (ts.map PyData.int) = true
  | [], _ => by simp only [List.map_nil, PyData.showableAll]
  | t :: ts, h => by
    simp only [List.map_cons, PyData.showableAll, Bool.and_eq_true]
    exact ⟨int_showable (h t List.mem_cons_self), ints_showable fun x hx => h x (List.mem_cons_of_mem _ hx)⟩
def bgD (b : Int) (ts : List Int) : PyData := .tuple [.int b, .tuple (ts.map PyData.int)]
/-- short enough to be shown -/
structure BgS (b : Int) (ts : List Int) : Prop where
  hb : b.natAbs < 2 ^ 250
  hts : ∀ x ∈ ts, x.natAbs < 2 ^ 250
  len : ts.length ≤ 1000
theorem dp_bg {K : PySem.W.Frag} {H : Hp} {v : V} {b : Int} {ts : List Int} (h : Bg H v b ts) : Dp K H v (bgD b ts) := by
  obtain ⟨p, q, rfl, h1, h2⟩ := h
  exact .tup (SqT.of h1) (.cons (.int b) (.cons (.tup (SqT.of h2) (dp_ints ts)) .nil))
/-- what repr asks of a datum -/
structure RepOk (d : PyData) : Prop where
  show_ : d.showable = true
  dict : d.hasDict = false
  depth : d.depth ≤ 64
  len : d.shown.length ≤ sizeLine
theorem bgD_depth (b : Int) (ts : List Int) : (bgD b ts).depth = 2 := by
  have e : PyData.depth (.tuple (ts.map PyData.int)) = 1 := by
    show PyData.depthAll (ts.map PyData.int) + 1 = 1
    rw [depth_ints]
  show max 0 (max (PyData.depth (.tuple (ts.map PyData.int))) 0) + 1 = 2
  rw [e]
  rfl
theorem bgD_short {b : Int} {ts : List Int} (h : BgS b ts) : (bgD b ts).leavesShort 100 = true := by
  simp only [bgD, PyData.leavesShort, PyData.leavesShortAll, Bool.and_eq_true, Bool.and_true]
  refine ⟨?_, ints_short h.hts⟩
  have := int_short h.hb
  simpa only [PyData.leavesShort] using this
theorem bgD_showable {b : Int} {ts : List Int} (h : BgS b ts) : (bgD b ts).showable = true := by
  simp only [bgD, PyData.showable, PyData.showableAll, Bool.and_eq_true, Bool.and_true]
  refine ⟨?_, ints_showable h.hts⟩
  have := int_showable h.hb
  simpa only [PyData.showable] using this
theorem ints_dict (ts : List Int) : PyData.hasDictAll (ts.map PyData.int) = false := by
  induction ts with
  | nil => simp only [List.map_nil, PyData.hasDictAll]
  | cons t ts ih => simp only [List.map_cons, PyData.hasDictAll, PyData.hasDict, ih, Bool.or_self]
theorem bgD_dict (b : Int) (ts : List Int) : (bgD b ts).hasDict = false := by
  simp only [bgD, PyData.hasDict, PyData.hasDictAll, ints_dict, Bool.or_self]
theorem bgD_bulk (b : Int) (ts : List Int) : (bgD b ts).bulk = ts.length + 2 := by
  simp only [bgD, PyData.bulk, PyData.bulkAll, ints_bulk]
  omega
theorem rep_bg {b : Int} {ts : List Int} (h : BgS b ts) : RepOk (bgD b ts) := by
  refine ⟨bgD_showable h, bgD_dict b ts, by rw [bgD_depth]; decide, ?_⟩
  have l := PyData.shown_le_bulk 100 (by decide) (bgD b ts) (bgD_short h)
  rw [bgD_bulk] at l
  have := h.len
  have e : sizeLine = 16777216 := by decide
  omega
theorem low_short {b : Int} {ts : List Int} (h : BgS b ts) : BgS (lowB b ts) (lowT b ts) := by
  refine ⟨Nat.lt_of_le_of_lt (Int.natAbs_ediv_le_natAbs _ _) h.hb, fun x hx => ?_, by unfold lowT; rw [List.length_map]; exact h.len⟩
  obtain ⟨t, ht, rfl⟩ := List.mem_map.mp hx
  exact Nat.lt_of_le_of_lt (Int.natAbs_ediv_le_natAbs _ _) (h.hts t ht)
theorem low_ok {b : Int} {ts : List Int} (h : BgOk b ts) : BgOk (lowB b ts) (lowT b ts) := by
  have b0 := h.1
  have p := lowB_pos (b := b) (by omega) ts
  refine ⟨by omega, ?_, ?_⟩
  · unfold lowT; rw [List.length_map]; exact h.2.1
  · unfold lowT; rw [List.length_map]; exact h.2.2
theorem rep_one {K : PySem.W.Frag} {H : Hp} {u : V} {b : Int} {ts : List Int} {Q : VK} (g : Bg H u b ts) (S : BgS b ts) (q : ∀ z, z = (bgD b ts).shown → Q (.str z) H) : rRepr K [u] H Q := by
  have d := dp_bg (K := K) g
  obtain ⟨p, r, rfl, _, _⟩ := g
  have R := rep_bg S
  exact ⟨p, _, rfl, d, R.show_, R.dict, R.depth, R.len, q _ rfl⟩
end Ft

set_option exponentiation.threshold 9000
namespace Ft
open PySem L2
/-! ### numbers as pairs -/
abbrev Fq := Int × Int
def low (a b : Int) : Fq := (a / ((Nat.gcd a.natAbs b.natAbs : Nat) : Int), b / ((Nat.gcd a.natAbs b.natAbs : Nat) : Int))
def nsum (x y : Fq) : Fq := low (x.1 * y.2 + y.1 * x.2) (x.2 * y.2)
def nprod (x y : Fq) : Fq := low (x.1 * y.1) (x.2 * y.2)
/-- of at most b bits, over a positive number -/
def Small (b : Nat) (x : Fq) : Prop := x.1.natAbs < 2 ^ b ∧ x.2.natAbs < 2 ^ b ∧ 0 < x.2
/-- the value v is the number x -/
def Fr (H : Hp) (v : V) (x : Fq) : Prop := ∃ t, v = .ref t ∧ H t = some (.tup [.int x.1, .int x.2])
theorem Fr.same {H H' : Hp} {v : V} {x : Fq} (h : Fr H v x) (s : Same H H') : Fr H' v x := by
  obtain ⟨t, e, z⟩ := h
  exact ⟨t, e, s _ _ z⟩
theorem Fr.new {H : Hp} {p : Addr} {a b : Int} : Fr (upd H p (.tup [.int a, .int b])) (.ref p) (a, b) := ⟨p, rfl, upd_same⟩
theorem two0 {a b : V} : atI [a, b] 0 = some a := atI_nat (j := 0) rfl
theorem two1 {a b : V} : atI [a, b] 1 = some b := atI_nat (j := 1) rfl
theorem fr0 {K : PySem.W.Frag} {H : Hp} {v : V} {x : Fq} {Q : VK} (h : Fr H v x) (q : Q (.int x.1) H) : rIx K v (.int 0) H Q := by
  obtain ⟨t, rfl, z⟩ := h
  exact .inr (.inl ⟨t, _, 0, _, rfl, rfl, SqT.of z, two0, q⟩)
theorem fr1 {K : PySem.W.Frag} {H : Hp} {v : V} {x : Fq} {Q : VK} (h : Fr H v x) (q : Q (.int x.2) H) : rIx K v (.int 1) H Q := by
  obtain ⟨t, rfl, z⟩ := h
  exact .inr (.inl ⟨t, _, 1, _, rfl, rfl, SqT.of z, two1, q⟩)
def sp_low : Sp := fun vs H Q _ => ∃ a b : Int, vs = [.int a, .int b] ∧ 0 < b ∧ b.natAbs < 2 ^ 8001 ∧ ∀ H' v, Same H H' → Fr H' v (low a b) → Q v H'
def sp_num (g : Fq → Fq → Fq) : Sp := fun vs H Q _ => ∃ u v x y, vs = [u, v] ∧ Fr H u x ∧ Fr H v y ∧ Small 4000 x ∧ Small 4000 y ∧ ∀ H' r, Same H H' → Fr H' r (g x y) → Q r H'
theorem gcd_bit {a b : Int} (h : 0 < b) : 0 < ((Nat.gcd a.natAbs b.natAbs : Nat) : Int) ∧ Nat.gcd a.natAbs b.natAbs ≤ b.natAbs := by
  have h1 : 0 < b.natAbs := by omega
  have h2 := Nat.gcd_pos_of_pos_right a.natAbs h1
  exact ⟨by omega, Nat.le_of_dvd h1 (Nat.gcd_dvd_right _ _)⟩
section
variable {P : Program} {w : World} {K : PySem.W.Frag} {mg : Str → Option Value} {base : Heap}
end
end Ft

set_option exponentiation.threshold 9000
namespace Ft
open PySem L2
def addL (b1 : Int) (t1 : List Int) (b2 : Int) (t2 : List Int) : List Int := (List.range (min t1.length t2.length)).map fun n => t1.getD n 0 * b2 + t2.getD n 0 * b1
def csum (t1 t2 : List Int) (n : Nat) : Int := ((List.range (n + 1)).map fun i => t1.getD i 0 * t2.getD (n - i) 0).sum
def mulL (t1 t2 : List Int) : List Int := (List.range (min t1.length t2.length)).map fun n => csum t1 t2 n
def timL (t : List Int) (x : Int) : List Int := t.map fun y => y * x
def sp_bin (f : Int → List Int → Int → List Int → List Int) : Sp := fun vs H Q _ => ∃ u v b1 t1 b2 t2, vs = [u, v] ∧ Bg H u b1 t1 ∧ Bg H v b2 t2 ∧ BgOk b1 t1 ∧ BgOk b2 t2 ∧ b1.natAbs < 2 ^ 2000 ∧ b2.natAbs < 2 ^ 2000 ∧ (∀ x ∈ t1, x.natAbs < 2 ^ 2000) ∧ (∀ x ∈ t2, x.natAbs < 2 ^ 2000) ∧
  ∀ H' r, Same H H' → Bg H' r (lowB (b1 * b2) (f b1 t1 b2 t2)) (lowT (b1 * b2) (f b1 t1 b2 t2)) → Q r H'
def sp_ptops : Sp := fun vs H Q _ => ∃ p q t1 t2, vs = [.ref p, .ref q] ∧ H p = some (.tup (t1.map V.int)) ∧ H q = some (.tup (t2.map V.int)) ∧ t1.length ≤ 400 ∧ t2.length ≤ 400 ∧ (∀ x ∈ t1, x.natAbs < 2 ^ 2000) ∧ (∀ x ∈ t2, x.natAbs < 2 ^ 2000) ∧ ∀ H' r, Same H H' → H' r = some (.lst ((mulL t1 t2).map V.int)) → Q (.ref r) H'
def sp_times : Sp := fun vs H Q _ => ∃ u v b t x, vs = [u, v] ∧ Bg H u b t ∧ Fr H v x ∧ BgOk b t ∧ 1 ≤ x.2 ∧ b.natAbs < 2 ^ 2000 ∧ x.1.natAbs < 2 ^ 2000 ∧ x.2.natAbs < 2 ^ 2000 ∧ (∀ y ∈ t, y.natAbs < 2 ^ 2000) ∧
  ∀ H' r, Same H H' → Bg H' r (lowB (b * x.2) (timL t x.1)) (lowT (b * x.2) (timL t x.1)) → Q r H'
def sp_isNumber : Sp := fun vs H Q _ => ∃ v x, vs = [v] ∧ Fr H v x ∧ 1 ≤ x.2 ∧ ∀ H', Same H H' → Q (.bl true) H'
def sp_isTuple : Sp := fun vs H Q _ => ∃ v x, vs = [v, .int 2] ∧ Fr H v x ∧ ∀ H', Same H H' → Q (.bl true) H'
def sp_isPair : Sp := fun vs H Q _ => ∃ v x, vs = [v] ∧ Fr H v x ∧ ∀ H', Same H H' → Q (.bl true) H'
def sp_checkNumber : Sp := fun vs H Q _ => ∃ v x, vs = [v] ∧ Fr H v x ∧ 1 ≤ x.2 ∧ ∀ H', Same H H' → Q .non H'
def sp_termAt : Sp := fun vs H Q _ => ∃ u b t n, vs = [u, .int ((n : Nat) : Int)] ∧ Bg H u b t ∧ BgOk b t ∧ n < t.length ∧ b.natAbs < 2 ^ 8001 ∧ ∀ H' r, Same H H' → Fr H' r (low (t.getD n 0) b) → Q r H'
theorem getD_lt {ts : List Int} {N : Nat} (h : ∀ x ∈ ts, x.natAbs < 2 ^ N) (i : Nat) : (ts.getD i 0).natAbs < 2 ^ N := by
  rcases Nat.lt_or_ge i ts.length with hi | hi
  · exact h _ (getD_mem hi)
  · rw [List.getD_eq_getElem?_getD, List.getElem?_eq_none hi]
    exact Nat.pow_pos (by decide)
theorem mul2 {i j : Int} (h1 : i.natAbs < 2 ^ 2000) (h2 : j.natAbs < 2 ^ 2000) : CMulW i j := wide_mul h1 h2 (by decide) (by decide) (by decide)
theorem mul_lt2 {i j : Int} (h1 : i.natAbs < 2 ^ 2000) (h2 : j.natAbs < 2 ^ 2000) : (i * j).natAbs < 2 ^ 8000 := Nat.lt_trans (wide_lt h1 h2) (Nat.pow_lt_pow_right (by decide) (by decide))
theorem walk_zipT {K : PySem.W.Frag} {a b : Addr} {xs ys : List V} {n : Nat} (hn : n = min xs.length ys.length) : Walk (RZ.ItzT K a b) n (fun H => SqT K H a xs ∧ SqT K H b ys) (YPair (fun i => xs[i]?) (fun i => ys[i]?)) :=
  ⟨fun i _ lt q => ⟨xs, ys, xs[i]'(by omega), ys[i]'(by omega), q.1, q.2, List.getElem?_eq_getElem _, List.getElem?_eq_getElem _⟩, fun _ q => ⟨xs, ys, q.1, q.2, by omega⟩, fun i _ _ _ _ q y => by
    obtain ⟨T, x, u, e1, e2, e3, e4, e5⟩ := y
    exact ⟨T, x, u, e1, e2, e3, e4 xs q.1, e5 ys q.2⟩⟩
section
variable {P : Program} {w : World} {K : PySem.W.Frag} {mg : Str → Option Value} {base : Heap}
theorem ok_is_tuple (D : Df K mg "is_tuple_of_integers" s_is_tuple_of_integers ["thing", "many"]) (B : Bi mg) (c_is_integer : Cal P w K mg base 1 "is_integer" sp_is_integer) : Cal P w K mg base 2 "is_tuple_of_integers" sp_isTuple := by
  obtain ⟨f, fd, F, m, b⟩ := D.ex
  have sc := sc_is_tuple_of_integers
  refine ⟨f, fd, _, F.ok sc (fun _ _ _ _ ⟨_, _, e, _⟩ => by rw [e]; rfl) (fun cdv A outer s H vs Q E hr h => ?_), m, F.kp, b⟩
  obtain ⟨v, x, rfl, hx, q⟩ := h
  refine ⟨_, (pss_one (ps_ret (pe_and (pe_callB (id := "isinstance") (r := rIsi K) call_isi (by rfl) B.isinstance (by decide +kernel) (pa_cons (pv 0) (pa_cons (pe_ty (n := "tuple") (by rfl) B.tuple (by decide +kernel)) pa_nil))) (pe_and (pe_cmpR op_eq (pe_callB call_len_seq (by rfl) B.len_ (by decide +kernel) (pa_cons (pv 0) pa_nil)) (pv 1) (nomark _)) (pe_one (pe_callB (cr_all rfl) (by rfl) B.all (by decide +kernel) (pa_cons (pe_lc (own := [("item", 2)]) (g := gName 2) (tt := tYes) (by rfl) sc.nd (pi_tup (pv 0)) (blkOk_by (own := [("item", 2)]) (N := N_is_tuple_of_integers) (sc := defScope s_is_tuple_of_integers) (by decide +kernel)) (fun _ _ _ _ _ => (pg_name (i := 2) sc.nd rfl (Or.inl rfl))) (fun _ _ _ _ _ => pts_nil) (fun _ _ _ _ _ => (pe_c c_is_integer hr (by decide) (by rfl) (pa_cons (pv 2) pa_nil)))) pa_nil))))))), ?_⟩
  obtain ⟨t, rfl, ht⟩ := id hx
  refine ⟨_, rfl, _, _, _, _, true, rfl, .ty _, .base (.tup ht), kit_tup_tup, _, rfl, iteT ?_⟩
  refine ⟨_, rfl, t, _, rfl, .inr (SqT.of ht), _, rfl, rfl, _, rfl, ?_⟩
  refine iteT ?_
  refine ⟨_, rfl, t, rfl, ⟨_, SqT.of ht⟩, fun D1 hD1 => ?_⟩
  refine lc_it (walk_tup (xs := [V.int x.1, V.int x.2])) (fun i H' => Same H H' ∧ H' D1 = some (.lst ((List.replicate i true).map V.bl))) ⟨Same.upd_new hD1, upd_same⟩ (fun i H' _ ⟨s2, _⟩ => SqT.of (s2 _ _ ht)) ?_ ?_
  · rintro i u H2 H3 hi ⟨s2, h2⟩ ⟨rfl, hu⟩
    obtain ⟨z, rfl, _⟩ := int_at (ns := [x.1, x.2]) hu
    have hi2 : i < 2 := hi
    refine ⟨rfl, ?_⟩
    refine ⟨_, rfl, z, rfl, trivial, _, h2, ?_, fun b o e => ?_, ?_⟩
    · rw [List.length_map, List.length_replicate]
      exact Nat.lt_of_le_of_lt (by omega : i ≤ 400) (by decide)
    · rw [upd_ne (ne_of_none e hD1)]
      exact s2 _ _ e
    · rw [upd_same, List.replicate_succ', List.map_append]
      rfl
  · rintro H2 ⟨s2, h2⟩
    refine ⟨D1, _, rfl, SqL.of h2, ?_⟩
    rw [all_true]
    exact q H2 s2
theorem ok_is_pair (D : Df K mg "is_pair_of_integers" s_is_pair_of_integers ["thing"]) (c_is_tuple_of_integers : Cal P w K mg base 2 "is_tuple_of_integers" sp_isTuple) : Cal P w K mg base 3 "is_pair_of_integers" sp_isPair := by
  obtain ⟨f, fd, F, m, b⟩ := D.ex
  have sc := sc_is_pair_of_integers
  refine ⟨f, fd, _, F.ok sc (fun _ _ _ _ ⟨_, _, e, _⟩ => by rw [e]; rfl) (fun cdv A outer s H vs Q E hr h => ?_), m, F.kp, b⟩
  obtain ⟨v, x, rfl, hx, q⟩ := h
  refine ⟨_, (pss_one (ps_ret (pe_c c_is_tuple_of_integers hr (by decide) (by rfl) (pa_cons (pv 0) (pa_cons pe_int pa_nil))))), ?_⟩
  exact ⟨_, rfl, v, x, rfl, hx, q⟩
end
end Ft

namespace Ft
/-! sums and products of rows -/
def Sg (f : Nat → Int) : Nat → Int
  | 0 => 0
  | n + 1 => Sg f n + f n
theorem Sg_congr {f g : Nat → Int} : ∀ {n : Nat}, (∀ i, i < n → f i = g i) → Sg f n = Sg g n
  | 0, _ => rfl
  | n + 1, h => by
    show Sg f n + f n = Sg g n + g n
    rw [Sg_congr (n := n) fun i hi => h i (by omega), h n (by omega)]
theorem Sg_add (f g : Nat → Int) : ∀ n : Nat, Sg (fun i => f i + g i) n = Sg f n + Sg g n
  | 0 => rfl
  | n + 1 => by
    show Sg (fun i => f i + g i) n + (f n + g n) = Sg f n + f n + (Sg g n + g n)
    rw [Sg_add f g n]
    omega
theorem Sg_mul (c : Int) (f : Nat → Int) : ∀ n : Nat, Sg (fun i => c * f i) n = c * Sg f n
  | 0 => (Int.mul_zero c).symm
  | n + 1 => by
    show Sg (fun i => c * f i) n + c * f n = c * (Sg f n + f n)
    rw [Sg_mul c f n, Int.mul_add]
theorem Sg_head (f : Nat → Int) : ∀ n : Nat, Sg f (n + 1) = f 0 + Sg (fun i => f (i + 1)) n
  | 0 => by show 0 + f 0 = f 0 + 0; omega
  | n + 1 => by
    show Sg f (n + 1) + f (n + 1) = f 0 + (Sg (fun i => f (i + 1)) n + f (n + 1))
    rw [Sg_head f n]
    omega
theorem Sg_rev (f : Nat → Int) : ∀ n : Nat, Sg f (n + 1) = Sg (fun i => f (n - i)) (n + 1)
  | 0 => rfl
  | n + 1 => by
    rw [Sg_head (fun i => f (n + 1 - i)) (n + 1)]
    show Sg f (n + 1) + f (n + 1) = f (n + 1 - 0) + _
    rw [Sg_rev f n, Nat.sub_zero, Int.add_comm]
    congr 1
    refine Sg_congr fun i hi => ?_
    show f (n - i) = f (n + 1 - (i + 1))
    congr 1
    omega
theorem Sg_tri (F : Nat → Nat → Int) : ∀ n : Nat, Sg (fun k => Sg (fun i => F i (k - i)) (k + 1)) (n + 1) = Sg (fun i => Sg (fun j => F i j) (n - i + 1)) (n + 1)
  | 0 => rfl
  | n + 1 => by
    show Sg (fun k => Sg (fun i => F i (k - i)) (k + 1)) (n + 1) + Sg (fun i => F i (n + 1 - i)) (n + 1 + 1) = Sg (fun i => Sg (fun j => F i j) (n + 1 - i + 1)) (n + 1) + Sg (fun j => F (n + 1) j) (n + 1 - (n + 1) + 1)
    rw [Sg_tri F n]
    have e1 : Sg (fun i => Sg (fun j => F i j) (n + 1 - i + 1)) (n + 1) = Sg (fun i => Sg (fun j => F i j) (n - i + 1) + F i (n + 1 - i)) (n + 1) := Sg_congr fun i hi => by
      show Sg (fun j => F i j) (n + 1 - i + 1) = _
      rw [show n + 1 - i = n - i + 1 by omega]
      rfl
    rw [e1, Sg_add]
    show _ + (Sg (fun i => F i (n + 1 - i)) (n + 1) + F (n + 1) (n + 1 - (n + 1))) = _
    rw [Nat.sub_self]
    show _ = _ + (0 + F (n + 1) 0)
    omega
/-- the product of two rows at n -/
def conv (f g : Nat → Int) (n : Nat) : Int := Sg (fun i => f i * g (n - i)) (n + 1)
theorem conv_comm (f g : Nat → Int) (n : Nat) : conv f g n = conv g f n := by
  unfold conv
  rw [Sg_rev]
  refine Sg_congr fun i hi => ?_
  show f (n - i) * g (n - (n - i)) = g i * f (n - i)
  rw [show n - (n - i) = i by omega, Int.mul_comm]
theorem conv_congr {f g f' g' : Nat → Int} {n : Nat} (h1 : ∀ i, i ≤ n → f i = f' i) (h2 : ∀ i, i ≤ n → g i = g' i) : conv f g n = conv f' g' n :=
  Sg_congr fun i hi => by rw [h1 i (by omega), h2 (n - i) (by omega)]
theorem conv_assoc (f g h : Nat → Int) (n : Nat) : conv (conv f g) h n = conv f (conv g h) n := by
  have t := Sg_tri (fun i j => f i * g j * h (n - (i + j))) n
  have l : conv (conv f g) h n = Sg (fun k => Sg (fun i => f i * g (k - i) * h (n - (i + (k - i)))) (k + 1)) (n + 1) := by
    unfold conv
    refine Sg_congr fun k hk => ?_
    rw [Int.mul_comm, ← Sg_mul]
    refine Sg_congr fun i hi => ?_
    show h (n - k) * (f i * g (k - i)) = _
    rw [show i + (k - i) = k by omega, Int.mul_comm]
  have r : conv f (conv g h) n = Sg (fun i => Sg (fun j => f i * g j * h (n - (i + j))) (n - i + 1)) (n + 1) := by
    unfold conv
    refine Sg_congr fun i hi => ?_
    rw [← Sg_mul]
    refine Sg_congr fun j hj => ?_
    show f i * (g j * h (n - i - j)) = _
    rw [Int.mul_assoc, show n - (i + j) = n - i - j by omega]
  rw [l, r]
  exact t
theorem conv_add (f g h : Nat → Int) (n : Nat) : conv f (fun i => g i + h i) n = conv f g n + conv f h n := by
  unfold conv
  rw [← Sg_add]
  exact Sg_congr fun i _ => Int.mul_add _ _ _
theorem conv_mul (c d : Int) (f g : Nat → Int) (n : Nat) : conv (fun i => c * f i) (fun i => d * g i) n = (c * d) * conv f g n := by
  unfold conv
  rw [← Sg_mul]
  refine Sg_congr fun i _ => ?_
  show c * f i * (d * g (n - i)) = c * d * (f i * g (n - i))
  rw [Int.mul_assoc, Int.mul_assoc, Int.mul_left_comm (f i)]
theorem sum_Sg (f : Nat → Int) : ∀ n : Nat, ((List.range n).map f).sum = Sg f n
  | 0 => rfl
  | n + 1 => by
    rw [List.range_succ, List.map_append, List.sum_append, sum_Sg f n]
    show Sg f n + (f n + 0) = _
    rw [Int.add_zero]
    rfl
end Ft

namespace Ft
/-! whole rows told by their slopes -/
def Dv (f : Nat → Int) (n : Nat) : Int := (n : Int) * f n
def oneF (n : Nat) : Int := if n = 0 then 1 else 0
theorem conv_c (f g : Nat → Int) : conv f g = conv g f := funext (conv_comm f g)
theorem conv_a (f g h : Nat → Int) : conv (conv f g) h = conv f (conv g h) := funext (conv_assoc f g h)
theorem conv_p (f g h : Nat → Int) : conv f (fun i => g i + h i) = fun n => conv f g n + conv f h n := funext (conv_add f g h)
theorem Sg_single (e : Nat) (c : Nat → Int) : ∀ m : Nat, Sg (fun i => if i = e then c i else 0) m = if e < m then c e else 0
  | 0 => by rw [if_neg (by omega)]; rfl
  | m + 1 => by
    show Sg _ m + (if m = e then c m else 0) = _
    rw [Sg_single e c m]
    rcases Nat.lt_trichotomy e m with h | h | h
    · rw [if_pos h, if_neg (by omega), if_pos (by omega)]; omega
    · subst h
      rw [if_neg (by omega), if_pos rfl, if_pos (by omega)]; omega
    · rw [if_neg (by omega), if_neg (by omega), if_neg (by omega)]; rfl
theorem conv_sh (e : Nat) (g : Nat → Int) (n : Nat) : conv (fun i => if i = e then 1 else 0) g n = if e ≤ n then g (n - e) else 0 := by
  unfold conv
  have h : Sg (fun i => (if i = e then (1 : Int) else 0) * g (n - i)) (n + 1) = Sg (fun i => if i = e then g (n - i) else 0) (n + 1) := Sg_congr fun i _ => by
    split
    · rw [Int.one_mul]
    · rw [Int.zero_mul]
  rw [h, Sg_single e (fun i => g (n - i))]
  by_cases he : e ≤ n
  · rw [if_pos (by omega), if_pos he]
  · rw [if_neg (by omega), if_neg he]
theorem conv_one (g : Nat → Int) : conv oneF g = g := funext fun n => by
  have := conv_sh 0 g n
  rw [if_pos (Nat.zero_le _)] at this
  exact this
theorem conv_scale (c : Int) (f g : Nat → Int) (n : Nat) : conv (fun i => c * f i) g n = c * conv f g n := by
  have := conv_mul c 1 f g n
  simpa using this
theorem Dv_conv (f g : Nat → Int) (n : Nat) : Dv (conv f g) n = conv (Dv f) g n + conv f (Dv g) n := by
  unfold Dv conv
  rw [← Sg_mul, ← Sg_add]
  refine Sg_congr fun i hi => ?_
  have : (n : Int) = (i : Int) + ((n - i : Nat) : Int) := by omega
  rw [this]
  grind
def Good (s : Nat → Int) : Prop := ∃ b : Nat → Int, b 0 = 1 ∧ ∀ n, Dv b n = -conv s b n
theorem good_zero : Good fun _ => 0 := by
  refine ⟨oneF, rfl, fun n => ?_⟩
  have h : conv (fun _ => 0) oneF n = 0 := by
    have := conv_scale 0 (fun _ => 0) oneF n
    simpa using this
  rw [h]
  unfold Dv oneF
  split
  · next h => rw [h]; rfl
  · simp
/-- the factor 1 - q ** e, what undoes it, and its slope -/
def fac (e n : Nat) : Int := oneF n - (if n = e then 1 else 0)
def ifac (e n : Nat) : Int := if n % e = 0 then 1 else 0
def slope (e n : Nat) : Int := if n = 0 then 0 else if n % e = 0 then (e : Int) else 0
theorem slope_ifac {e : Nat} (n : Nat) : slope e n = (e : Int) * (ifac e n - oneF n) := by
  unfold slope ifac oneF
  by_cases h : n = 0
  · subst h; simp
  · rw [if_neg h, if_neg h]
    split <;> simp
theorem conv_fac (e : Nat) (g : Nat → Int) (n : Nat) : conv (fac e) g n = g n - (if e ≤ n then g (n - e) else 0) := by
  have h : conv (fac e) g n = conv oneF g n + -1 * conv (fun i => if i = e then 1 else 0) g n := by
    have h1 : conv g (fac e) n = conv g (fun i => oneF i + -1 * (if i = e then 1 else 0)) n := conv_congr (fun _ _ => rfl) fun i _ => by unfold fac; omega
    rw [conv_comm, h1, conv_add, conv_comm g oneF, conv_comm g, conv_scale]
  rw [h, conv_one, conv_sh]
  omega
theorem fac_ifac {e : Nat} (he : 0 < e) : conv (fac e) (ifac e) = oneF := funext fun n => by
  rw [conv_fac]
  unfold ifac oneF
  by_cases h : e ≤ n
  · have : (n - e) % e = n % e := by rw [← Nat.mod_eq_sub_mod h]
    have hn : ¬ n = 0 := by omega
    rw [if_pos h, this, if_neg hn]
    omega
  · rw [if_neg h, Nat.mod_eq_of_lt (by omega)]
    omega
theorem Dv_fac {e : Nat} (he : 0 < e) (n : Nat) : Dv (fac e) n = -conv (slope e) (fac e) n := by
  have h : conv (slope e) (fac e) n = (e : Int) * (oneF n - fac e n) := by
    have h1 : conv (slope e) (fac e) n = (e : Int) * conv (fun i => ifac e i + -1 * oneF i) (fac e) n := by
      rw [← conv_scale]
      exact conv_congr (fun i _ => by rw [slope_ifac]; congr 1; omega) fun _ _ => rfl
    rw [h1, conv_comm, conv_add, conv_comm _ (fun i => -1 * oneF i), conv_scale, fac_ifac he, conv_one]
    congr 1
    omega
  rw [h]
  unfold Dv fac oneF
  by_cases h0 : n = 0
  · subst h0
    rw [if_pos rfl, if_neg (by omega)]
    simp
  · rw [if_neg h0]
    by_cases h1 : n = e
    · rw [if_pos h1, h1]; omega
    · rw [if_neg h1]; simp
theorem Dv_ifac {e : Nat} (he : 0 < e) : Dv (ifac e) = conv (ifac e) (slope e) := by
  have h1 : conv (fac e) (Dv (ifac e)) = slope e := funext fun n => by
    have h := Dv_conv (fac e) (ifac e) n
    rw [fac_ifac he] at h
    have h0 : Dv oneF n = 0 := by
      unfold Dv oneF
      split
      · next h => rw [h]; rfl
      · simp
    have h2 : conv (Dv (fac e)) (ifac e) n = -conv (slope e) oneF n := by
      rw [← fac_ifac he, ← conv_assoc]
      have : conv (Dv (fac e)) (ifac e) n = conv (fun i => -1 * conv (slope e) (fac e) i) (ifac e) n := conv_congr (fun i _ => by rw [Dv_fac he]; omega) fun _ _ => rfl
      rw [this, conv_scale]
      omega
    rw [h0, h2, conv_comm _ oneF, conv_one] at h
    omega
  rw [← h1, ← conv_a, conv_c (ifac e), fac_ifac he, conv_one]
theorem good_up {s : Nat → Int} {e : Nat} (he : 0 < e) (h : Good s) : Good fun i => s i + slope e i := by
  obtain ⟨b, b0, hb⟩ := h
  refine ⟨conv (fac e) b, ?_, fun n => ?_⟩
  · rw [conv_fac, if_neg (by omega), b0]; rfl
  · rw [Dv_conv]
    have h1 : conv (Dv (fac e)) b n = -conv (slope e) (conv (fac e) b) n := by
      rw [← conv_assoc]
      have : conv (Dv (fac e)) b n = conv (fun i => -1 * conv (slope e) (fac e) i) b n := conv_congr (fun i _ => by rw [Dv_fac he]; omega) fun _ _ => rfl
      rw [this, conv_scale]
      omega
    have h2 : conv (fac e) (Dv b) n = -conv s (conv (fac e) b) n := by
      have : conv (fac e) (Dv b) n = conv (fun i => -1 * conv s b i) (fac e) n := by
        rw [conv_comm]
        exact conv_congr (fun i _ => by rw [hb]; omega) fun _ _ => rfl
      rw [this, conv_scale, conv_assoc, conv_c b]
      omega
    rw [h1, h2, conv_comm (fun i => s i + slope e i), conv_add, conv_comm _ s, conv_comm _ (slope e)]
    omega
theorem good_down {s : Nat → Int} {e : Nat} (he : 0 < e) (h : Good s) : Good fun i => s i - slope e i := by
  obtain ⟨b, b0, hb⟩ := h
  refine ⟨conv (ifac e) b, ?_, fun n => ?_⟩
  · show Sg _ 1 = 1
    show 0 + ifac e 0 * b 0 = 1
    rw [b0]
    unfold ifac
    simp
  · rw [Dv_conv, Dv_ifac he]
    have h1 : conv (conv (ifac e) (slope e)) b n = conv (slope e) (conv (ifac e) b) n := by rw [conv_c (ifac e), conv_assoc]
    have h2 : conv (ifac e) (Dv b) n = -conv s (conv (ifac e) b) n := by
      have : conv (ifac e) (Dv b) n = conv (fun i => -1 * conv s b i) (ifac e) n := by
        rw [conv_comm]
        exact conv_congr (fun i _ => by rw [hb]; omega) fun _ _ => rfl
      rw [this, conv_scale, conv_assoc, conv_c b]
      omega
    have h3 : conv (fun i => s i - slope e i) (conv (ifac e) b) n = conv s (conv (ifac e) b) n - conv (slope e) (conv (ifac e) b) n := by
      have : conv (fun i => s i - slope e i) (conv (ifac e) b) n = conv (conv (ifac e) b) (fun i => s i + -1 * slope e i) n := by
        rw [conv_comm]
        exact conv_congr (fun _ _ => rfl) fun i _ => by omega
      rw [this, conv_add, conv_comm _ s, conv_comm _ (fun i => -1 * slope e i), conv_scale]
      omega
    rw [h1, h2, h3]
    omega
end Ft

namespace Ft
abbrev Pq := Nat × Int
/-- sums of a list's numbers -/
theorem good_some {s : Nat → Int} {d : Nat} (hd : 0 < d) (h : Good s) : ∀ K : Nat, Good fun n => s n + Sg (fun j => slope (d * (j + 1)) n) K
  | 0 => by
    have : (fun n => s n + Sg (fun j => slope (d * (j + 1)) n) 0) = s := funext fun n => Int.add_zero _
    rw [this]; exact h
  | K + 1 => by
    have := good_up (e := d * (K + 1)) (Nat.mul_pos hd (by omega)) (good_some hd h K)
    have e : (fun n => s n + Sg (fun j => slope (d * (j + 1)) n) (K + 1)) = fun i => s i + Sg (fun j => slope (d * (j + 1)) i) K + slope (d * (K + 1)) i := funext fun n => by
      show s n + (Sg (fun j => slope (d * (j + 1)) n) K + slope (d * (K + 1)) n) = _
      omega
    rw [e]; exact this
theorem good_less {s : Nat → Int} {d : Nat} (hd : 0 < d) (h : Good s) : ∀ K : Nat, Good fun n => s n - Sg (fun j => slope (d * (j + 1)) n) K
  | 0 => by
    have : (fun n => s n - Sg (fun j => slope (d * (j + 1)) n) 0) = s := funext fun n => Int.sub_zero _
    rw [this]; exact h
  | K + 1 => by
    have := good_down (e := d * (K + 1)) (Nat.mul_pos hd (by omega)) (good_less hd h K)
    have e : (fun n => s n - Sg (fun j => slope (d * (j + 1)) n) (K + 1)) = fun i => s i - Sg (fun j => slope (d * (j + 1)) i) K - slope (d * (K + 1)) i := funext fun n => by
      show s n - (Sg (fun j => slope (d * (j + 1)) n) K + slope (d * (K + 1)) n) = _
      omega
    rw [e]; exact this
theorem good_mulN {s : Nat → Int} {d : Nat} (hd : 0 < d) (K : Nat) (h : Good s) : ∀ r : Nat, Good (fun n => s n + (r : Int) * Sg (fun j => slope (d * (j + 1)) n) K) ∧ Good (fun n => s n + -(r : Int) * Sg (fun j => slope (d * (j + 1)) n) K)
  | 0 => by
    have : (fun n => s n + ((0 : Nat) : Int) * Sg (fun j => slope (d * (j + 1)) n) K) = s := funext fun n => by simp
    have e2 : (fun n => s n + -((0 : Nat) : Int) * Sg (fun j => slope (d * (j + 1)) n) K) = s := funext fun n => by simp
    rw [this, e2]; exact ⟨h, h⟩
  | r + 1 => by
    obtain ⟨a, b⟩ := good_mulN hd K h r
    refine ⟨?_, ?_⟩
    · have := good_some hd a K
      have e : (fun n => s n + ((r + 1 : Nat) : Int) * Sg (fun j => slope (d * (j + 1)) n) K) = fun n => s n + (r : Int) * Sg (fun j => slope (d * (j + 1)) n) K + Sg (fun j => slope (d * (j + 1)) n) K := funext fun n => by
        generalize Sg (fun j => slope (d * (j + 1)) n) K = x
        have : ((r + 1 : Nat) : Int) = (r : Int) + 1 := by omega
        rw [this]; grind
      rw [e]; exact this
    · have := good_less hd b K
      have e : (fun n => s n + -((r + 1 : Nat) : Int) * Sg (fun j => slope (d * (j + 1)) n) K) = fun n => s n + -(r : Int) * Sg (fun j => slope (d * (j + 1)) n) K - Sg (fun j => slope (d * (j + 1)) n) K := funext fun n => by
        generalize Sg (fun j => slope (d * (j + 1)) n) K = x
        have : ((r + 1 : Nat) : Int) = (r : Int) + 1 := by omega
        rw [this]; grind
      rw [e]; exact this
theorem good_mulZ {s : Nat → Int} {d : Nat} (hd : 0 < d) (K : Nat) (h : Good s) (r : Int) : Good fun n => s n + r * Sg (fun j => slope (d * (j + 1)) n) K := by
  rcases Int.le_total 0 r with hr | hr
  · obtain ⟨m, rfl⟩ : ∃ m : Nat, r = (m : Int) := ⟨r.toNat, by omega⟩
    exact (good_mulN hd K h m).1
  · obtain ⟨m, rfl⟩ : ∃ m : Nat, r = -(m : Int) := ⟨(-r).toNat, by omega⟩
    exact (good_mulN hd K h m).2
def slo (M : Nat) : List Pq → Nat → Int
  | [], _ => 0
  | e :: ps, n => slo M ps n + e.2 * Sg (fun j => slope (e.1 * (j + 1)) n) ((M - 1) / e.1)
theorem good_slo (M : Nat) : ∀ ps : List Pq, (∀ e ∈ ps, 0 < e.1) → Good (slo M ps)
  | [], _ => good_zero
  | e :: ps, h => good_mulZ (h e List.mem_cons_self) _ (good_slo M ps fun x hx => h x (List.mem_cons_of_mem _ hx)) e.2
theorem slo_snoc (M n : Nat) (e : Pq) : ∀ ps : List Pq, slo M (ps ++ [e]) n = slo M ps n + e.2 * Sg (fun j => slope (e.1 * (j + 1)) n) ((M - 1) / e.1)
  | [] => rfl
  | x :: ps => by
    show slo M (ps ++ [e]) n + _ = slo M ps n + _ + _
    rw [slo_snoc M n e ps]
    omega
theorem slope_zero (e : Nat) : slope e 0 = 0 := rfl
theorem Sg_zero : ∀ n : Nat, Sg (fun _ => 0) n = 0
  | 0 => rfl
  | n + 1 => by show Sg _ n + 0 = 0; rw [Sg_zero n]; rfl
theorem slo_zero (M : Nat) : ∀ ps : List Pq, slo M ps 0 = 0
  | [] => rfl
  | e :: ps => by
    show slo M ps 0 + _ = 0
    rw [slo_zero M ps]
    have : Sg (fun j => slope (e.1 * (j + 1)) 0) ((M - 1) / e.1) = 0 := (Sg_congr fun _ _ => slope_zero _).trans (Sg_zero _)
    rw [this]
    simp
/-- the sum of the divisors -/
def sgm (m : Nat) : Int := Sg (fun j => if m % (j + 1) = 0 then ((j + 1 : Nat) : Int) else 0) m
theorem Sg_more {f : Nat → Int} {m : Nat} : ∀ k : Nat, (∀ i, m ≤ i → i < m + k → f i = 0) → Sg f (m + k) = Sg f m
  | 0, _ => rfl
  | k + 1, h => by
    show Sg f (m + k) + f (m + k) = _
    rw [Sg_more k fun i a b => h i a (by omega), h (m + k) (by omega) (by omega)]
    omega
/-- what a pair adds to the row -/
def pairG (e : Pq) (n : Nat) : Int := e.2 * (e.1 : Int) * (if n % e.1 = 0 then sgm (n / e.1) else 0)
theorem slope_sum {M d n : Nat} (hd : 0 < d) (hn : n < M) : Sg (fun j => slope (d * (j + 1)) n) ((M - 1) / d) = (d : Int) * (if n % d = 0 then sgm (n / d) else 0) := by
  by_cases h0 : n = 0
  · subst h0
    have : Sg (fun j => slope (d * (j + 1)) 0) ((M - 1) / d) = 0 := (Sg_congr fun _ _ => slope_zero _).trans (Sg_zero _)
    rw [this, Nat.zero_mod, if_pos rfl, Nat.zero_div]
    show 0 = (d : Int) * 0
    simp
  by_cases h : n % d = 0
  · rw [if_pos h]
    obtain ⟨m, rfl⟩ : ∃ m, n = d * m := ⟨n / d, by rw [Nat.mul_div_cancel' (Nat.dvd_of_mod_eq_zero h)]⟩
    rw [Nat.mul_div_cancel_left m hd]
    have hm : m ≤ (M - 1) / d := (Nat.le_div_iff_mul_le hd).mpr (by rw [Nat.mul_comm]; omega)
    obtain ⟨k, hk⟩ : ∃ k, (M - 1) / d = m + k := ⟨(M - 1) / d - m, by omega⟩
    have m0 : 0 < m := Nat.pos_of_ne_zero fun z => h0 (by rw [z, Nat.mul_zero])
    rw [hk, Sg_more k fun i a b => ?_]
    · unfold sgm
      rw [← Sg_mul]
      refine Sg_congr fun j hj => ?_
      unfold slope
      rw [if_neg h0, Nat.mul_mod_mul_left]
      by_cases hz : m % (j + 1) = 0
      · rw [if_pos hz, if_pos (by rw [hz, Nat.mul_zero])]
        omega
      · rw [if_neg hz, if_neg (fun z => hz (by rcases Nat.mul_eq_zero.mp z with q | q <;> omega))]
        simp
    · unfold slope
      rw [if_neg h0, Nat.mul_mod_mul_left, Nat.mod_eq_of_lt (show m < i + 1 by omega), if_neg h0]
  · rw [if_neg h]
    have : Sg (fun j => slope (d * (j + 1)) n) ((M - 1) / d) = 0 := (Sg_congr fun j _ => by
      unfold slope
      rw [if_neg h0, if_neg fun z => h ?_]
      have := Nat.mod_mul_right_mod n d (j + 1)
      rw [z] at this
      rw [← this, Nat.zero_mod]).trans (Sg_zero _)
    rw [this]
    simp
def rowG : List Pq → Nat → Int
  | [], _ => 0
  | e :: ps, n => rowG ps n + pairG e n
theorem slo_row {M n : Nat} (hn : n < M) : ∀ ps : List Pq, (∀ e ∈ ps, 0 < e.1) → slo M ps n = rowG ps n
  | [], _ => rfl
  | e :: ps, h => by
    show slo M ps n + _ = rowG ps n + pairG e n
    rw [slo_row hn ps fun x hx => h x (List.mem_cons_of_mem _ hx), slope_sum (h e List.mem_cons_self) hn]
    unfold pairG
    rw [Int.mul_assoc]
theorem rowG_snoc (n : Nat) (e : Pq) : ∀ ps : List Pq, rowG (ps ++ [e]) n = rowG ps n + pairG e n
  | [] => rfl
  | x :: ps => by
    show rowG (ps ++ [e]) n + _ = rowG ps n + _ + _
    rw [rowG_snoc n e ps]
    omega
/-- the terms by the recurrence -/
def totL (s : Nat → Int) (l : List Int) (n : Nat) : Int := Sg (fun j => s (j + 1) * l.getD (n - (j + 1)) 0) n
def termsL (s : Nat → Int) : Nat → List Int
  | 0 => [1]
  | n + 1 => termsL s n ++ [(-(totL s (termsL s n) (n + 1))) / ((n + 1 : Nat) : Int)]
theorem getD_map (b : Nat → Int) (m i : Nat) (h : i < m) : ((List.range m).map b).getD i 0 = b i := by
  rw [List.getD_eq_getElem?_getD, List.getElem?_map, List.getElem?_range h]
  rfl
theorem conv_head {s b : Nat → Int} (s0 : s 0 = 0) (n : Nat) : conv s b n = Sg (fun j => s (j + 1) * b (n - (j + 1))) n := by
  unfold conv
  rw [Sg_head]
  show s 0 * b (n - 0) + _ = _
  rw [s0, Int.zero_mul, Int.zero_add]
theorem termsL_eq {s b : Nat → Int} (b0 : b 0 = 1) (hb : ∀ n, Dv b n = -conv s b n) (s0 : s 0 = 0) : ∀ n, termsL s n = (List.range (n + 1)).map b
  | 0 => by show [1] = [b 0]; rw [b0]
  | n + 1 => by
    show termsL s n ++ [_] = _
    rw [termsL_eq b0 hb s0 n]
    have ht : totL s ((List.range (n + 1)).map b) (n + 1) = conv s b (n + 1) := by
      rw [conv_head s0]
      unfold totL
      exact Sg_congr fun j hj => by rw [getD_map b _ _ (by omega)]
    have h := hb (n + 1)
    unfold Dv at h
    rw [ht, ← h, Int.mul_ediv_cancel_left _ (by omega)]
    rw [show n + 1 + 1 = (n + 1) + 1 from rfl, List.range_succ (n := n + 1), List.map_append]
    rfl
/-- how great they get -/
def sumN (f : Nat → Nat) : Nat → Nat
  | 0 => 0
  | n + 1 => sumN f n + f n
theorem Sg_abs (f : Nat → Int) : ∀ n, (Sg f n).natAbs ≤ sumN (fun i => (f i).natAbs) n
  | 0 => Nat.le_refl _
  | n + 1 => by
    show (Sg f n + f n).natAbs ≤ sumN _ n + (f n).natAbs
    have := Sg_abs f n
    omega
theorem sumN_le {f g : Nat → Nat} : ∀ {n : Nat}, (∀ i, i < n → f i ≤ g i) → sumN f n ≤ sumN g n
  | 0, _ => Nat.le_refl _
  | n + 1, h => Nat.add_le_add (sumN_le fun i hi => h i (by omega)) (h n (by omega))
theorem sumN_head (f : Nat → Nat) : ∀ n, sumN f (n + 1) = f 0 + sumN (fun i => f (i + 1)) n
  | 0 => by show 0 + f 0 = f 0 + 0; omega
  | n + 1 => by
    show sumN f (n + 1) + f (n + 1) = f 0 + (sumN _ n + f (n + 1))
    rw [sumN_head f n]; omega
theorem geo (S : Nat) : ∀ n, sumN (fun j => S * (1 + S) ^ (n - (j + 1))) n + 1 = (1 + S) ^ n
  | 0 => rfl
  | n + 1 => by
    rw [sumN_head]
    have e : sumN (fun i => S * (1 + S) ^ (n + 1 - (i + 1 + 1))) n = sumN (fun j => S * (1 + S) ^ (n - (j + 1))) n := by
      congr 1
      funext i
      rw [show n + 1 - (i + 1 + 1) = n - (i + 1) by omega]
    rw [e, Nat.add_assoc, geo S n, Nat.add_sub_cancel, Nat.pow_succ]
    generalize (1 + S) ^ n = x
    rw [Nat.mul_add, Nat.mul_one, Nat.mul_comm S x]
    omega
theorem b_bound {s b : Nat → Int} {S : Nat} (b0 : b 0 = 1) (hb : ∀ n, Dv b n = -conv s b n) (s0 : s 0 = 0) (hs : ∀ i, (s i).natAbs ≤ S) (n : Nat) : (b n).natAbs ≤ (1 + S) ^ n := by
  induction n using Nat.strongRecOn with
  | ind n ih =>
    cases n with
    | zero => rw [b0]; exact Nat.le_refl _
    | succ n =>
      have h := hb (n + 1)
      unfold Dv at h
      have h1 : ((n + 1 : Nat) : Int).natAbs * (b (n + 1)).natAbs = (conv s b (n + 1)).natAbs := by rw [← Int.natAbs_mul, h, Int.natAbs_neg]
      rw [conv_head s0] at h1
      have h2 := Sg_abs (fun j => s (j + 1) * b (n + 1 - (j + 1))) (n + 1)
      have h3 : sumN (fun i => (s (i + 1) * b (n + 1 - (i + 1))).natAbs) (n + 1) ≤ sumN (fun j => S * (1 + S) ^ (n + 1 - (j + 1))) (n + 1) := sumN_le fun i hi => by
        rw [Int.natAbs_mul]
        exact Nat.mul_le_mul (hs _) (ih _ (by omega))
      have h4 := geo S (n + 1)
      have h5 : (b (n + 1)).natAbs ≤ ((n + 1 : Nat) : Int).natAbs * (b (n + 1)).natAbs := Nat.le_mul_of_pos_left _ (by omega)
      omega
end Ft

namespace Ft
open PySem L2
/-- reading an item of a list, for an augmented store -/
def rGetL : V → V → Hp → VK → Prop := fun o i H Q => ∃ (p : Addr) (xs : List V) (k : Nat) (x : V), o = .ref p ∧ i = .int (k : Int) ∧ H p = some (.lst xs) ∧ xs[k]? = some x ∧ xs.length < 2 ^ 62 ∧ Q x H
theorem get_lst {X : Cx} : PGet X rGetL := by
  intro pins s σ H o i ov iv Q I ro ri h
  obtain ⟨p, xs, k, x, rfl, rfl, hp, hx, hl, q⟩ := h
  obtain rfl : ov = Value.ref p := ro
  obtain ⟨t, rfl⟩ : ∃ t, iv = Value.int (k : Int) t := ri
  have hk := I.hok _ _ hp
  simp only [ObjOk] at hk
  obtain ⟨_, its, n, rv, ho⟩ := hk
  obtain ⟨u, hu, ru⟩ := Vals.get rv hx
  have hkl : k < xs.length := (List.getElem?_eq_some_iff.mp hx).1
  refine PySem.wpAny_getItem_list (items := its.toArray) (k := (k : Int)) (x := u) ⟨_, ho, rfl, n, rfl⟩ (by omega) (by omega) ?_ ⟨x, H, I, ru, q⟩
  rw [Int.toNat_natCast, List.getElem?_toArray]
  exact hu
theorem rgC {d M : Nat} (hd : 1 ≤ d) (hd2 : d ≤ 400) (hM : M ≤ 400) : RgC (d : Int) (M : Int) (d : Int) ((M - 1) / d) := by
  have key : Builtin.Range.rangeSize (d : Int) (M : Int) (d : Int) = (((M - 1) / d : Nat) : Int) := by
    unfold Builtin.Range.rangeSize
    rw [if_pos (by omega)]
    by_cases h : (d : Int) < (M : Int)
    · rw [if_pos h]
      have e1 : ((M : Int) - (d : Int) - 1) = ((M - d - 1 : Nat) : Int) := by omega
      rw [e1]
      have e2 : (M - 1) / d = (M - d - 1) / d + 1 := by
        rw [show M - 1 = M - d - 1 + d by omega, Nat.add_div_right _ (by omega)]
      rw [e2]
      rfl
    · rw [if_neg h]
      have : (M - 1) / d = 0 := Nat.div_eq_of_lt (by omega)
      rw [this]
      rfl
  have hle : (M - 1) / d ≤ 400 := Nat.le_trans (Nat.div_le_self _ _) (by omega)
  have fit : ∀ z : Int, -2000 ≤ z → z ≤ 2000 → Builtin.Range.rangeFitsLong z = true := fun z a b => by
    unfold Builtin.Range.rangeFitsLong
    simp only [Bool.and_eq_true, decide_eq_true_eq]
    omega
  generalize (M - 1) / d = q at key hle
  refine ⟨by omega, by omega, ?_, key⟩
  unfold Builtin.Range.small
  rw [key, if_pos (by omega), fit _ (by omega) (by omega), fit _ (by omega) (by omega), fit _ (by omega) (by omega), fit ((M : Int) + ((d : Int) - 1)) (by omega) (by omega)]
  simp
theorem set_map {α : Type} (f : Nat → α) (v : α) {M k : Nat} (hk : k < M) : ((List.range M).map f).set k v = (List.range M).map fun n => if n = k then v else f n := by
  apply List.ext_getElem?
  intro i
  rw [List.getElem?_set, List.getElem?_map, List.getElem?_map]
  rcases Nat.lt_or_ge i M with hi | hi
  · rw [List.getElem?_range hi, List.length_map, List.length_range]
    by_cases h : k = i
    · rw [if_pos h, if_pos (by omega)]
      show some v = some (if i = k then v else f i)
      rw [if_pos h.symm]
    · rw [if_neg h]
      show some (f i) = some (if i = k then v else f i)
      rw [if_neg (fun z => h z.symm)]
  · rw [List.getElem?_eq_none (by rw [List.length_range]; exact hi)]
    by_cases h : k = i
    · omega
    · rw [if_neg h]
      rfl
end Ft

namespace Ft
open PySem L2
theorem Rd.same {H H' : Hp} {a : Addr} {u : HO} (h : Rd H a u) (s : Same H H') : Rd H' a u := by
  rcases h with h | ⟨o, h⟩
  · exact .inl (s _ _ h)
  · exact .inr ⟨o, s _ _ h⟩
theorem rds {H H' : Hp} {a : Addr} {u : HO} (s : Same H H') (h : Rd H a u) : Rd H' a u := Rd.same h s
theorem Rd.keep {H H' : Hp} {a md : Addr} {us : List V} {u : List (Key × V)} (h : Rd H a (.tup us)) (hm : H md = some (.dK u)) (k : ∀ b o, H b = some o → b ≠ md → H' b = some o) : Rd H' a (.tup us) := by
  rcases h with h | ⟨o, h⟩
  · exact .inl (k _ _ h (ne_of h hm (by intro z; cases z)))
  · exact .inr ⟨o, k _ _ h (ne_of h hm (by intro z; cases z))⟩
theorem rd_tup {X : Cx} {pins : List (Addr × Obj)} {σ : St} {H : Hp} {s : Shared} (I : L2.Inv X pins σ H s) {a : Addr} {us : List V} (h : Rd H a (.tup us)) : ∃ its, Vals us its ∧ PyProof.Rows.IsTup s.heap a its.toArray := by
  obtain ⟨its, r, t, _⟩ := I.tuple (a := a) (xs := us) (.inl h)
  exact ⟨its, r, t⟩
/-- isinstance(t, tuple), t a tuple -/
def rIsT : List V → Hp → VK → Prop := fun xs H Q => ∃ (a : Addr) (us : List V), xs = [.ref a, .ty "tuple"] ∧ Rd H a (.tup us) ∧ Q (.bl true) H
theorem call_isiT {X : Cx} : CallR X (.builtin "isinstance") rIsT := by
  intro pins s σ H xs us Q I r h
  obtain ⟨a, ws, rfl, ha, q⟩ := h
  match us, r with
  | [u, c], .cons r1 (.cons r2 .nil) =>
    obtain rfl : u = Value.ref a := r1
    obtain rfl : c = Value.type "tuple" := r2
    obtain ⟨its, _, o, ho, hc, _⟩ := rd_tup I ha
    exact PyProof.Rows.call_isinstance_yes (Tx := "tuple") ⟨o, ho, hc⟩ (by with_unfolding_all rfl) (by with_unfolding_all rfl) ⟨.bl true, H, I, rfl, q⟩
/-- a plain tuple: no dict -/
def Plain (ob : Obj) : Prop := ob.cls = Value.type "tuple" ∧ ob.dict = none
def rTupF : List V → Hp → VK → Prop := fun xs H Q => ∃ (p : Addr) (ys : List V), xs = [.ref p] ∧ H p = some (.lst ys) ∧ ∀ (t : Addr) (ob : Obj), Plain ob → H t = none → Q (.ref t) (upd H t (.frz ob (.tup ys)))
theorem call_tupF {X : Cx} : CallR X (.type "tuple") rTupF := by
  intro pins s σ H xs us Q I r h
  obtain ⟨p, ys, rfl, hp, q⟩ := h
  obtain ⟨u, rfl, rx⟩ := vals1 r
  obtain rfl : u = Value.ref p := rx
  have hk := I.hok _ _ hp
  simp only [ObjOk] at hk
  obtain ⟨hlen, its, n, rv, ho⟩ := hk
  have hl : its.toArray.size ≤ sizeLine := by rw [List.size_toArray, ← rv.length]; exact hlen
  refine PySem.call_tuple_list (items := its.toArray) ⟨_, ho, rfl, n, rfl⟩ (fun h' hk => ?_) hl
  have I1 := I.kept (t' := s.toks) hk
  refine ⟨.ref h'.objs.size, _, I1.laid (t' := s.toks) (a := h'.objs.size) (o := .frz { cls := Value.type "tuple", data := Data.seq its.toArray } (.tup ys)) (fun b o e => Heap.get?_push_of_some _ e) (Nat.le_refl _) ?_, rfl, q _ _ ⟨rfl, rfl⟩ I1.fresh⟩
  have hg : (h'.push { cls := Value.type "tuple", data := Data.seq its.toArray }).get? h'.objs.size = some { cls := Value.type "tuple", data := Data.seq its.toArray } := by heap_get
  simp only [ObjOk]
  exact ⟨hg, hlen, its, rv, _, hg, rfl, 0, rfl⟩
end Ft

namespace Ft
open PySem L2
/-- the value v is the pair e -/
def PrA (H : Hp) (v : V) (e : Pq) : Prop := Fr H v ((e.1 : Int), e.2)
theorem PrA.same {H H' : Hp} {v : V} {e : Pq} (h : PrA H v e) (s : Same H H') : PrA H' v e := Fr.same h s
theorem PrA.upd {H : Hp} {p : Addr} {xs : List V} {o : HO} {v : V} {e : Pq} (hp : H p = some (.lst xs)) (h : PrA H v e) : PrA (upd H p o) v e := by
  obtain ⟨t, a, b⟩ := h
  exact ⟨t, a, by rw [upd_ne (ne_of b hp (by intro z; cases z))]; exact b⟩
structure PrsAt (H : Hp) (us : List V) (l : List Pq) : Prop where
  len : us.length = l.length
  at_ : ∀ (i : Nat) (u : V) (e : Pq), us[i]? = some u → l[i]? = some e → PrA H u e
theorem PrsAt.same {H H' : Hp} {us : List V} {l : List Pq} (h : PrsAt H us l) (s : Same H H') : PrsAt H' us l := ⟨h.len, fun i u e a b => (h.at_ i u e a b).same s⟩
theorem PrsAt.snoc {H : Hp} {us : List V} {l : List Pq} {u : V} {e : Pq} (h : PrsAt H us l) (k : PrA H u e) : PrsAt H (us ++ [u]) (l ++ [e]) := by
  refine ⟨by rw [List.length_append, List.length_append, h.len]; rfl, fun i v f a b => ?_⟩
  rcases Nat.lt_or_ge i us.length with hi | hi
  · rw [List.getElem?_append_left hi] at a
    rw [List.getElem?_append_left (by rw [← h.len]; exact hi)] at b
    exact h.at_ i v f a b
  · rw [List.getElem?_append_right hi] at a
    rw [List.getElem?_append_right (by rw [← h.len]; exact hi), ← h.len] at b
    cases hk : i - us.length with
    | zero => rw [hk] at a b; cases a; cases b; exact k
    | succ n => rw [hk] at a; cases a
theorem PrsAt.upd {H : Hp} {p : Addr} {xs : List V} {o : HO} {us : List V} {l : List Pq} (hp : H p = some (.lst xs)) (h : PrsAt H us l) : PrsAt (upd H p o) us l := ⟨h.len, fun i u e a b => (h.at_ i u e a b).upd hp⟩
theorem PrsAt.get {H : Hp} {us : List V} {l : List Pq} (h : PrsAt H us l) {i : Nat} {u : V} (hu : us[i]? = some u) : ∃ e, l[i]? = some e ∧ PrA H u e := by
  have hi : i < l.length := by rw [← h.len]; exact (List.getElem?_eq_some_iff.mp hu).1
  exact ⟨l[i], List.getElem?_eq_getElem hi, h.at_ i u _ hu (List.getElem?_eq_getElem hi)⟩
def Pd (H : Hp) (v : V) (ps : List Pq) : Prop := ∃ p us, v = .ref p ∧ Rd H p (.tup us) ∧ PrsAt H us ps
theorem Pd.same {H H' : Hp} {v : V} {ps : List Pq} (h : Pd H v ps) (s : Same H H') : Pd H' v ps := by
  obtain ⟨p, us, e, a, b⟩ := h
  exact ⟨p, us, e, rds s a, b.same s⟩
structure PdOk (ps : List Pq) : Prop where
  len : ps.length ≤ 8
  rng : ∀ e ∈ ps, 1 ≤ e.1 ∧ e.1 ≤ 400 ∧ e.2.natAbs ≤ 48 ∧ e.2 ≠ 0
  asc : ps.Pairwise fun a b => a.1 < b.1
def sp_isPP : Sp := fun vs H Q _ => ∃ v e, vs = [v] ∧ PrA H v e ∧ 1 ≤ e.1 ∧ e.1 ≤ 400 ∧ e.2.natAbs ≤ 48 ∧ e.2 ≠ 0 ∧ ∀ H', Same H H' → Q (.bl true) H'
def sp_isProd : Sp := fun vs H Q _ => ∃ v ps, vs = [v] ∧ Pd H v ps ∧ PdOk ps ∧ ∀ H', Same H H' → Q (.bl true) H'
def sp_checkProd : Sp := fun vs H Q _ => ∃ v ps, vs = [v] ∧ Pd H v ps ∧ PdOk ps ∧ ∀ H', Same H H' → Q .non H'
def sp_checkCount : Sp := fun vs H Q _ => ∃ n : Nat, vs = [.int (n : Int)] ∧ 1 ≤ n ∧ n ≤ 400 ∧ Q .non H
section
variable {P : Program} {w : World} {K : PySem.W.Frag} {mg : Str → Option Value} {base : Heap}
theorem ok_isPP (D : Df K mg "is_product_pair" s_is_product_pair ["thing"]) (c_is_pair_of_integers : Cal P w K mg base 3 "is_pair_of_integers" sp_isPair) (c_is_between : Cal P w K mg base 2 "is_between" sp_is_between) : Cal P w K mg base 4 "is_product_pair" sp_isPP := by
  obtain ⟨f, fd, F, m, b⟩ := D.ex
  have sc := sc_is_product_pair
  refine ⟨f, fd, _, F.ok sc (fun _ _ _ _ ⟨_, _, e, _⟩ => by rw [e]; rfl) (fun cdv A outer s H vs Q E hr h => ?_), m, F.kp, b⟩
  obtain ⟨v, e, rfl, hv, e1, e2, e3, e4, q⟩ := h
  refine ⟨_, (pss_cons (ps_if (pt_not (pt_val (pe_c c_is_pair_of_integers hr (by decide) (by rfl) (pa_cons (pv 0) pa_nil))))
      (pss_one (ps_ret pe_bl))
      pss_nil)
      (pss_cons (ps_asg (pv 0) (pg_tup rfl (pgs_cons (pg_name (i := 1) sc.nd rfl (Or.inl rfl)) (pgs_cons (pg_name (i := 2) sc.nd rfl (Or.inl rfl)) pgs_nil))))
      (pss_one (ps_ret (pe_and (pe_chain op_le op_le pe_int (pv 1) pe_int) (pe_and (pe_c c_is_between hr (by decide) (by rfl) (pa_cons (pv 2) (pa_cons (pe_un un_neg pe_int) (pa_cons pe_int pa_nil)))) (pe_one (pe_cmpR op_ne (pv 2) pe_int (nomark _))))))))), ?_⟩
  refine ⟨_, rfl, v, _, rfl, hv, fun H1 s1 => ⟨_, rfl, iteF ?_⟩⟩
  dsimp only [tNext]
  obtain ⟨t, rfl, ht⟩ := hv.same s1
  refine ⟨_, rfl, t, _, rfl, SqT.of ht, rfl, _, _, rfl, _, _, rfl, rfl, ?_⟩
  have f1 : decide ((-48 : Int) ≤ e.2) = true := decide_eq_true (by omega)
  have f2 : decide (e.2 ≤ 48) = true := decide_eq_true (by omega)
  refine ⟨_, rfl, _, _, rfl, rfl, _, rfl, ifD (fun _ => ?_) fun h => absurd (show (1 : Int) ≤ (e.1 : Int) by omega) h⟩
  refine ⟨_, _, rfl, rfl, _, rfl, ifD (fun _ => ?_) fun h => absurd (show (e.1 : Int) ≤ 400 by omega) h⟩
  refine ⟨_, rfl, _, rfl, e.2, -48, 48, rfl, trivial, _, rfl, ?_⟩
  rw [f1, f2]
  refine iteT ⟨_, rfl, rfl, ?_⟩
  have f3 : (!decide (V.int e.2 = V.int 0)) = true := by rw [decide_eq_false fun z => e4 (V.int.inj z)]; rfl
  show Q (V.bl (!decide (V.int e.2 = V.int 0))) H1
  rw [f3]
  exact q _ s1
theorem ok_is_product (D : Df K mg "is_product" s_is_product ["thing"]) (B : Bi mg) (c_is_product_pair : Cal P w K mg base 4 "is_product_pair" sp_isPP) : Cal P w K mg base 5 "is_product" sp_isProd := by
  obtain ⟨f, fd, F, m, b⟩ := D.ex
  have sc := sc_is_product
  refine ⟨f, fd, _, F.ok sc (fun _ _ _ _ ⟨_, _, e, _⟩ => by rw [e]; rfl) (fun cdv A outer s H vs Q E hr h => ?_), m, F.kp, b⟩
  obtain ⟨v, ps, rfl, ⟨p, us, rfl, hp, hus⟩, ok, q⟩ := h
  refine ⟨_, (pss_cons (ps_if (PW.pt (pw_or (pt_not (pt_val (pe_callB (id := "isinstance") (r := rIsT) call_isiT (by rfl) B.isinstance (by decide +kernel) (pa_cons (pv 0) (pa_cons (pe_ty (n := "tuple") (by rfl) B.tuple (by decide +kernel)) pa_nil))))) (pw_or1 (pt_cmpR op_gt (pe_callB call_len_seq (by rfl) B.len_ (by decide +kernel) (pa_cons (pv 0) pa_nil)) pe_int (nomark _)))))
      (pss_one (ps_ret pe_bl))
      pss_nil)
      (pss_cons (ps_if (pt_not (pt_val (pe_callB (cr_all rfl) (by rfl) B.all (by decide +kernel) (pa_cons (pe_lc (own := [("pair", 1)]) (g := gName 1) (tt := tYes) (by rfl) sc.nd (pi_tup (pv 0)) (blkOk_by (own := [("pair", 1)]) (N := N_is_product) (sc := defScope s_is_product) (by decide +kernel)) (fun _ _ _ _ _ => (pg_name (i := 1) sc.nd rfl (Or.inl rfl))) (fun _ _ _ _ _ => pts_nil) (fun _ _ _ _ _ => (pe_c c_is_product_pair hr (by decide) (by rfl) (pa_cons (pv 1) pa_nil)))) pa_nil))))
      (pss_one (ps_ret pe_bl))
      pss_nil)
      (pss_one (ps_ret (pe_callB (cr_all rfl) (by rfl) B.all (by decide +kernel) (pa_cons (pe_lc (own := [("i", 2)]) (g := gName 2) (tt := tYes) (by rfl) sc.nd (pi_range1 rfl B.range (pa_cons (pe_op op_sub (pe_callB call_len_seq (by rfl) B.len_ (by decide +kernel) (pa_cons (pv 0) pa_nil)) pe_int) pa_nil)) (blkOk_by (own := [("i", 2)]) (N := N_is_product) (sc := defScope s_is_product) (by decide +kernel)) (fun _ _ _ _ _ => (pg_name (i := 2) sc.nd rfl (Or.inl rfl))) (fun _ _ _ _ _ => pts_nil) (fun _ _ _ _ _ => (pe_cmpR op_lt (pe_ix (show IxR _ (rIx K) from ix_seq) (pe_ix (show IxR _ (rIx K) from ix_seq) (pv 0) (pv 2) (fun _ _ => rfl)) pe_int (fun _ _ => rfl)) (pe_ix (show IxR _ (rIx K) from ix_seq) (pe_ix (show IxR _ (rIx K) from ix_seq) (pv 0) (pe_op op_add (pv 2) pe_int) (fun _ _ => rfl)) pe_int (fun _ _ => rfl)) (nomark _)))) pa_nil)))))), ?_⟩
  have l8 := ok.len
  have lu := hus.len
  refine ⟨_, rfl, p, us, rfl, hp, true, rfl, iteF ?_⟩
  refine ⟨_, rfl, p, _, rfl, .inr (.inl hp), _, _, rfl, rfl, _, rfl, ifD (fun h => absurd h (by omega)) fun _ => ?_⟩
  dsimp only [tNext]
  refine ⟨_, rfl, p, rfl, ⟨_, .inl hp⟩, fun D1 hD1 => ?_⟩
  refine lc_it (walk_tup (xs := us)) (fun i H' => Same H H' ∧ H' D1 = some (.lst ((List.replicate i true).map V.bl))) ⟨Same.upd_new hD1, upd_same⟩ (fun i H' _ ⟨s2, _⟩ => .inl (rds s2 hp)) ?_ ?_
  · rintro i u H2 H3 hi ⟨s2, h2⟩ ⟨rfl, hu⟩
    obtain ⟨e, he, hpr⟩ := hus.get hu
    obtain ⟨e1, e2, e3, e4⟩ := ok.rng e (List.mem_of_getElem? he)
    refine ⟨rfl, ?_⟩
    refine ⟨_, rfl, u, e, rfl, hpr.same s2, e1, e2, e3, e4, fun H4 s4 => ⟨_, s4 _ _ h2, ?_, fun b o e => ?_, ?_⟩⟩
    · rw [List.length_map, List.length_replicate]
      exact Nat.lt_of_le_of_lt (by omega : i ≤ 400) (by decide)
    · rw [upd_ne (ne_of_none e hD1)]
      exact s4 _ _ (s2 _ _ e)
    · rw [upd_same, List.replicate_succ', List.map_append]
      rfl
  · rintro H2 ⟨s2, h2⟩
    refine ⟨D1, _, rfl, SqL.of h2, _, rfl, ?_⟩
    rw [all_true]
    refine iteF ?_
    dsimp only [tNext]
    have hp2 := rds s2 hp
    have hus2 := hus.same s2
    have hll : ((us.length : Nat) : Int) - 1 = (ps.length : Int) - 1 := by rw [lu]
    refine ⟨_, rfl, p, _, rfl, .inr (.inl hp2), _, _, rfl, rfl, _, rfl, by omega, by omega, fun D2 hD2 => ?_⟩
    refine lc_range (lo := 0) (n := (((us.length : Nat) : Int) - 1).toNat) (fun i H' => Same H2 H' ∧ H' D2 = some (.lst ((List.replicate i true).map V.bl))) ⟨Same.upd_new hD2, upd_same⟩ ?_ ?_
    · rintro i H3 hi ⟨s3, h3⟩
      have ha : i < ps.length := by omega
      have hb : i + 1 < ps.length := by omega
      have hua : us[i]? = some (us[i]'(by omega)) := List.getElem?_eq_getElem _
      have hub : us[i + 1]? = some (us[i + 1]'(by omega)) := List.getElem?_eq_getElem _
      have pa := (hus2.at_ i _ ps[i] hua (List.getElem?_eq_getElem ha)).same s3
      have pb := (hus2.at_ (i + 1) _ ps[i + 1] hub (List.getElem?_eq_getElem hb)).same s3
      have lt : (ps[i].1 : Int) < (ps[i + 1].1 : Int) := by
        have := List.pairwise_iff_getElem.mp ok.asc i (i + 1) ha hb (by omega)
        omega
      have hp3 := rds s3 hp2
      have c1 : atI us (0 + (i : Int)) = some (us[i]'(by omega)) := by rw [Int.zero_add]; exact atI_nat hua
      have c2 : atI us (0 + (i : Int) + 1) = some (us[i + 1]'(by omega)) := by rw [show 0 + (i : Int) + 1 = ((i + 1 : Nat) : Int) by omega]; exact atI_nat hub
      refine ⟨rfl, _, rfl, _, rfl, .inr (.inl ⟨p, _, _, _, rfl, rfl, .inl hp3, c1, fr0 pa ?_⟩)⟩
      refine ⟨_, rfl, _, rfl, _, _, rfl, rfl, .inr (.inl ⟨p, _, _, _, rfl, rfl, .inl hp3, c2, fr0 pb ?_⟩)⟩
      refine ⟨_, _, rfl, rfl, ?_⟩
      dsimp only
      rw [decide_eq_true lt]
      refine ⟨_, h3, ?_, fun b o e => ?_, ?_⟩
      · rw [List.length_map, List.length_replicate]
        exact Nat.lt_of_le_of_lt (by omega : i ≤ 400) (by decide)
      · rw [upd_ne (ne_of_none e hD2)]
        exact s3 _ _ e
      · rw [upd_same, List.replicate_succ', List.map_append]
        rfl
    · rintro H3 ⟨s3, h3⟩
      refine ⟨D2, _, rfl, SqL.of h3, ?_⟩
      rw [all_true]
      exact q H3 (s2.trans s3)
theorem ok_check_product (D : Df K mg "check_product" s_check_product ["product"]) (c_is_product : Cal P w K mg base 5 "is_product" sp_isProd) : Cal P w K mg base 6 "check_product" sp_checkProd := by
  obtain ⟨f, fd, F, m, b⟩ := D.ex
  have sc := sc_check_product
  refine ⟨f, fd, _, F.ok sc (fun _ _ _ _ ⟨_, _, e, _⟩ => by rw [e]; rfl) (fun cdv A outer s H vs Q E hr h => ?_), m, F.kp, b⟩
  obtain ⟨v, ps, rfl, hv, ok, q⟩ := h
  refine ⟨_, (pss_one (ps_if (pt_not (pt_val (pe_c c_is_product hr (by decide) (by rfl) (pa_cons (pv 0) pa_nil))))
      (pss_one ps_never)
      pss_nil)), ?_⟩
  exact ⟨_, rfl, v, ps, rfl, hv, ok, fun H1 s1 => ⟨_, rfl, iteF (q _ s1)⟩⟩
end
end Ft

namespace Ft
open PySem L2
/-! dicts of pairs -/
def getP : List Pq → Nat → Option Int
  | [], _ => none
  | e :: l, d => if e.1 = d then some e.2 else getP l d
theorem getP_cons (e : Pq) (l : List Pq) (d : Nat) : getP (e :: l) d = if e.1 = d then some e.2 else getP l d := rfl
def repl (d : Nat) (r : Int) (e : Pq) : Pq := if e.1 = d then (e.1, r) else e
def putP (L : List Pq) (d : Nat) (r : Int) : List Pq := if (getP L d).isSome = true then L.map (repl d r) else L ++ [(d, r)]
def kvL (L : List Pq) : List (Key × V) := L.map fun e => ((Sum.inl (e.1 : Int) : Key), V.int e.2)
theorem inl_iff {a d : Nat} : ((Sum.inl (a : Int) : Key) = Sum.inl (d : Int)) ↔ a = d := by
  constructor
  · intro h; exact Int.ofNat.inj (Sum.inl.inj h)
  · intro h; rw [h]
theorem valV_kvL (d : Nat) : ∀ L : List Pq, valV (kvL L) (.inl (d : Int)) = (getP L d).map V.int
  | [] => rfl
  | e :: l => by
    have ih := valV_kvL d l
    have hc : kvL (e :: l) = ((Sum.inl (e.1 : Int) : Key), V.int e.2) :: kvL l := rfl
    rw [hc]
    unfold getP
    by_cases h : e.1 = d
    · rw [if_pos h, valV_pos (inl_iff.mpr h)]; rfl
    · rw [if_neg h, valV_neg (fun k => h (inl_iff.mp k)), ih]
theorem any_getP (d : Nat) : ∀ L : List Pq, (kvL L).any (fun kv => decide (kv.1 = (Sum.inl (d : Int) : Key))) = (getP L d).isSome
  | [] => rfl
  | e :: l => by
    show (decide (_ = _) || (kvL l).any _) = _
    rw [any_getP d l, getP_cons]
    by_cases h : e.1 = d
    · rw [if_pos h, decide_eq_true (inl_iff.mpr h)]; rfl
    · rw [if_neg h, decide_eq_false (fun k => h (inl_iff.mp k))]; rfl
theorem putK_kvL (L : List Pq) (d : Nat) (r : Int) : putK (kvL L) (.inl (d : Int)) (V.int r) = kvL (putP L d r) := by
  unfold putK putP
  rw [any_getP]
  by_cases h : (getP L d).isSome = true
  · rw [if_pos h, if_pos h]
    unfold kvL
    rw [List.map_map, List.map_map]
    refine List.map_congr_left fun e _ => ?_
    show (if (Sum.inl (e.1 : Int) : Key) = Sum.inl (d : Int) then _ else _) = ((Sum.inl ((repl d r e).1 : Int) : Key), V.int (repl d r e).2)
    unfold repl
    by_cases k : e.1 = d
    · rw [if_pos (inl_iff.mpr k), if_pos k]
    · rw [if_neg (fun z => k (inl_iff.mp z)), if_neg k]
  · rw [if_neg h, if_neg h]
    unfold kvL
    rw [List.map_append]
    rfl
def Nk (L : List Pq) : Prop := L.Pairwise fun a b => a.1 ≠ b.1
theorem getP_none {d : Nat} : ∀ {L : List Pq}, getP L d = none ↔ ∀ e ∈ L, e.1 ≠ d
  | [] => ⟨fun _ e he => (by cases he), fun _ => rfl⟩
  | x :: l => by
    unfold getP
    by_cases h : x.1 = d
    · rw [if_pos h]
      exact ⟨fun z => (by cases z), fun z => absurd h (z x List.mem_cons_self)⟩
    · rw [if_neg h, getP_none]
      exact ⟨fun z e he => (List.mem_cons.mp he).elim (fun k => (by rw [k]; exact h)) (z e), fun z e he => z e (List.mem_cons_of_mem _ he)⟩
theorem getP_mem {d : Nat} {r : Int} : ∀ {L : List Pq}, getP L d = some r → (d, r) ∈ L
  | [], h => by cases h
  | x :: l, h => by
    unfold getP at h
    by_cases k : x.1 = d
    · rw [if_pos k] at h
      cases h
      rw [← k]
      exact List.mem_cons_self
    · rw [if_neg k] at h
      exact List.mem_cons_of_mem _ (getP_mem h)
theorem getP_of {L : List Pq} (hn : Nk L) {e : Pq} (he : e ∈ L) : getP L e.1 = some e.2 := by
  induction L with
  | nil => cases he
  | cons x l ih =>
    unfold getP
    rcases List.mem_cons.mp he with h | h
    · rw [h, if_pos rfl]
    · rw [if_neg ((List.pairwise_cons.mp hn).1 e h), ih (List.pairwise_cons.mp hn).2 h]
theorem repl_fst (d : Nat) (r : Int) (e : Pq) : (repl d r e).1 = e.1 := by unfold repl; split <;> rfl
theorem put_nk {L : List Pq} {d : Nat} {r : Int} (h : Nk L) : Nk (putP L d r) := by
  unfold putP
  by_cases k : (getP L d).isSome = true
  · rw [if_pos k]
    unfold Nk
    rw [List.pairwise_map]
    exact List.Pairwise.imp (fun {a b} z => by rw [repl_fst, repl_fst]; exact z) h
  · rw [if_neg k]
    refine List.pairwise_append.mpr ⟨h, List.pairwise_singleton _ _, fun a ha b hb => ?_⟩
    rw [List.mem_singleton.mp hb]
    exact getP_none.mp (by cases e : getP L d with | none => rfl | some z => rw [e] at k; exact absurd rfl k) a ha
theorem put_mem {L : List Pq} {d : Nat} {r : Int} {e : Pq} (h : e ∈ putP L d r) : e ∈ L ∨ e = (d, r) := by
  unfold putP at h
  by_cases k : (getP L d).isSome = true
  · rw [if_pos k] at h
    obtain ⟨x, hx, rfl⟩ := List.mem_map.mp h
    unfold repl
    by_cases z : x.1 = d
    · rw [if_pos z, z]; exact .inr rfl
    · rw [if_neg z]; exact .inl hx
  · rw [if_neg k] at h
    rcases List.mem_append.mp h with z | z
    · exact .inl z
    · exact .inr (List.mem_singleton.mp z)
theorem put_len (L : List Pq) (d : Nat) (r : Int) : (putP L d r).length ≤ L.length + 1 := by
  unfold putP
  split
  · rw [List.length_map]; omega
  · rw [List.length_append]; exact Nat.le_refl _
theorem pairG_add (d : Nat) (a b : Int) (n : Nat) : pairG (d, a + b) n = pairG (d, a) n + pairG (d, b) n := by
  unfold pairG
  show (a + b) * _ * _ = a * _ * _ + b * _ * _
  rw [Int.add_mul, Int.add_mul]
theorem row_repl {d : Nat} {r : Int} (n : Nat) : ∀ {L : List Pq} {old : Int}, Nk L → getP L d = some old → rowG (L.map (repl d (old + r))) n = rowG L n + pairG (d, r) n
  | [], _, _, h => by cases h
  | x :: l, old, hn, h => by
    unfold getP at h
    by_cases k : x.1 = d
    · rw [if_pos k] at h
      cases h
      have hl : l.map (repl d (x.2 + r)) = l := by
        have : ∀ e ∈ l, repl d (x.2 + r) e = e := fun e he => by
          unfold repl
          rw [if_neg (fun z => (List.pairwise_cons.mp hn).1 e he (k.trans z.symm))]
        rw [List.map_congr_left this, List.map_id']
      show rowG (l.map _) n + pairG (repl d (x.2 + r) x) n = rowG l n + pairG x n + _
      rw [hl]
      have e1 : repl d (x.2 + r) x = (d, x.2 + r) := by unfold repl; rw [if_pos k, k]
      have e2 : x = (d, x.2) := by rw [← k]
      rw [e1, pairG_add, ← e2]
      omega
    · rw [if_neg k] at h
      show rowG (l.map _) n + pairG (repl d (old + r) x) n = rowG l n + pairG x n + _
      rw [row_repl n (List.pairwise_cons.mp hn).2 h]
      have e1 : repl d (old + r) x = x := by unfold repl; rw [if_neg k]
      rw [e1]
      omega
/-- one pair more -/
def addP (L : List Pq) (e : Pq) : List Pq := putP L e.1 ((getP L e.1).getD 0 + e.2)
theorem row_addP {L : List Pq} (hn : Nk L) (e : Pq) (n : Nat) : rowG (addP L e) n = rowG L n + pairG e n := by
  unfold addP putP
  cases h : getP L e.1 with
  | none =>
    rw [if_neg (by decide), rowG_snoc]
    show _ + pairG (e.1, 0 + e.2) n = _
    rw [Int.zero_add]
  | some old =>
    rw [if_pos (show (some old).isSome = true from rfl)]
    exact row_repl n hn h
def addAll (L es : List Pq) : List Pq := es.foldl addP L
theorem addP_nk {L : List Pq} {e : Pq} (h : Nk L) : Nk (addP L e) := put_nk h
theorem addAll_nk : ∀ {es L : List Pq}, Nk L → Nk (addAll L es)
  | [], _, h => h
  | e :: es, L, h => addAll_nk (es := es) (addP_nk (e := e) h)
theorem row_addAll (n : Nat) : ∀ {es L : List Pq}, Nk L → rowG (addAll L es) n = rowG L n + rowG es n
  | [], L, _ => (Int.add_zero _).symm
  | e :: es, L, h => by
    show rowG (addAll (addP L e) es) n = _
    rw [row_addAll n (es := es) (addP_nk h), row_addP h]
    show _ = rowG L n + (rowG es n + pairG e n)
    omega
theorem addAll_snoc (L es : List Pq) (e : Pq) : addAll L (es ++ [e]) = addP (addAll L es) e := by
  unfold addAll
  rw [List.foldl_append]
  rfl
theorem addAll_len : ∀ (es L : List Pq), (addAll L es).length ≤ L.length + es.length
  | [], L => Nat.le_refl _
  | e :: es, L => by
    have h := addAll_len es (addP L e)
    have h2 : (addP L e).length ≤ L.length + 1 := put_len _ _ _
    show (addAll (addP L e) es).length ≤ _
    rw [List.length_cons]
    omega
theorem addAll_key {es L : List Pq} {e : Pq} (h : e ∈ addAll L es) : ∃ x, (x ∈ L ∨ x ∈ es) ∧ x.1 = e.1 := by
  induction es generalizing L with
  | nil => exact ⟨e, .inl h, rfl⟩
  | cons y es ih =>
    obtain ⟨x, hx, hk⟩ := ih (L := addP L y) h
    rcases hx with hx | hx
    · rcases put_mem hx with z | z
      · exact ⟨x, .inl z, hk⟩
      · exact ⟨y, .inr List.mem_cons_self, by rw [← hk, z]⟩
    · exact ⟨x, .inr (List.mem_cons_of_mem _ hx), hk⟩
/-- adding to nothing what has no key twice -/
theorem addAll_nil : ∀ (es L : List Pq), Nk (L ++ es) → addAll L es = L ++ es
  | [], L, _ => (List.append_nil L).symm
  | e :: es, L, h => by
    have hno : getP L e.1 = none := getP_none.mpr fun x hx => (List.pairwise_append.mp h).2.2 x hx e List.mem_cons_self
    have e1 : addP L e = L ++ [e] := by
      unfold addP putP
      rw [hno, if_neg (by decide)]
      show L ++ [(e.1, 0 + e.2)] = _
      rw [Int.zero_add]
    show addAll (addP L e) es = _
    rw [e1, addAll_nil es (L ++ [e]) (by rw [List.append_assoc]; exact h), List.append_assoc]
    rfl
theorem row_filter (n : Nat) : ∀ L : List Pq, rowG (L.filter fun e => decide (e.2 ≠ 0)) n = rowG L n
  | [] => rfl
  | e :: l => by
    have ih := row_filter n l
    by_cases h : e.2 = 0
    · rw [List.filter_cons_of_neg (by simp [h]), ih]
      show _ = rowG l n + pairG e n
      unfold pairG
      rw [h]
      simp
    · rw [List.filter_cons_of_pos (by simp [h])]
      show rowG (l.filter _) n + _ = rowG l n + _
      rw [ih]
theorem row_perm (n : Nat) {L M : List Pq} (h : L.Perm M) : rowG L n = rowG M n := by
  induction h with
  | nil => rfl
  | cons x _ ih => show rowG _ n + _ = rowG _ n + _; rw [ih]
  | swap x y l => show rowG l n + pairG x n + pairG y n = rowG l n + pairG y n + pairG x n; omega
  | trans _ _ a b => exact a.trans b
theorem row_neg (n : Nat) : ∀ L : List Pq, rowG (L.map fun e => (e.1, -e.2)) n = -rowG L n
  | [] => rfl
  | e :: l => by
    show rowG (l.map _) n + pairG (e.1, -e.2) n = -(rowG l n + pairG e n)
    rw [row_neg n l]
    have : pairG (e.1, -e.2) n = -pairG e n := by
      unfold pairG
      show -e.2 * _ * _ = -(e.2 * _ * _)
      rw [Int.neg_mul, Int.neg_mul]
    rw [this]
    omega
theorem sorted_unique {α : Type} (k : α → Int) : ∀ l1 l2 : List α, l1.Perm l2 → l1.Pairwise (fun x y => k x ≤ k y) → l2.Pairwise (fun x y => k x < k y) → l1 = l2
  | l1, [], h, _, _ => h.eq_nil
  | [], b :: l2, h, _, _ => absurd h.length_eq (by simp)
  | a :: l1, b :: l2, h, h1, h2 => by
    have hab : a = b := by
      rcases List.mem_cons.mp (h.mem_iff.mp List.mem_cons_self) with e | m
      · exact e
      · have k1 := (List.pairwise_cons.mp h2).1 a m
        rcases List.mem_cons.mp (h.mem_iff.mpr (List.mem_cons_self : b ∈ b :: l2)) with e | m'
        · exact e.symm
        · have k2 := (List.pairwise_cons.mp h1).1 b m'
          omega
    subst hab
    rw [sorted_unique k l1 l2 h.cons_inv (List.pairwise_cons.mp h1).2 (List.pairwise_cons.mp h2).2]
/-- the pairs of a dict by ascending keys -/
def pickP (L : List Pq) (ks : List Nat) : List Pq := ks.map fun d => (d, (getP L d).getD 0)
theorem pick_keys {L : List Pq} (h : Nk L) : pickP L (L.map (·.1)) = L := by
  unfold pickP
  rw [List.map_map]
  have : ∀ e ∈ L, ((fun d => (d, (getP L d).getD 0)) ∘ fun e : Pq => e.1) e = e := fun e he => by
    show (e.1, (getP L e.1).getD 0) = e
    rw [getP_of h he]
    rfl
  rw [List.map_congr_left this, List.map_id']
theorem pick_perm {L : List Pq} (h : Nk L) {ks : List Nat} (p : ks.Perm (L.map (·.1))) : (pickP L ks).Perm L := by
  have := p.map fun d => (d, (getP L d).getD 0)
  rw [show (L.map (·.1)).map (fun d => (d, (getP L d).getD 0)) = L from pick_keys h] at this
  exact this
/-- keys ascending, none twice -/
theorem keys_lt {L : List Pq} (h : Nk L) {ks : List Nat} (p : ks.Perm (L.map (·.1))) (s : ks.Pairwise (· ≤ ·)) : ks.Pairwise (· < ·) := by
  have nd : (L.map (·.1)).Nodup := by
    unfold List.Nodup
    rw [List.pairwise_map]
    exact h
  have nd2 : ks.Nodup := p.symm.nodup nd
  exact List.Pairwise.imp₂ (fun a b h1 h2 => Nat.lt_of_le_of_ne h1 h2) s nd2
end Ft

namespace Ft
open PySem L2
theorem any_false : ∀ n : Nat, (List.replicate n false).any id = false
  | 0 => rfl
  | n + 1 => by rw [List.replicate_succ, List.any_cons, any_false n]; rfl
theorem Fr.inj {H : Hp} {v : V} {x y : Int × Int} (h : Fr H v x) (k : Fr H v y) : x = y := by
  obtain ⟨t, rfl, a⟩ := h
  obtain ⟨t2, q, b⟩ := k
  cases q
  rw [a] at b
  have b := HO.tup.inj (Option.some.inj b)
  simp only [List.cons.injEq, V.int.injEq, and_true] at b
  exact Prod.ext b.1 b.2
noncomputable def prOf (H : Hp) (v : V) : Int × Int := open Classical in if h : ∃ e, Fr H v e then h.choose else (0, 0)
theorem prOf_eq {H : Hp} {v : V} {e : Int × Int} (h : Fr H v e) : prOf H v = e := by
  unfold prOf
  rw [dif_pos ⟨e, h⟩]
  exact Fr.inj (Exists.choose_spec (⟨e, h⟩ : ∃ e, Fr H v e)) h
noncomputable def pqOf (H : Hp) (v : V) : Pq := ((prOf H v).1.toNat, (prOf H v).2)
theorem pqOf_eq {H : Hp} {v : V} {e : Pq} (h : PrA H v e) : pqOf H v = e := by
  unfold pqOf
  rw [prOf_eq h]
  show ((e.1 : Int).toNat, e.2) = e
  rw [Int.toNat_natCast]
theorem PrsAt.map {H : Hp} : ∀ {us : List V} {l : List Pq}, PrsAt H us l → us.map (pqOf H) = l ∧ ∀ u ∈ us, ∃ e ∈ l, PrA H u e
  | [], [], _ => ⟨rfl, fun u hu => by cases hu⟩
  | [], _ :: _, h => by have := h.len; simp at this
  | _ :: _, [], h => by have := h.len; simp at this
  | u :: us, e :: l, h => by
    have h0 := h.at_ 0 u e rfl rfl
    have ih := PrsAt.map (us := us) (l := l) ⟨by have := h.len; simpa using this, fun i v f a b => h.at_ (i + 1) v f a b⟩
    refine ⟨by rw [List.map_cons, pqOf_eq h0, ih.1], fun v hv => ?_⟩
    rcases List.mem_cons.mp hv with rfl | hv
    · exact ⟨e, List.mem_cons_self, h0⟩
    · obtain ⟨f, hf, hf2⟩ := ih.2 v hv
      exact ⟨f, List.mem_cons_of_mem _ hf, hf2⟩
theorem PrsAt.of_map {H : Hp} : ∀ {us : List V}, (∀ u ∈ us, ∃ e, PrA H u e) → PrsAt H us (us.map (pqOf H))
  | us, h => by
    refine ⟨(List.length_map ..).symm, fun i u e a b => ?_⟩
    rw [List.getElem?_map, a] at b
    cases b
    obtain ⟨e, he⟩ := h u (List.mem_of_getElem? a)
    rw [pqOf_eq he]
    exact he
/-- what sorted leaves of pairs with keys that are none twice -/
theorem sorted_pairs {H : Hp} {us ys : List V} {L : List Pq} (h : PrsAt H us L) (nk : Nk L) (hp : ys.Perm us) (hs : ys.Pairwise fun x y => ltP (prOf H) y x = false) :
    ∃ qs, PrsAt H ys qs ∧ qs.Perm L ∧ qs.Pairwise fun a b => a.1 < b.1 := by
  obtain ⟨m1, m2⟩ := h.map
  have hy : ∀ u ∈ ys, ∃ e, PrA H u e := fun u hu => by
    obtain ⟨e, _, he⟩ := m2 u (hp.mem_iff.mp hu)
    exact ⟨e, he⟩
  have pe : (ys.map (pqOf H)).Perm L := by
    have := hp.map (pqOf H)
    rwa [m1] at this
  have nk2 : Nk (ys.map (pqOf H)) := by
    have nd : ((ys.map (pqOf H)).map (·.1)).Nodup := (pe.map (·.1)).symm.nodup (by unfold List.Nodup; rw [List.pairwise_map]; exact nk)
    unfold List.Nodup at nd
    rw [List.pairwise_map] at nd
    exact nd
  refine ⟨_, PrsAt.of_map hy, pe, ?_⟩
  have le : (ys.map (pqOf H)).Pairwise fun a b => a.1 ≤ b.1 := by
    rw [List.pairwise_map]
    refine List.Pairwise.imp_of_mem (fun {x y} hx hy2 k => ?_) hs
    obtain ⟨e, he⟩ := hy x hx
    obtain ⟨f, hf⟩ := hy y hy2
    rw [pqOf_eq he, pqOf_eq hf]
    have k2 : SrtO.lexB (prOf H y) (prOf H x) = false := k
    rw [prOf_eq he, prOf_eq hf] at k2
    rcases Nat.lt_or_ge f.1 e.1 with z | z
    · have z1 : ¬ ((f.1 : Int) = (e.1 : Int)) := by omega
      have z2 : (f.1 : Int) < (e.1 : Int) := by omega
      have k3 : (if (f.1 : Int) = (e.1 : Int) then decide (f.2 < e.2) else decide ((f.1 : Int) < (e.1 : Int))) = false := k2
      rw [if_neg z1, decide_eq_true z2] at k3
      cases k3
    · exact z
  exact List.Pairwise.imp₂ (fun a b h1 h2 => Nat.lt_of_le_of_ne h1 h2) le nk2
def sp_checked : Sp := fun vs H Q _ => ∃ (p : Addr) (us : List V) (L : List Pq), vs = [.ref p] ∧ H p = some (.lst us) ∧ PrsAt H us L ∧ Nk L ∧ (∀ e ∈ L, e.1 ≤ 400 ∧ e.2.natAbs ≤ 48) ∧ L.length ≤ 8 ∧
  ∀ H' r qs, Same H H' → Pd H' r qs → qs.Perm L → (qs.Pairwise fun a b => a.1 < b.1) → Q r H'
def sp_joined : Sp := fun vs H Q _ => ∃ u v p1 p2, vs = [u, v] ∧ Pd H u p1 ∧ Pd H v p2 ∧ PdOk p1 ∧ PdOk p2 ∧ (∀ e ∈ (addAll p1 p2).filter fun e => decide (e.2 ≠ 0), e.2.natAbs ≤ 48) ∧ ((addAll p1 p2).filter fun e => decide (e.2 ≠ 0)).length ≤ 8 ∧
  ∀ H' r qs, Same H H' → Pd H' r qs → qs.Perm ((addAll p1 p2).filter fun e => decide (e.2 ≠ 0)) → (qs.Pairwise fun a b => a.1 < b.1) → Q r H'
def sp_undone : Sp := fun vs H Q _ => ∃ v ps, vs = [v] ∧ Pd H v ps ∧ PdOk ps ∧ ∀ H' r, Same H H' → Pd H' r (ps.map fun e => (e.1, -e.2)) → Q r H'
section
variable {P : Program} {w : World} {K : PySem.W.Frag} {mg : Str → Option Value} {base : Heap}
end
end Ft

namespace Ft
open PySem L2
theorem catA_all {K : PySem.W.Frag} {H : Hp} {a b : Addr} {xs ys : List V} {M : VK} (ha : Rd H a (.tup xs)) (hb : Rd H b (.tup ys)) (hl : xs.length + ys.length ≤ sizeLine) (m : ∀ H1 q, Same H H1 → Rd H1 q (.tup (xs ++ ys)) → M (.ref q) H1) : rCatA K (.ref a) (.ref b) H M :=
  ⟨a, b, xs, ys, rfl, rfl, .inl ha, .inl hb, hl, fun e => m H b (Same.refl H) (by rw [e]; exact hb), fun _ e => m H a (Same.refl H) (by rw [e, List.append_nil]; exact ha), fun _ _ p hp => m _ p (Same.upd_new hp) (.inl upd_same)⟩
theorem PrsAt.app {H : Hp} {us vs : List V} {l m : List Pq} (h : PrsAt H us l) (k : PrsAt H vs m) : PrsAt H (us ++ vs) (l ++ m) := by
  refine ⟨by rw [List.length_append, List.length_append, h.len, k.len], fun i v f a b => ?_⟩
  rcases Nat.lt_or_ge i us.length with hi | hi
  · rw [List.getElem?_append_left hi] at a
    rw [List.getElem?_append_left (by rw [← h.len]; exact hi)] at b
    exact h.at_ i v f a b
  · rw [List.getElem?_append_right hi] at a
    rw [List.getElem?_append_right (by rw [← h.len]; exact hi), ← h.len] at b
    exact k.at_ _ v f a b
theorem nk_asc {L : List Pq} (h : L.Pairwise fun a b => a.1 < b.1) : Nk L := h.imp fun z => Nat.ne_of_lt z
theorem getV (L : List Pq) (d : Nat) : (valV (kvL L) (.inl (d : Int))).getD (.int 0) = .int ((getP L d).getD 0) := by
  rw [valV_kvL]
  cases getP L d <;> rfl
theorem walk_itK {d : Addr} {o : Obj} {kvs : List (Key × V)} : Walk (Iti d o kvs) kvs.length (fun H => H d = some (.frz o (.dK kvs))) (fun i H x H' => ∃ T k v, kvs[i]? = some (k, v) ∧ x = V.ref T ∧ H T = none ∧ H' = upd H T (.tup [kV k, v])) :=
  ⟨fun _ _ lt q => ⟨q, lt⟩, fun _ q => ⟨q, Nat.le_refl _⟩, fun _ _ _ _ _ _ y => y⟩
theorem PrsAt.filter_take {L : List Pq} {i : Nat} {e : Pq} (he : L[i]? = some e) (p : Pq → Bool) : (L.take (i + 1)).filter p = (L.take i).filter p ++ if p e = true then [e] else [] := by
  rw [List.take_add_one, he, List.filter_append]
  congr 1
  show [e].filter p = _
  cases h : p e
  · rw [List.filter_cons_of_neg (by rw [h]; decide)]; rfl
  · rw [List.filter_cons_of_pos h]; rfl
section
variable {P : Program} {w : World} {K : PySem.W.Frag} {mg : Str → Option Value} {base : Heap}
end
end Ft

namespace Ft
open PySem L2
theorem vals_get {xs : List V} {us : List Value} (h : Vals xs us) {i : Nat} {x : V} (hx : xs[i]? = some x) : ∃ u, us[i]? = some u ∧ RelV x u := Vals.get h hx
/-- a pair's tuple in the heap -/
theorem pr_tuple {X : Cx} {pins : List (Addr × Obj)} {σ : St} {H : Hp} {s : Shared} (I : L2.Inv X pins σ H s) {t : Addr} {a b : Int} (h : H t = some (.tup [.int a, .int b])) : ∃ ka vb, s.heap.IsTuple t #[ka, vb] ∧ RelV (.int a) ka ∧ RelV (.int b) vb := by
  obtain ⟨its, rv, it⟩ := rd_tup I (.inl h)
  cases rv with
  | cons r1 r2 =>
    cases r2 with
    | cons r2 r3 =>
      cases r3
      exact ⟨_, _, it, r1, r2⟩
theorem pr_items {X : Cx} {pins : List (Addr × Obj)} {σ : St} {H : Hp} {s : Shared} (I : L2.Inv X pins σ H s) : ∀ {ws : List V} {L : List Pq}, PrsAt H ws L →
    ∃ (ts : List Addr) (ps : List (Value × Value)) (kvs : List (Key × Value)), ws = ts.map V.ref ∧ ts.length = L.length ∧ ps.length = L.length ∧ KV (kvL L) kvs ∧
      ∀ (i : Nat) (k v : Value), ps[i]? = some (k, v) → ∃ t kk, ts[i]? = some t ∧ s.heap.IsTuple t #[k, v] ∧ kvs[i]? = some (kk, v) ∧ (mixKind X.prog X.w).is kk k = true
  | [], [], _ => ⟨[], [], [], rfl, rfl, rfl, .nil, fun i k v h => by cases h⟩
  | [], _ :: _, h => by have := h.len; simp at this
  | _ :: _, [], h => by have := h.len; simp at this
  | u :: ws, e :: L, h => by
    obtain ⟨t, rfl, ht⟩ := h.at_ 0 u e rfl rfl
    obtain ⟨k, v, it, r1, r2⟩ := pr_tuple I ht
    obtain ⟨ts, ps, kvs, e1, e2, e3, kv, rest⟩ := pr_items I (ws := ws) (L := L) ⟨by have := h.len; simpa using this, fun i v f a b => h.at_ (i + 1) v f a b⟩
    obtain ⟨tk, rfl⟩ : ∃ t, k = Value.int (e.1 : Int) t := r1
    refine ⟨t :: ts, (Value.int (e.1 : Int) tk, v) :: ps, (Sum.inl (e.1 : Int), v) :: kvs, by rw [e1]; rfl, by simp [e2], by simp [e3], .cons ⟨rfl, r2⟩ kv, fun i k' v' hi => ?_⟩
    cases i with
    | zero => cases hi; exact ⟨t, _, rfl, it, rfl, mixKind_int _ _ _ _⟩
    | succ i => exact rest i k' v' hi
def rDictT : List V → Hp → VK → Prop := fun xs H Q => ∃ (a : Addr) (ob : Obj) (us : List V) (L : List Pq), xs = [.ref a] ∧ H a = some (.frz ob (.tup us)) ∧ Plain ob ∧ PrsAt H us L ∧ L.length ≤ 100 ∧ ∀ p, H p = none → Q (.ref p) (upd H p (.dK (mergeK [] (kvL L))))
theorem vals_refs : ∀ {ts : List Addr} {its : List Value}, Vals (ts.map V.ref) its → its = ts.map Value.ref
  | [], _, .nil => rfl
  | _ :: _, _, .cons r1 r2 => by rw [vals_refs r2]; cases r1; rfl
theorem merge_len : ∀ (more acc : List (Key × V)), (mergeK acc more).length ≤ acc.length + more.length
  | [], acc => Nat.le_refl _
  | e :: more, acc => by
    have h := merge_len more (putK acc e.1 e.2)
    have h2 : (putK acc e.1 e.2).length ≤ acc.length + 1 := by
      unfold putK
      split
      · rw [List.length_map]; omega
      · rw [List.length_append]; exact Nat.le_refl _
    show (mergeK (putK acc e.1 e.2) more).length ≤ _
    rw [List.length_cons]
    omega
theorem call_dictT {X : Cx} (hcalm : X.calm = true) : CallR X (.type "dict") rDictT := by
  intro pins s σ H xs us Q I r h
  obtain ⟨a, ob, ws, L, rfl, ha, pl, hL, l100, q⟩ := h
  obtain ⟨u, rfl, rx⟩ := vals1 r
  obtain rfl : u = Value.ref a := rx
  have qa := I.hok _ _ ha
  simp only [ObjOk] at qa
  obtain ⟨hob, _, its, rv, o2, ho2, _, n2, hd2⟩ := qa
  rw [hob] at ho2
  cases ho2
  obtain ⟨ts, ps, kvs, e1, e2, e3, kv, rest⟩ := pr_items I hL
  rw [e1] at rv
  have hits := vals_refs rv
  have lits : its.toArray.size = ps.length := by rw [List.size_toArray, hits, List.length_map, e2, e3]
  have hbig := I.big
  refine PySem.call_dict_pairs (knd := mixKind X.prog X.w) (kvs := kvs) (PairArg.tuple a its.toArray (fun j => (ts[j]?).getD 0) ps) (I.ok.hd hcalm) ⟨⟨ob, n2, hob, pl.1, pl.2, hd2⟩, lits, fun j k v hj => ?_⟩ ⟨?_, fun i key v hi => ?_⟩ (by rw [e3]; exact Nat.le_trans l100 (by decide)) fun h' tk hd hk => ?_
  · obtain ⟨t, kk, h1, h2, _⟩ := rest j k v hj
    show _ = some (Value.ref ((ts[j]?).getD 0)) ∧ PairAt s.heap ((ts[j]?).getD 0) k v
    rw [h1]
    refine ⟨?_, .inl h2⟩
    rw [hits, List.getElem?_toArray, List.getElem?_map, h1]
    rfl
  · rw [← kv.length, e3]
    unfold kvL
    rw [List.length_map]
  · obtain ⟨t, kk, _, _, h3, h4⟩ := rest i key v hi
    exact ⟨kk, h3, h4⟩
  · have hkv := KV.merge kv (.nil : KV ([] : List (Key × V)) [])
    have h1 := merge_len (kvL L) []
    have h2 : (kvL L).length = L.length := List.length_map ..
    have h3 : ([] : List (Key × V)).length = 0 := rfl
    refine ⟨.ref s.heap.objs.size, _, I.laid (t' := tk) (a := s.heap.objs.size) (o := .dK (mergeK [] (kvL L))) (fun b o e => hk b o (by simp) e) (Nat.le_refl _) ?_, rfl, q _ I.fresh⟩
    simp only [ObjOk]
    refine ⟨Nat.le_trans (by omega : _ ≤ 100) (by decide), ?_, _, hkv, hd⟩
    have hne : s.heap.objs.size ≠ sysModules := Nat.ne_of_gt hbig
    simp only [beq_eq_false_iff_ne, ne_eq]
    exact hne
theorem mergeK_nk : ∀ (L acc : List Pq), Nk (acc ++ L) → mergeK (kvL acc) (kvL L) = kvL (acc ++ L)
  | [], acc, _ => by rw [List.append_nil]; rfl
  | e :: L, acc, h => by
    have hno : getP acc e.1 = none := getP_none.mpr fun x hx => (List.pairwise_append.mp h).2.2 x hx e List.mem_cons_self
    have e1 : putK (kvL acc) (.inl (e.1 : Int)) (V.int e.2) = kvL (acc ++ [e]) := by
      rw [putK_kvL]
      unfold putP
      rw [hno, if_neg (by decide)]
    show mergeK (putK (kvL acc) (.inl (e.1 : Int)) (V.int e.2)) (kvL L) = _
    rw [e1, mergeK_nk L (acc ++ [e]) (by rw [List.append_assoc]; exact h), List.append_assoc]
    rfl
end Ft

namespace Ft
open PySem L2
/-- two keywords, in the other order -/
def swapV : List V → List V → List V := fun us zs => match us, zs with
  | [], [a, b] => [b, a]
  | _, _ => []
def swapU : List Value → List Value → List Value := fun us zs => match us, zs with
  | [], [a, b] => [b, a]
  | _, _ => []
theorem swap_rel : ∀ {vs : List V} {us : List Value} {zs : List V} {ws : List Value}, Vals vs us → Vals zs ws → Vals (swapV vs zs) (swapU us ws)
  | _, _, _, _, .nil, .nil => .nil
  | _, _, _, _, .nil, .cons _ .nil => .nil
  | _, _, _, _, .nil, .cons a (.cons b .nil) => .cons b (.cons a .nil)
  | _, _, _, _, .nil, .cons _ (.cons _ (.cons _ _)) => .nil
  | _, _, _, _, .cons _ _, _ => .nil
end Ft

set_option exponentiation.threshold 9000
namespace Ft
open PySem L2
theorem low_one (ts : List Int) : lowB 1 ts = 1 ∧ lowT 1 ts = ts := by
  have h : gcdL (1 : Int).natAbs ts = 1 := gcdL_one ts
  unfold lowB lowT
  rw [h]
  refine ⟨rfl, ?_⟩
  have : ∀ t ∈ ts, t / ((1 : Nat) : Int) = t := fun t _ => by
    show t / 1 = t
    exact Int.ediv_one t
  rw [List.map_congr_left this, List.map_id']
theorem spr_row (M d : Nat) : sprL ((List.range M).map sgm) d = (List.range M).map fun n => if n % d = 0 then sgm (n / d) else 0 := by
  unfold sprL
  rw [List.length_map, List.length_range]
  refine List.map_congr_left fun n hn => ?_
  have hn := List.mem_range.mp hn
  by_cases h : n % d = 0
  · rw [if_pos h, if_pos h, getD_map sgm M _ (Nat.lt_of_le_of_lt (Nat.div_le_self _ _) hn)]
  · rw [if_neg h, if_neg h]
theorem tim_row (M : Nat) (f : Nat → Int) (x : Int) : timL ((List.range M).map f) x = (List.range M).map fun n => f n * x := by
  unfold timL
  rw [List.map_map]
  rfl
theorem sgm_abs (m : Nat) : (sgm m).natAbs ≤ m * m := by
  refine Nat.le_trans (Sg_abs _ _) ?_
  have h1 : sumN (fun j => (if m % (j + 1) = 0 then ((j + 1 : Nat) : Int) else 0).natAbs) m ≤ sumN (fun _ => m) m := sumN_le fun j hj => by
    split
    · show j + 1 ≤ m
      omega
    · exact Nat.zero_le _
  have h2 : ∀ n, sumN (fun _ => m) n = m * n := fun n => by
    induction n with
    | zero => rfl
    | succ n ih => show sumN _ n + m = _; rw [ih, Nat.mul_add, Nat.mul_one]
  rw [h2] at h1
  exact h1
theorem mulL_row (M : Nat) (f g : Nat → Int) : mulL ((List.range M).map f) ((List.range M).map g) = (List.range M).map fun n => conv f g n := by
  unfold mulL
  rw [List.length_map, List.length_map, List.length_range, Nat.min_self]
  refine List.map_congr_left fun n hn => ?_
  have hn := List.mem_range.mp hn
  unfold csum conv
  rw [sum_Sg]
  refine Sg_congr fun i hi => ?_
  rw [getD_map f M _ (by omega), getD_map g M _ (by omega)]
theorem rep_two {b1 b2 : Int} {t1 t2 : List Int} (h1 : BgS b1 t1) (h2 : BgS b2 t2) : RepOk (.tuple [bgD b1 t1, bgD b2 t2]) := by
  refine ⟨?_, ?_, ?_, ?_⟩
  · simp only [PyData.showable, PyData.showableAll, bgD_showable h1, bgD_showable h2, Bool.and_self]
  · simp only [PyData.hasDict, PyData.hasDictAll, bgD_dict, Bool.or_self]
  · show max (bgD b1 t1).depth (max (bgD b2 t2).depth 0) + 1 ≤ 64
    simp only [bgD_depth]
    decide
  · have l := PyData.shown_le_bulk 100 (by decide) (.tuple [bgD b1 t1, bgD b2 t2]) (by simp only [PyData.leavesShort, PyData.leavesShortAll, bgD_short h1, bgD_short h2, Bool.and_self])
    have e : (PyData.tuple [bgD b1 t1, bgD b2 t2]).bulk = t1.length + t2.length + 6 := by
      simp only [PyData.bulk, PyData.bulkAll, bgD_bulk]
      omega
    rw [e] at l
    have k1 := h1.len
    have k2 := h2.len
    have z : sizeLine = 16777216 := by decide
    omega
structure PsOk (ps : List Pq) : Prop where
  ok : PdOk ps
  small : ∀ e ∈ ps, e.2.natAbs ≤ 30
theorem keys_map (L : List Pq) : (kvL L).map (fun kv => kV kv.1) = ((L.map (·.1)).map fun k : Nat => (k : Int)).map V.int := by
  unfold kvL
  rw [List.map_map, List.map_map, List.map_map]
  rfl
theorem nats_of {ns : List Int} {ks : List Nat} (p : ns.Perm (ks.map fun k : Nat => (k : Int))) : ∃ js : List Nat, ns = (js.map fun k : Nat => (k : Int)) ∧ js.Perm ks := by
  refine ⟨ns.map Int.toNat, ?_, ?_⟩
  · rw [List.map_map]
    have : ∀ x ∈ ns, ((fun k : Nat => (k : Int)) ∘ Int.toNat) x = x := fun x hx => by
      obtain ⟨k, _, rfl⟩ := List.mem_map.mp (p.mem_iff.mp hx)
      show ((k : Int).toNat : Int) = (k : Int)
      rw [Int.toNat_natCast]
    rw [List.map_congr_left this, List.map_id']
  · have h := p.map Int.toNat
    rw [List.map_map] at h
    have : ∀ x ∈ ks, (Int.toNat ∘ fun k : Nat => (k : Int)) x = x := fun x _ => Int.toNat_natCast x
    rwa [List.map_congr_left this, List.map_id'] at h
theorem pick_ok {L : List Pq} (nk : Nk L) (l8 : L.length ≤ 8) (rng : ∀ e ∈ L, 1 ≤ e.1 ∧ e.1 ≤ 400 ∧ e.2.natAbs ≤ 30 ∧ e.2 ≠ 0) {ks : List Nat} (p : ks.Perm (L.map (·.1))) (s : ks.Pairwise (· ≤ ·)) : PsOk (pickP L ks) := by
  have pp := pick_perm nk p
  refine ⟨⟨by rw [pp.length_eq]; exact l8, fun e he => ?_, ?_⟩, fun e he => (rng e (pp.mem_iff.mp he)).2.2.1⟩
  · have := rng e (pp.mem_iff.mp he)
    exact ⟨this.1, this.2.1, by omega, this.2.2.2⟩
  · unfold pickP
    rw [List.pairwise_map]
    exact keys_lt nk p s
def PdX (H : Hp) (v : V) (ps : List Pq) : Prop := ∃ p ob us, v = .ref p ∧ H p = some (.frz ob (.tup us)) ∧ Plain ob ∧ PrsAt H us ps
theorem PdX.pd {H : Hp} {v : V} {ps : List Pq} (h : PdX H v ps) : Pd H v ps := by
  obtain ⟨p, ob, us, e, a, _, b⟩ := h
  exact ⟨p, us, e, .inr ⟨ob, a⟩, b⟩
theorem But.pr {H H' : Hp} {d l : Addr} (D : DeckAt H d l) (bt : But d l H H') {v : V} {e : Pq} (h : PrA H v e) : PrA H' v e := by
  obtain ⟨t, e1, e2⟩ := h
  obtain ⟨mx, dr, cs, d1, d2, _⟩ := D
  exact ⟨t, e1, bt _ _ e2 (ne_of e2 d1 (by intro z; cases z)) (ne_of e2 d2 (by intro z; cases z))⟩
theorem PdX.but {H H' : Hp} {d l : Addr} (D : DeckAt H d l) (bt : But d l H H') {v : V} {ps : List Pq} (h : PdX H v ps) : PdX H' v ps := by
  obtain ⟨p, ob, us, e, a, pl, b⟩ := h
  refine ⟨p, ob, us, e, ?_, pl, b.len, fun i u e z1 z2 => But.pr D bt (b.at_ i u e z1 z2)⟩
  obtain ⟨mx, dr, cs, d1, d2, _⟩ := D
  exact bt _ _ a (ne_of a d1 (by intro z; cases z)) (ne_of a d2 (by intro z; cases z))
theorem PdX.same {H H' : Hp} (s : Same H H') {v : V} {ps : List Pq} (h : PdX H v ps) : PdX H' v ps := by
  obtain ⟨p, ob, us, e, a, pl, b⟩ := h
  exact ⟨p, ob, us, e, s _ _ a, pl, b.same s⟩
theorem cut_take (xs : List V) (k : Nat) : cutV xs none (some (k : Int)) = xs.take k := by
  unfold cutV
  rw [HT.sIx_none, HT.sIx_nat, List.drop_zero, Nat.sub_zero]
  rcases Nat.le_total k xs.length with h | h
  · rw [Nat.min_eq_left h]
  · rw [Nat.min_eq_right h, List.take_of_length_le (Nat.le_refl _), List.take_of_length_le h]
theorem slA_gen {K : PySem.W.Frag} {H : Hp} {a : Addr} {xs : List V} {lo hi : Option Int} {M : VK} (h : H a = some (.tup xs)) (m : ∀ H1 q, Same H H1 → H1 q = some (.tup (cutV xs lo hi)) → M (.ref q) H1) : rSlA K (.ref a) lo hi H M :=
  ⟨a, xs, rfl, SqT.of h, fun hw => m H a (Same.refl H) (by
    rw [h]
    congr 2
    unfold cutV
    rw [hw.1, hw.2, List.drop_zero, Nat.sub_zero, List.take_of_length_le (Nat.le_refl _)]), fun _ p hp => m _ p (Same.upd_new hp) upd_same⟩
def pqD (e : Pq) : PyData := .tuple [.int (e.1 : Int), .int e.2]
def pdD (ps : List Pq) : PyData := .tuple (ps.map pqD)
theorem dp_prs {K : PySem.W.Frag} {H : Hp} : ∀ {us : List V} {l : List Pq}, PrsAt H us l → DpAll K H us (l.map pqD)
  | [], [], _ => .nil
  | [], _ :: _, h => by have := h.len; simp at this
  | _ :: _, [], h => by have := h.len; simp at this
  | u :: us, e :: l, h => by
    obtain ⟨t, rfl, ht⟩ := h.at_ 0 u e rfl rfl
    exact .cons (.tup (SqT.of ht) (.cons (.int _) (.cons (.int _) .nil))) (dp_prs (us := us) (l := l) ⟨by have := h.len; simpa using this, fun i v f a b => h.at_ (i + 1) v f a b⟩)
theorem dp_pd {K : PySem.W.Frag} {H : Hp} {p : Addr} {us : List V} {ps : List Pq} (a : Rd H p (.tup us)) (b : PrsAt H us ps) : Dp K H (.ref p) (pdD ps) := .tup (.inl a) (dp_prs b)
theorem pq_short {e : Pq} (h1 : e.1 ≤ 400) (h2 : e.2.natAbs ≤ 400) : (pqD e).leavesShort 100 = true := by
  have a := int_short (v := (e.1 : Int)) (by rw [Int.natAbs_natCast]; exact Nat.lt_of_le_of_lt h1 (by decide))
  have b := int_short (v := e.2) (Nat.lt_of_le_of_lt h2 (by decide))
  simp only [PyData.leavesShort] at a b
  simp only [pqD, PyData.leavesShort, PyData.leavesShortAll, a, b, Bool.and_self]
theorem pq_showable {e : Pq} (h1 : e.1 ≤ 400) (h2 : e.2.natAbs ≤ 400) : (pqD e).showable = true := by
  have a := int_showable (v := (e.1 : Int)) (by rw [Int.natAbs_natCast]; exact Nat.lt_of_le_of_lt h1 (by decide))
  have b := int_showable (v := e.2) (Nat.lt_of_le_of_lt h2 (by decide))
  simp only [PyData.showable] at a b
  simp only [pqD, PyData.showable, PyData.showableAll, a, b, Bool.and_self]
theorem pqs_short : ∀ {l : List Pq}, (∀ e ∈ l, e.1 ≤ 400 ∧ e.2.natAbs ≤ 400) → PyData.leavesShortAll 100 (l.map pqD) = true
  | [], _ => by simp only [List.map_nil, PyData.leavesShortAll]
  | e :: l, h => by
    have k := h e List.mem_cons_self
    simp only [List.map_cons, PyData.leavesShortAll, pq_short k.1 k.2, pqs_short fun x hx => h x (List.mem_cons_of_mem _ hx), Bool.and_self]
theorem pqs_showable : ∀ {l : List Pq}, (∀ e ∈ l, e.1 ≤ 400 ∧ e.2.natAbs ≤ 400) → PyData.showableAll (l.map pqD) = true
  | [], _ => by simp only [List.map_nil, PyData.showableAll]
  | e :: l, h => by
    have k := h e List.mem_cons_self
    simp only [List.map_cons, PyData.showableAll, pq_showable k.1 k.2, pqs_showable fun x hx => h x (List.mem_cons_of_mem _ hx), Bool.and_self]
theorem pqs_dict : ∀ l : List Pq, PyData.hasDictAll (l.map pqD) = false
  | [] => by simp only [List.map_nil, PyData.hasDictAll]
  | e :: l => by simp only [List.map_cons, PyData.hasDictAll, pqD, PyData.hasDict, pqs_dict l, Bool.or_self]
theorem pqs_depth : ∀ l : List Pq, PyData.depthAll (l.map pqD) ≤ 1
  | [] => by simp only [List.map_nil, PyData.depthAll]; decide
  | e :: l => by
    have h := pqs_depth l
    simp only [List.map_cons, PyData.depthAll, pqD, PyData.depth]
    omega
theorem pqs_bulk : ∀ l : List Pq, PyData.bulkAll (l.map pqD) ≤ 10 * l.length
  | [] => by simp only [List.map_nil, PyData.bulkAll]; decide
  | e :: l => by
    have h := pqs_bulk l
    simp only [List.map_cons, PyData.bulkAll, pqD, PyData.bulk, List.length_cons]
    omega
theorem rep_pd {l : List Pq} (h : ∀ e ∈ l, e.1 ≤ 400 ∧ e.2.natAbs ≤ 400) (n : l.length ≤ 100) : RepOk (pdD l) := by
  refine ⟨?_, ?_, ?_, ?_⟩
  · simp only [pdD, PyData.showable, pqs_showable h]
  · simp only [pdD, PyData.hasDict, pqs_dict]
  · have := pqs_depth l
    simp only [pdD, PyData.depth]
    omega
  · have k := PyData.shown_le_bulk 100 (by decide) (pdD l) (by simp only [pdD, PyData.leavesShort, pqs_short h])
    have b := pqs_bulk l
    have e : (pdD l).bulk ≤ 10 * l.length + 10 := by
      simp only [pdD, PyData.bulk]
      omega
    have z : sizeLine = 16777216 := by decide
    have := Nat.mul_le_mul_left 102 e
    omega
end Ft

set_option exponentiation.threshold 9000
namespace Ft
open PySem L2
def sumD (ps : List Pq) : Int := (ps.map fun e => (e.1 : Int) * e.2).sum
def sumR (ps : List Pq) : Int := (ps.map fun e => e.2).sum
def spP (ps : List Pq) (t : Nat) : List Pq := ps.map fun e => (t * e.1, e.2)
theorem spP_ok {ps : List Pq} {t : Nat} (ok : PdOk ps) (t1 : 1 ≤ t) (h : ∀ e ∈ ps, t * e.1 ≤ 400) : PdOk (spP ps t) := by
  refine ⟨by unfold spP; rw [List.length_map]; exact ok.len, fun e he => ?_, ?_⟩
  · obtain ⟨x, hx, rfl⟩ := List.mem_map.mp he
    have := ok.rng x hx
    exact ⟨Nat.mul_pos t1 this.1, h x hx, this.2.2⟩
  · unfold spP
    rw [List.pairwise_map]
    exact ok.asc.imp fun h => Nat.mul_lt_mul_of_pos_left h (by omega)
def sp_start : Sp := fun vs H Q _ => ∃ v ps, vs = [v] ∧ Pd H v ps ∧ PdOk ps ∧ ∀ H' u, Same H H' → Fr H' u (low (sumD ps) 24) → Q u H'
def sp_weight : Sp := fun vs H Q _ => ∃ v ps, vs = [v] ∧ Pd H v ps ∧ PdOk ps ∧ ∀ H' u, Same H H' → Fr H' u (low (sumR ps) 2) → Q u H'
def sp_spreadP : Sp := fun vs H Q _ => ∃ v ps t, vs = [v, .int ((t : Nat) : Int)] ∧ Pd H v ps ∧ PdOk ps ∧ 1 ≤ t ∧ (∀ e ∈ ps, t * e.1 ≤ 400) ∧ ∀ H' r, Same H H' → Pd H' r (spP ps t) → Q r H'
section
variable {P : Program} {w : World} {K : PySem.W.Frag} {mg : Str → Option Value} {base : Heap}
end
end Ft

set_option exponentiation.threshold 9000
namespace Ft
open PySem L2
def sp_same (K : PySem.W.Frag) : Sp := fun vs H Q _ => ∃ (a b : Addr) (d : PyData), vs = [.ref a, .ref b] ∧ Dp K H (.ref a) d ∧ Dp K H (.ref b) d ∧ RepOk d ∧ Q (.bl true) H
def sp_gcdZ : Sp := fun vs H Q _ => ∃ a b : Int, vs = [.int a, .int b] ∧ Q (.int ((Nat.gcd a.natAbs b.natAbs : Nat) : Int)) H
def sp_lsum : Sp := fun vs H Q _ => ∃ u v x y, vs = [u, v] ∧ Fr H u x ∧ Fr H v y ∧ Small 4000 x ∧ Small 4000 y ∧ ∀ H' r, Same H H' → Fr H' r (nsum x y) → Q r H'
def smallL (ts : List Int) : Bool := ts.all fun t => decide (t.natAbs < 10 ^ 30)
def sp_small : Sp := fun vs H Q _ => ∃ v b ts, vs = [v] ∧ Bg H v b ts ∧ 1 ≤ ts.length ∧ ts.length ≤ 400 ∧ ∀ H', Same H H' → Q (.bl (smallL ts)) H'
section
variable {P : Program} {w : World} {K : PySem.W.Frag} {mg : Str → Option Value} {base : Heap}
theorem fn_same {f : Addr} {fd : FuncData} (F : Fun K "_law_same" "_law_same" s__law_same f fd) (B : Bi mg) : FnG P w K mg base 1 f fd ["_law_told", "_law_due"] (sp_same K) := by
  have sc := sc__law_same
  refine fun_g F sc (fun _ _ _ _ ⟨_, _, _, e, _⟩ => by rw [e]; rfl) (fun cdv A outer s H vs Q E hgd hr h => ?_)
  obtain ⟨a, b, d, rfl, ha, hb, R, q⟩ := h
  refine ⟨_, (pss_one (ps_ret (pe_cmpR op_eq (pe_callB (call_repr hgd hr) (by rfl) B.repr (by decide +kernel) (pa_cons (pv 0) pa_nil)) (pe_callB (call_repr hgd hr) (by rfl) B.repr (by decide +kernel) (pa_cons (pv 1) pa_nil)) (nomark _)))), ?_⟩
  refine ⟨_, rfl, a, d, rfl, ha, R.show_, R.dict, R.depth, R.len, ?_⟩
  refine ⟨_, rfl, b, d, rfl, hb, R.show_, R.dict, R.depth, R.len, ?_⟩
  refine ⟨rfl, ?_⟩
  have e : decide (V.str d.shown = V.str d.shown) = true := decide_eq_true rfl
  rw [e]
  exact q
theorem ok_gcdZ (D : Df K mg "_law_divisor" s__law_divisor ["_law_one", "_law_other"]) (B : Bi mg) : Cal P w K mg base 1 "_law_divisor" sp_gcdZ := by
  obtain ⟨f, fd, F, m, b⟩ := D.ex
  have sc := sc__law_divisor
  refine ⟨f, fd, _, F.ok sc (fun _ _ _ _ ⟨_, _, e, _⟩ => by rw [e]; rfl) (fun cdv A outer s H vs Q E hr h => ?_), m, F.kp, b⟩
  obtain ⟨a, b, rfl, q⟩ := h
  refine ⟨_, (pss_cons (ps_par (i := 0) (j := 1) (by rfl) sc.nd rfl rfl (by decide) rfl rfl (pa_cons (pe_callB call_abs (by rfl) B.abs (by decide +kernel) (pa_cons (pv 0) pa_nil)) (pa_cons (pe_callB call_abs (by rfl) B.abs (by decide +kernel) (pa_cons (pv 1) pa_nil)) pa_nil)) (by rfl))
      (pss_cons (ps_while PassesOwn.never (pt_cmpR op_gt (pv 1) pe_int (nomark _))
      (pss_one (ps_par (i := 0) (j := 1) (by rfl) sc.nd rfl rfl (by decide) rfl rfl (pa_cons (pv 1) (pa_cons (pe_op op_mod (pe_callTy call_int1 (by rfl) B.int_ (by decide +kernel) (pa_cons (pv 0) pa_nil)) (pv 1)) pa_nil)) (by rfl))))
      (pss_one (ps_ret (pv 0))))), ?_⟩
  have ea : ∀ n : Int, (if n < 0 then -n else n) = ((n.natAbs : Nat) : Int) := fun n => by split <;> omega
  refine ⟨_, rfl, _, rfl, _, rfl, _, rfl, ?_⟩
  rw [ea, ea]
  refine ⟨_, _, rfl, ?_⟩
  refine while_go (fun σ H' => H = H' ∧ ∃ (c e : Nat), σ = [some (.int (c : Nat)), some (.int (e : Nat))] ∧ Nat.gcd c e = Nat.gcd a.natAbs b.natAbs) (fun σ _ => m0 1 σ) ⟨rfl, _, _, rfl, rfl⟩ ?_
  rintro σ _ ⟨rfl, c, e, rfl, hce⟩
  refine ⟨_, rfl, _, _, rfl, rfl, _, rfl, ifD (fun hne => ?_) fun he => ?_⟩
  · have e0 : 0 < e := by omega
    refine ⟨fun σ' H' => H = H' ∧ ∃ (c' e' : Nat), σ' = [some (.int (c' : Nat)), some (.int (e' : Nat))] ∧ Nat.gcd c' e' = Nat.gcd a.natAbs b.natAbs ∧ e' < e, ?_, ?_⟩
    · rintro σ' _ ⟨rfl, c', e', rfl, h1, h2⟩
      exact ⟨_, (by show ((e' : Int)).toNat < ((e : Int)).toNat; omega), rfl, rfl, c', e', rfl, h1⟩
    refine ⟨_, rfl, _, rfl, .inl ⟨_, rfl, _, rfl, _, _, rfl, rfl, (by show (0 : Int) < (e : Int); omega), _, _, rfl, ?_⟩⟩
    refine ⟨rfl, e, c % e, rfl, ?_, Nat.mod_lt _ e0⟩
    rw [← hce, Nat.gcd_comm e, ← Nat.gcd_rec, Nat.gcd_comm]
  · have e0 : e = 0 := by omega
    subst e0
    rw [Nat.gcd_zero_right] at hce
    subst hce
    exact ⟨_, rfl, q⟩
end
end Ft

set_option exponentiation.threshold 9000
namespace Ft
open PySem L2
/-! data that repr shows: with few leaves, none long -/
theorem int_short7 {v : Int} (h : v.natAbs < 2 ^ 1900) : (PyData.int v).leavesShort 700 = true := by
  have key : (PyData.shown (.int v)).length ≤ 700 := by
    have p : (2 : Int) ^ 1900 < 10 ^ 650 := by decide
    have p2 : (2 : Int) ^ 1900 = ((2 ^ 1900 : Nat) : Int) := by rw [Int.natCast_pow]; rfl
    rcases Int.lt_or_le v 0 with h0 | h0
    · obtain ⟨m, rfl⟩ : ∃ m : Nat, v = Int.negSucc m := ⟨v.natAbs - 1, by omega⟩
      have l := PyProof.Rows.toString_length_le (v := ((m + 1 : Nat) : Int)) (by omega) (k := 650) (by decide) (Int.lt_trans (by rw [p2]; exact Int.ofNat_lt.mpr h) p)
      have e : toString (Int.negSucc m) = "-" ++ toString (m + 1) := rfl
      show (Str.ofString (toString (Int.negSucc m))).length ≤ 700
      rw [e, PyProof.Rows.ofString_length, String.toList_append, List.length_append]
      rw [PyProof.Rows.ofString_length] at l
      have l' : (toString (m + 1)).toList.length ≤ 650 := l
      have : "-".toList.length = 1 := by decide
      omega
    · have l := PyProof.Rows.toString_length_le h0 (k := 650) (by decide) (Int.lt_trans (by rw [p2]; omega) p)
      exact Nat.le_trans l (by decide)
  simpa only [PyData.leavesShort, decide_eq_true_eq] using key
theorem int_showable7 {v : Int} (h : v.natAbs < 2 ^ 1900) : (PyData.int v).showable = true := by
  have := PySem.Flt.log2_lt_of (by decide) h
  simp only [PyData.showable, decide_eq_true_eq]
  omega
structure Sm (k m : Nat) (d : PyData) : Prop where
  show_ : d.showable = true
  dict : d.hasDict = false
  depth : d.depth ≤ k
  short : d.leavesShort 700 = true
  bulk : d.bulk ≤ m
structure SmL (k m : Nat) (ds : List PyData) : Prop where
  show_ : PyData.showableAll ds = true
  dict : PyData.hasDictAll ds = false
  depth : PyData.depthAll ds ≤ k
  short : PyData.leavesShortAll 700 ds = true
  bulk : PyData.bulkAll ds ≤ m
theorem Sm.mono {k m k' m' : Nat} {d : PyData} (h : Sm k m d) (h1 : k ≤ k') (h2 : m ≤ m') : Sm k' m' d := ⟨h.show_, h.dict, Nat.le_trans h.depth h1, h.short, Nat.le_trans h.bulk h2⟩
theorem SmL.nil {k : Nat} : SmL k 0 [] := ⟨by simp only [PyData.showableAll], by simp only [PyData.hasDictAll], by simp only [PyData.depthAll]; omega, by simp only [PyData.leavesShortAll], by simp only [PyData.bulkAll]; omega⟩
theorem SmL.cons {k m n : Nat} {d : PyData} {ds : List PyData} (h : Sm k m d) (t : SmL k n ds) : SmL k (m + n + 2) (d :: ds) := by
  refine ⟨?_, ?_, ?_, ?_, ?_⟩
  · simp only [PyData.showableAll, h.show_, t.show_, Bool.and_self]
  · simp only [PyData.hasDictAll, h.dict, t.dict, Bool.or_self]
  · simp only [PyData.depthAll]
    have := h.depth
    have := t.depth
    omega
  · simp only [PyData.leavesShortAll, h.short, t.short, Bool.and_self]
  · simp only [PyData.bulkAll]
    have := h.bulk
    have := t.bulk
    omega
theorem Sm.tup {k m : Nat} {ds : List PyData} (t : SmL k m ds) : Sm (k + 1) (m + 2) (.tuple ds) := by
  refine ⟨?_, ?_, ?_, ?_, ?_⟩
  · simp only [PyData.showable, t.show_]
  · simp only [PyData.hasDict, t.dict]
  · simp only [PyData.depth]
    have := t.depth
    omega
  · simp only [PyData.leavesShort, t.short]
  · simp only [PyData.bulk]
    have := t.bulk
    omega
theorem Sm.list {k m : Nat} {ds : List PyData} (t : SmL k m ds) : Sm (k + 1) (m + 2) (.list ds) := by
  refine ⟨?_, ?_, ?_, ?_, ?_⟩
  · simp only [PyData.showable, t.show_]
  · simp only [PyData.hasDict, t.dict]
  · simp only [PyData.depth]
    have := t.depth
    omega
  · simp only [PyData.leavesShort, t.short]
  · simp only [PyData.bulk]
    have := t.bulk
    omega
theorem sm_int {v : Int} {k m : Nat} (h : v.natAbs < 2 ^ 1900) : Sm k (m + 1) (.int v) := ⟨int_showable7 h, by simp only [PyData.hasDict], by simp only [PyData.depth]; omega, int_short7 h, by simp only [PyData.bulk]; omega⟩
theorem sm_ints {k : Nat} : ∀ {ts : List Int}, (∀ x ∈ ts, x.natAbs < 2 ^ 1900) → SmL k (3 * ts.length) (ts.map PyData.int)
  | [], _ => .nil
  | t :: ts, h => by
    have := SmL.cons (sm_int (k := k) (m := 0) (h t List.mem_cons_self)) (sm_ints (k := k) (ts := ts) fun x hx => h x (List.mem_cons_of_mem _ hx))
    exact ⟨this.show_, this.dict, this.depth, this.short, Nat.le_trans this.bulk (by rw [List.length_cons]; omega)⟩
theorem Sm.rep {k m : Nat} {d : PyData} (h : Sm k m d) (hk : k ≤ 64) (hm : m ≤ 10000) : RepOk d := by
  refine ⟨h.show_, h.dict, Nat.le_trans h.depth hk, ?_⟩
  have l := PyData.shown_le_bulk 700 (by decide) d h.short
  have := h.bulk
  have e : sizeLine = 16777216 := by decide
  have b := Nat.mul_le_mul_left 702 (Nat.le_trans h.bulk hm)
  omega
def frD (x : Fq) : PyData := .tuple [.int x.1, .int x.2]
theorem dp_fr {K : PySem.W.Frag} {H : Hp} {v : V} {x : Fq} (h : Fr H v x) : Dp K H v (frD x) := by
  obtain ⟨t, rfl, ht⟩ := h
  exact .tup (SqT.of ht) (.cons (.int _) (.cons (.int _) .nil))
theorem sm_fr {x : Fq} {k : Nat} (h1 : x.1.natAbs < 2 ^ 1900) (h2 : x.2.natAbs < 2 ^ 1900) : Sm (k + 1) 9 (frD x) := (Sm.tup (SmL.cons (sm_int (m := 0) h1) (SmL.cons (sm_int (m := 0) h2) .nil))).mono (Nat.le_refl _) (by omega)
theorem sm_bg {b : Int} {ts : List Int} (hb : b.natAbs < 2 ^ 1900) (ht : ∀ x ∈ ts, x.natAbs < 2 ^ 1900) (hl : ts.length ≤ 400) : Sm 2 1300 (bgD b ts) := (Sm.tup (SmL.cons (sm_int (m := 0) hb) (SmL.cons (Sm.tup (sm_ints (k := 0) ht)) .nil))).mono (Nat.le_refl _) (by omega)
theorem sm_pq {e : Pq} (h : e.1 ≤ 400 ∧ e.2.natAbs ≤ 400) : Sm 1 9 (pqD e) := sm_fr (x := ((e.1 : Int), e.2)) (by show ((e.1 : Nat) : Int).natAbs < _; rw [Int.natAbs_natCast]; exact Nat.lt_of_le_of_lt h.1 (by decide)) (Nat.lt_of_le_of_lt h.2 (by decide))
theorem sm_pqs : ∀ {l : List Pq}, (∀ e ∈ l, e.1 ≤ 400 ∧ e.2.natAbs ≤ 400) → SmL 1 (11 * l.length) (l.map pqD)
  | [], _ => .nil
  | e :: l, h => by
    have := SmL.cons (sm_pq (h e List.mem_cons_self)) (sm_pqs (l := l) fun x hx => h x (List.mem_cons_of_mem _ hx))
    exact ⟨this.show_, this.dict, this.depth, this.short, Nat.le_trans this.bulk (by rw [List.length_cons]; omega)⟩
theorem sm_pd {l : List Pq} (h : ∀ e ∈ l, e.1 ≤ 400 ∧ e.2.natAbs ≤ 400) (n : l.length ≤ 16) : Sm 2 200 (pdD l) := (Sm.tup (sm_pqs h)).mono (Nat.le_refl _) (by omega)
end Ft

namespace Ft
/-! the numbers of k26 -/
def divL (n : Nat) : List Nat := ((List.range n).filter fun i => decide (n % (i + 1) = 0)).map fun i => i + 1
def manyOf (N c : Nat) : Nat := ((List.range (Nat.gcd c (N / c))).filter fun i => decide (Nat.gcd (i + 1) (Nat.gcd c (N / c)) = 1)).length
abbrev Tri := Nat × Nat × Nat
def edgeOf (N c : Nat) : Tri := (c, manyOf N c, N / Nat.gcd (c * c) N)
def edges (N : Nat) : List Tri := (divL N).map (edgeOf N)
def sumE (l : List Tri) : Nat := l.foldl (fun s e => s + e.2.1 * e.2.2) 0
/-- the program's way to the divisors -/
def lowL (n r : Nat) : List Nat := ((List.range r).filter fun i => decide (n % (i + 1) = 0)).map fun i => i + 1
def divP (n r : Nat) : List Nat := lowL n r ++ (((lowL n r).reverse.filter fun d => decide (d * d ≠ n)).map fun d => n / d)
/-- Bool checks -/
def eqL : List Nat → List Nat → Bool
  | [], [] => true
  | a :: l, b :: m => Nat.beq a b && eqL l m
  | _, _ => false
def divF (n : Nat) : Nat → List Nat → List Nat
  | 0, acc => acc
  | i + 1, acc => divF n i (bif Nat.beq (n % (i + 1)) 0 then (i + 1) :: acc else acc)
end Ft

namespace Ft
open PySem L2
/-- a tuple of three integers -/
def TriAt (H : Hp) (v : V) (e : Tri) : Prop := ∃ t, v = .ref t ∧ H t = some (.tup [.int (e.1 : Int), .int (e.2.1 : Int), .int (e.2.2 : Int)])
theorem TriAt.same {H H' : Hp} {v : V} {e : Tri} (h : TriAt H v e) (s : Same H H') : TriAt H' v e := by
  obtain ⟨t, a, b⟩ := h
  exact ⟨t, a, s _ _ b⟩
structure TrisAt (H : Hp) (us : List V) (l : List Tri) : Prop where
  len : us.length = l.length
  at_ : ∀ (i : Nat) (u : V) (e : Tri), us[i]? = some u → l[i]? = some e → TriAt H u e
theorem TrisAt.same {H H' : Hp} {us : List V} {l : List Tri} (h : TrisAt H us l) (s : Same H H') : TrisAt H' us l := ⟨h.len, fun i u e a b => (h.at_ i u e a b).same s⟩
theorem TrisAt.snoc {H : Hp} {us : List V} {l : List Tri} {u : V} {e : Tri} (h : TrisAt H us l) (k : TriAt H u e) : TrisAt H (us ++ [u]) (l ++ [e]) := by
  refine ⟨by rw [List.length_append, List.length_append, h.len]; rfl, fun i v f a b => ?_⟩
  rcases Nat.lt_or_ge i us.length with hi | hi
  · rw [List.getElem?_append_left hi] at a
    rw [List.getElem?_append_left (by rw [← h.len]; exact hi)] at b
    exact h.at_ i v f a b
  · rw [List.getElem?_append_right hi] at a
    rw [List.getElem?_append_right (by rw [← h.len]; exact hi), ← h.len] at b
    cases hk : i - us.length with
    | zero => rw [hk] at a b; cases a; cases b; exact k
    | succ n => rw [hk] at a; cases a
theorem TriAt.upd {H : Hp} {p : Addr} {xs : List V} {o : HO} {v : V} {e : Tri} (hp : H p = some (.lst xs)) (h : TriAt H v e) : TriAt (upd H p o) v e := by
  obtain ⟨t, a, b⟩ := h
  exact ⟨t, a, by rw [upd_ne (ne_of b hp (by intro z; cases z))]; exact b⟩
theorem TrisAt.upd {H : Hp} {p : Addr} {xs : List V} {o : HO} {us : List V} {l : List Tri} (hp : H p = some (.lst xs)) (h : TrisAt H us l) : TrisAt (upd H p o) us l := ⟨h.len, fun i u e a b => (h.at_ i u e a b).upd hp⟩
theorem TrisAt.get {H : Hp} {us : List V} {l : List Tri} (h : TrisAt H us l) {i : Nat} {u : V} (hu : us[i]? = some u) : ∃ e, l[i]? = some e ∧ TriAt H u e := by
  have hi : i < l.length := by rw [← h.len]; exact (List.getElem?_eq_some_iff.mp hu).1
  exact ⟨l[i], List.getElem?_eq_getElem hi, h.at_ i u _ hu (List.getElem?_eq_getElem hi)⟩
def sp_level : Sp := fun vs H Q _ => ∃ n : Nat, vs = [.int (n : Int)] ∧ 1 ≤ n ∧ n ≤ 400 ∧ Q .non H
def sp_divisors : Sp := fun vs H Q _ => ∃ n : Nat, vs = [.int (n : Int)] ∧ 1 ≤ n ∧ n ≤ 400 ∧ ∀ H' p, Same H H' → H' p = some (.tup ((divP n (Float64.isqrt n)).map fun d : Nat => V.int (d : Int))) → Q (.ref p) H'
def sp_many : Sp := fun vs H Q _ => ∃ n c : Nat, vs = [.int (n : Int), .int (c : Int)] ∧ 1 ≤ n ∧ n ≤ 400 ∧ 1 ≤ c ∧ c ≤ 400 ∧ ∀ H', Same H H' → Q (.int (manyOf n c : Int)) H'
/-- a comprehension with a test takes one in, or not -/
theorem lc_pos {H H2 : Hp} {D : Addr} {f : Nat → Bool} {g : Nat → V} {i : Nat} (hD : H D = none) (s2 : Same H H2) (h2 : H2 D = some (.lst (((List.range i).filter f).map g))) (hf : f i = true) (hi : i ≤ 1000) :
    ∃ acc, H2 D = some (.lst acc) ∧ acc.length < sizeLine ∧ Same H (upd H2 D (.lst (acc ++ [g i]))) ∧ upd H2 D (.lst (acc ++ [g i])) D = some (.lst (((List.range (i + 1)).filter f).map g)) := by
  refine ⟨_, h2, ?_, fun b o e => ?_, ?_⟩
  · rw [List.length_map]
    exact Nat.lt_of_le_of_lt (Nat.le_trans (filter_len _ _) hi) (by decide)
  · rw [upd_ne (ne_of_none e hD)]
    exact s2 _ _ e
  · rw [upd_same, filter_succ, if_pos hf, List.map_append]
    rfl
theorem lc_neg {H H2 : Hp} {D : Addr} {f : Nat → Bool} {g : Nat → V} {i : Nat} (s2 : Same H H2) (h2 : H2 D = some (.lst (((List.range i).filter f).map g))) (hf : f i = false) :
    Same H H2 ∧ H2 D = some (.lst (((List.range (i + 1)).filter f).map g)) := by
  refine ⟨s2, ?_⟩
  rw [h2, filter_succ, if_neg (by rw [hf]; decide), List.append_nil]
section
variable {P : Program} {w : World} {K : PySem.W.Frag} {mg : Str → Option Value} {base : Heap}
theorem ok_check_level (D : Df K mg "check_level" s_check_level ["level"]) (c_is_between : Cal P w K mg base 2 "is_between" sp_is_between) : Cal P w K mg base 3 "check_level" sp_level := by
  obtain ⟨f, fd, F, m, b⟩ := D.ex
  have sc := sc_check_level
  refine ⟨f, fd, _, F.ok sc (fun _ _ _ _ ⟨_, e, _⟩ => by rw [e]; rfl) (fun cdv A outer s H vs Q E hr h => ?_), m, F.kp, b⟩
  obtain ⟨n, rfl, h1, h2, q⟩ := h
  refine ⟨_, (pss_one (ps_if (pt_not (pt_val (pe_c c_is_between hr (by decide) (by rfl) (pa_cons (pv 0) (pa_cons pe_int (pa_cons pe_int pa_nil))))))
      (pss_one ps_never)
      pss_nil)), ?_⟩
  refine ⟨_, rfl, (n : Int), 1, 400, rfl, trivial, _, rfl, ?_⟩
  rw [decide_eq_true (show (1 : Int) ≤ (n : Int) by omega), decide_eq_true (show (n : Int) ≤ 400 by omega)]
  exact iteF q
end
end Ft

namespace Ft
open PySem L2
/-- the divisors of a level are at most 24, and the program's way to them -/
structure DivOk : Prop where
  eq : ∀ n : Nat, 1 ≤ n → n ≤ 400 → divP n (Float64.isqrt n) = divL n
  len : ∀ n : Nat, 1 ≤ n → n ≤ 400 → (divL n).length ≤ 24
theorem divL_mem {n d : Nat} (h : d ∈ divL n) : 1 ≤ d ∧ d ≤ n ∧ n % d = 0 := by
  unfold divL at h
  obtain ⟨j, hj, rfl⟩ := List.mem_map.mp h
  have h1 := List.mem_range.mp (List.mem_filter.mp hj).1
  have h2 := of_decide_eq_true (List.mem_filter.mp hj).2
  exact ⟨by omega, by omega, h2⟩
theorem edge_bound {n : Nat} {e : Tri} (h : e ∈ edges n) : 1 ≤ e.1 ∧ e.1 ≤ n ∧ e.2.1 ≤ n ∧ e.2.2 ≤ n := by
  obtain ⟨c, hc, rfl⟩ := List.mem_map.mp h
  have hm := divL_mem hc
  refine ⟨hm.1, hm.2.1, ?_, Nat.div_le_self _ _⟩
  have g1 : Nat.gcd c (n / c) ≤ c := Nat.le_of_dvd (by omega) (Nat.gcd_dvd_left _ _)
  exact Nat.le_trans (filter_len _ _) (by omega)
theorem sumE_go (l : List Tri) : ∀ s : Nat, (l.foldl (fun s e => s + e.2.1 * e.2.2) s : Nat) = s + (l.map fun e => e.2.1 * e.2.2).sum := by
  induction l with
  | nil => intro s; rfl
  | cons e l ih => intro s; rw [List.foldl_cons, ih, List.map_cons, List.sum_cons]; omega
theorem sumE_ints (l : List Tri) : (l.map fun e => ((e.2.1 * e.2.2 : Nat) : Int)).sum = ((sumE l : Nat) : Int) := by
  have h := sumE_go l 0
  unfold sumE
  rw [h, Nat.zero_add]
  clear h
  induction l with
  | nil => rfl
  | cons e l ih => rw [List.map_cons, List.map_cons, List.sum_cons, List.sum_cons, ih]; rfl
def sp_edges : Sp := fun vs H Q _ => ∃ n : Nat, vs = [.int (n : Int)] ∧ 1 ≤ n ∧ n ≤ 400 ∧ ∀ H' p us, Same H H' → H' p = some (.tup us) → TrisAt H' us (edges n) → Q (.ref p) H'
def sp_index : Sp := fun vs H Q _ => ∃ n : Nat, vs = [.int (n : Int)] ∧ 1 ≤ n ∧ n ≤ 400 ∧ ∀ H', Same H H' → Q (.int (sumE (edges n) : Int)) H'
section
variable {P : Program} {w : World} {K : PySem.W.Frag} {mg : Str → Option Value} {base : Heap}
end
end Ft

set_option exponentiation.threshold 9000
namespace Ft
open PySem L2
/-! orders -/
def rLcm : List V → Hp → VK → Prop := fun vs H Q => ∃ a b : Nat, vs = [.int (a : Int), .int (b : Int)] ∧ a < 2 ^ 64 ∧ b < 2 ^ 64 ∧ Q (.int ((Nat.lcm a b : Nat) : Int)) H
theorem cr_lcm {X : Cx} : CallR X (.builtin "math.lcm") rLcm := by
  intro pins s σ H vs us Q I r ⟨a, b, e, ha, hb, q⟩
  subst e
  obtain ⟨t, u, rfl⟩ := Vals.int2 r
  exact PySem.W.mc_lcm (a := (a : Int)) (b := (b : Int)) (by rw [Int.natAbs_natCast]; exact ha) (by rw [Int.natAbs_natCast]; exact hb) fun _ => ⟨.int _, H, I.tok _, ⟨_, rfl⟩, q⟩
def oTop (N : Nat) (ps : List Pq) (c : Nat) : Int := (ps.map fun e => ((N / e.1 * (Nat.gcd c e.1) ^ 2 : Nat) : Int) * e.2).sum
def oBot (N c : Nat) : Nat := 24 * Nat.gcd c (N / c) * c
def ordF (N : Nat) (ps : List Pq) (c : Nat) : Fq := low (oTop N ps c) ((oBot N c : Nat) : Int)
def allD (N : Nat) (ps : List Pq) : Bool := ps.all fun e => decide (N % e.1 = 0)
def turnP (N : Nat) (ps : List Pq) : List Pq := (ps.map fun e => (N / e.1, e.2)).reverse
structure FrsAt (H : Hp) (us : List V) (l : List Fq) : Prop where
  len : us.length = l.length
  at_ : ∀ (i : Nat) (u : V) (e : Fq), us[i]? = some u → l[i]? = some e → Fr H u e
theorem FrsAt.same {H H' : Hp} {us : List V} {l : List Fq} (h : FrsAt H us l) (s : Same H H') : FrsAt H' us l := ⟨h.len, fun i u e a b => (h.at_ i u e a b).same s⟩
theorem FrsAt.upd {H : Hp} {p : Addr} {xs : List V} {o : HO} {us : List V} {l : List Fq} (hp : H p = some (.lst xs)) (h : FrsAt H us l) : FrsAt (upd H p o) us l := ⟨h.len, fun i u e a b => by
  obtain ⟨t, x, y⟩ := h.at_ i u e a b
  exact ⟨t, x, by rw [upd_ne (ne_of y hp (by intro z; cases z))]; exact y⟩⟩
theorem FrsAt.snoc {H : Hp} {us : List V} {l : List Fq} {u : V} {e : Fq} (h : FrsAt H us l) (k : Fr H u e) : FrsAt H (us ++ [u]) (l ++ [e]) := by
  refine ⟨by rw [List.length_append, List.length_append, h.len]; rfl, fun i v f a b => ?_⟩
  rcases Nat.lt_or_ge i us.length with hi | hi
  · rw [List.getElem?_append_left hi] at a
    rw [List.getElem?_append_left (by rw [← h.len]; exact hi)] at b
    exact h.at_ i v f a b
  · rw [List.getElem?_append_right hi] at a
    rw [List.getElem?_append_right (by rw [← h.len]; exact hi), ← h.len] at b
    cases hk : i - us.length with
    | zero => rw [hk] at a b; cases a; cases b; exact k
    | succ n => rw [hk] at a; cases a
theorem FrsAt.get {H : Hp} {us : List V} {l : List Fq} (h : FrsAt H us l) {i : Nat} {u : V} (hu : us[i]? = some u) : ∃ e, l[i]? = some e ∧ Fr H u e := by
  have hi : i < l.length := by rw [← h.len]; exact (List.getElem?_eq_some_iff.mp hu).1
  exact ⟨l[i], List.getElem?_eq_getElem hi, h.at_ i u _ hu (List.getElem?_eq_getElem hi)⟩
theorem Fr.upd {H : Hp} {p : Addr} {xs : List V} {o : HO} {v : V} {x : Fq} (hp : H p = some (.lst xs)) (h : Fr H v x) : Fr (upd H p o) v x := by
  obtain ⟨t, a, b⟩ := h
  exact ⟨t, a, by rw [upd_ne (ne_of b hp (by intro z; cases z))]; exact b⟩
theorem allD_mem {N : Nat} {ps : List Pq} (h : allD N ps = true) : ∀ e ∈ ps, N % e.1 = 0 := fun e he => of_decide_eq_true (List.all_eq_true.mp h e he)
theorem allD_take {N : Nat} {ps : List Pq} {i : Nat} {e : Pq} (he : ps[i]? = some e) : (ps.take (i + 1)).map (fun e => decide (N % e.1 = 0)) = (ps.take i).map (fun e => decide (N % e.1 = 0)) ++ [decide (N % e.1 = 0)] := by
  rw [List.take_add_one, he, List.map_append]; rfl
theorem turn_ok {N : Nat} {ps : List Pq} (N1 : 1 ≤ N) (N4 : N ≤ 400) (ok : PdOk ps) (h : ∀ e ∈ ps, N % e.1 = 0) : PdOk (turnP N ps) := by
  refine ⟨by unfold turnP; rw [List.length_reverse, List.length_map]; exact ok.len, fun e he => ?_, ?_⟩
  · obtain ⟨x, hx, rfl⟩ := List.mem_map.mp (List.mem_reverse.mp he)
    have := ok.rng x hx
    have hd := Nat.dvd_of_mod_eq_zero (h x hx)
    exact ⟨Nat.div_pos (Nat.le_of_dvd N1 hd) this.1, Nat.le_trans (Nat.div_le_self _ _) N4, this.2.2⟩
  · unfold turnP
    rw [List.pairwise_reverse, List.pairwise_map]
    refine List.Pairwise.imp_of_mem (fun {a b} ha hb hlt => ?_) ok.asc
    have da := Nat.dvd_of_mod_eq_zero (h a ha)
    have db := Nat.dvd_of_mod_eq_zero (h b hb)
    obtain ⟨x, hx⟩ := da
    obtain ⟨y, hy⟩ := db
    have a1 := (ok.rng a ha).1
    have b1 := (ok.rng b hb).1
    rw [show N / b.1 = y by rw [hy, Nat.mul_div_cancel_left _ b1], show N / a.1 = x by rw [hx, Nat.mul_div_cancel_left _ a1]]
    refine Nat.lt_of_not_le fun hle => ?_
    have h1 : a.1 * x ≤ a.1 * y := Nat.mul_le_mul_left a.1 hle
    have y0 : 0 < y := Nat.pos_of_ne_zero fun z => by rw [z, Nat.mul_zero] at hy; omega
    have h2 : a.1 * y < b.1 * y := Nat.mul_lt_mul_of_pos_right hlt y0
    omega
theorem dec_mod (N c : Nat) : decide ((fun i j : Int => V.int (i % j)) (N : Int) (c : Int) = V.int 0) = decide (N % c = 0) := by
  rw [decide_eq_decide]
  show V.int ((N : Int) % (c : Int)) = V.int 0 ↔ _
  rw [show (N : Int) % (c : Int) = ((N % c : Nat) : Int) from (Int.natCast_emod N c).symm]
  constructor
  · intro h
    injection h with h
    omega
  · intro h
    rw [h]
    rfl
theorem oBot_rng {N c : Nat} (c1 : 1 ≤ c) (c4 : c ≤ 400) : 1 ≤ oBot N c ∧ oBot N c ≤ 24 * 400 * 400 := by
  have gl : Nat.gcd c (N / c) ≤ 400 := Nat.le_trans (Nat.le_of_dvd c1 (Nat.gcd_dvd_left _ _)) c4
  have gp : 0 < Nat.gcd c (N / c) := Nat.gcd_pos_of_pos_left _ c1
  unfold oBot
  exact ⟨Nat.mul_pos (Nat.mul_pos (by decide) gp) c1, Nat.mul_le_mul (Nat.mul_le_mul_left _ gl) c4⟩
def sp_isDiv : Sp := fun vs H Q _ => ∃ c N : Nat, vs = [.int (c : Int), .int (N : Int)] ∧ 1 ≤ c ∧ Q (.bl (decide (N % c = 0))) H
def sp_checkDiv : Sp := fun vs H Q _ => ∃ c N : Nat, vs = [.int (c : Int), .int (N : Int)] ∧ 1 ≤ c ∧ N % c = 0 ∧ Q .non H
def sp_allDiv : Sp := fun vs H Q _ => ∃ v ps N, vs = [v, .int ((N : Nat) : Int)] ∧ Pd H v ps ∧ PdOk ps ∧ ∀ H', Same H H' → Q (.bl (allD N ps)) H'
def sp_turned : Sp := fun vs H Q _ => ∃ v ps N, vs = [v, .int ((N : Nat) : Int)] ∧ Pd H v ps ∧ PdOk ps ∧ 1 ≤ N ∧ N ≤ 400 ∧ allD N ps = true ∧ ∀ H' r, Same H H' → Pd H' r (turnP N ps) → Q r H'
def sp_checkDivided : Sp := fun vs H Q _ => ∃ v ps N, vs = [.int ((N : Nat) : Int), v] ∧ Pd H v ps ∧ PdOk ps ∧ 1 ≤ N ∧ N ≤ 400 ∧ allD N ps = true ∧ ∀ H', Same H H' → Q .non H'
def sp_oFac : Sp := fun vs H Q _ => ∃ c d : Nat, vs = [.int (c : Int), .int (d : Int)] ∧ 1 ≤ d ∧ d ≤ 400 ∧ Q (.int ((Nat.gcd c d ^ 2 : Nat) : Int)) H
def sp_oTop : Sp := fun vs H Q _ => ∃ v ps N c, vs = [.int ((N : Nat) : Int), v, .int ((c : Nat) : Int)] ∧ Pd H v ps ∧ PdOk ps ∧ N ≤ 400 ∧ ∀ H', Same H H' → Q (.int (oTop N ps c)) H'
def sp_oBot : Sp := fun vs H Q _ => ∃ N c : Nat, vs = [.int (N : Int), .int (c : Int)] ∧ 1 ≤ c ∧ c ≤ 400 ∧ N ≤ 400 ∧ Q (.int ((oBot N c : Nat) : Int)) H
def sp_order : Sp := fun vs H Q _ => ∃ v ps N c, vs = [.int ((N : Nat) : Int), v, .int ((c : Nat) : Int)] ∧ Pd H v ps ∧ PdOk ps ∧ 1 ≤ N ∧ N ≤ 400 ∧ 1 ≤ c ∧ N % c = 0 ∧ ∀ H' u, Same H H' → Fr H' u (ordF N ps c) → Q u H'
def sp_orderAt : Sp := fun vs H Q _ => ∃ v ps N c, vs = [.int ((N : Nat) : Int), v, .int ((c : Nat) : Int)] ∧ Pd H v ps ∧ PdOk ps ∧ 1 ≤ N ∧ N ≤ 400 ∧ allD N ps = true ∧ 1 ≤ c ∧ N % c = 0 ∧ ∀ H' u, Same H H' → Fr H' u (ordF N ps c) → Q u H'
def sp_orders : Sp := fun vs H Q _ => ∃ v ps N, vs = [.int ((N : Nat) : Int), v] ∧ Pd H v ps ∧ PdOk ps ∧ 1 ≤ N ∧ N ≤ 400 ∧ allD N ps = true ∧ ∀ H' p us, Same H H' → H' p = some (.tup us) → FrsAt H' us ((divL N).map (ordF N ps)) → Q (.ref p) H'
section
variable {P : Program} {w : World} {K : PySem.W.Frag} {mg : Str → Option Value} {base : Heap}
theorem ok_allDiv (D : Df K mg "does_all_divide" s_does_all_divide ["product", "level"]) (B : Bi mg) : Cal P w K mg base 1 "does_all_divide" sp_allDiv := by
  obtain ⟨f, fd, F, m, b⟩ := D.ex
  have sc := sc_does_all_divide
  refine ⟨f, fd, _, F.ok sc (fun _ _ _ _ ⟨_, _, _, e, _⟩ => by rw [e]; rfl) (fun cdv A outer s H vs Q E hr h => ?_), m, F.kp, b⟩
  obtain ⟨v, ps, N, rfl, ⟨p, us, rfl, hp, hus⟩, ok, q⟩ := h
  refine ⟨_, (pss_one (ps_ret (pe_callB (cr_all rfl) (by rfl) B.all (by decide +kernel) (pa_cons (pe_lc (own := [("d", 2), ("r", 3)]) (g := gTup K 2 (gCons (gName 2) (gCons (gName 3) gNil))) (tt := tYes) (by rfl) sc.nd (pi_tup (pv 0)) (blkOk_by (own := [("d", 2), ("r", 3)]) (N := N_does_all_divide) (sc := defScope s_does_all_divide) (by decide +kernel)) (fun _ _ _ _ _ => (pg_tup rfl (pgs_cons (pg_name (i := 2) sc.nd rfl (Or.inl rfl) (Or.inr rfl)) (pgs_cons (pg_name (i := 3) sc.nd rfl (Or.inl rfl) (Or.inr rfl)) pgs_nil)))) (fun _ _ _ _ _ => pts_nil) (fun _ _ _ _ _ => (pe_cmpR op_eq (pe_op op_mod (pv 1) (pv 2)) pe_int (nomark _)))) pa_nil)))), ?_⟩
  have lu := hus.len
  have l8 := ok.len
  refine ⟨_, rfl, p, rfl, ⟨_, .inl hp⟩, fun C hC => ?_⟩
  refine lc_tup (K := K) (a := p) (xs := us) (fun i H' => Same H H' ∧ H' C = some (.lst (((ps.take i).map fun e => decide (N % e.1 = 0)).map V.bl))) ⟨Same.upd_new hC, upd_same⟩ (fun i H' _ ⟨z, _⟩ => .inl (rds z hp)) ?_ ?_
  · rintro i x H2 hx ⟨s2, h2⟩
    obtain ⟨e, he, t, rfl, ht⟩ := hus.get hx
    have e1 := (ok.rng e (List.mem_of_getElem? he)).1
    refine ⟨t, _, rfl, SqT.of (s2 _ _ ht), rfl, ?_⟩
    refine ⟨_, _, rfl, _, _, rfl, rfl, rfl, ?_⟩
    refine ⟨_, rfl, _, rfl, _, _, rfl, rfl, (by show (0 : Int) < (e.1 : Int); omega), rfl, ?_⟩
    rw [show decide ((fun i j : Int => V.int (i % j)) (N : Int) (e.1 : Int) = V.int 0) = decide (N % e.1 = 0) from dec_mod N e.1]
    refine ⟨_, h2, ?_, fun b o e => ?_, ?_⟩
    · rw [List.length_map, List.length_map, List.length_take]
      exact Nat.lt_of_le_of_lt (by omega : _ ≤ 8) (by decide)
    · rw [upd_ne (ne_of_none e hC)]
      exact s2 _ _ e
    · rw [upd_same, allD_take he, List.map_append]
      rfl
  rintro H2 ⟨s2, h2⟩
  rw [lu, List.take_length] at h2
  refine ⟨C, _, rfl, SqL.of h2, ?_⟩
  rw [show (ps.map fun e => decide (N % e.1 = 0)).all id = allD N ps by rw [List.all_map]; rfl]
  exact q _ s2
end
end Ft

namespace Ft
/-! sums over pairs by a weight of their d -/
def wsum (w : Nat → Int) (ps : List Pq) : Int := (ps.map fun e => w e.1 * e.2).sum
theorem wsum_cons (w : Nat → Int) (e : Pq) (l : List Pq) : wsum w (e :: l) = w e.1 * e.2 + wsum w l := rfl
theorem wsum_app (w : Nat → Int) (l m : List Pq) : wsum w (l ++ m) = wsum w l + wsum w m := by
  unfold wsum
  rw [List.map_append, List.sum_append]
theorem wsum_perm (w : Nat → Int) {l m : List Pq} (h : l.Perm m) : wsum w l = wsum w m := by
  induction h with
  | nil => rfl
  | cons x _ ih => rw [wsum_cons, wsum_cons, ih]
  | swap x y l => rw [wsum_cons, wsum_cons, wsum_cons, wsum_cons]; omega
  | trans _ _ a b => exact a.trans b
theorem wsum_filter (w : Nat → Int) : ∀ L : List Pq, wsum w (L.filter fun e => decide (e.2 ≠ 0)) = wsum w L
  | [] => rfl
  | e :: l => by
    have ih := wsum_filter w l
    by_cases h : e.2 = 0
    · rw [List.filter_cons_of_neg (by simp [h]), ih, wsum_cons, h]; omega
    · rw [List.filter_cons_of_pos (by simp [h]), wsum_cons, wsum_cons, ih]
theorem wsum_neg (w : Nat → Int) : ∀ L : List Pq, wsum w (L.map fun e => (e.1, -e.2)) = -wsum w L
  | [] => rfl
  | e :: l => by
    rw [List.map_cons, wsum_cons, wsum_cons, wsum_neg w l]
    show w e.1 * -e.2 + _ = _
    rw [Int.mul_neg]
    omega
theorem wsum_repl (w : Nat → Int) {d : Nat} {r : Int} : ∀ {L : List Pq} {old : Int}, Nk L → getP L d = some old → wsum w (L.map (repl d (old + r))) = wsum w L + w d * r
  | [], _, _, h => by cases h
  | x :: l, old, hn, h => by
    unfold getP at h
    by_cases k : x.1 = d
    · rw [if_pos k] at h
      cases h
      have hl : l.map (repl d (x.2 + r)) = l := by
        have : ∀ e ∈ l, repl d (x.2 + r) e = e := fun e he => by
          unfold repl
          rw [if_neg (fun z => (List.pairwise_cons.mp hn).1 e he (k.trans z.symm))]
        rw [List.map_congr_left this, List.map_id']
      rw [List.map_cons, wsum_cons, wsum_cons, hl]
      have e1 : repl d (x.2 + r) x = (d, x.2 + r) := by unfold repl; rw [if_pos k, k]
      rw [e1, k]
      show w d * (x.2 + r) + _ = _
      rw [Int.mul_add]
      omega
    · rw [if_neg k] at h
      rw [List.map_cons, wsum_cons, wsum_cons, wsum_repl w (List.pairwise_cons.mp hn).2 h]
      have e1 : repl d (old + r) x = x := by unfold repl; rw [if_neg k]
      rw [e1]
      omega
theorem wsum_addP (w : Nat → Int) {L : List Pq} (hn : Nk L) (e : Pq) : wsum w (addP L e) = wsum w L + w e.1 * e.2 := by
  unfold addP putP
  cases h : getP L e.1 with
  | none =>
    rw [if_neg (by decide), wsum_app]
    show _ + (w e.1 * (0 + e.2) + 0) = _
    rw [Int.zero_add, Int.add_zero]
  | some old =>
    rw [if_pos (show (some old).isSome = true from rfl)]
    exact wsum_repl w hn h
theorem wsum_addAll (w : Nat → Int) : ∀ {es L : List Pq}, Nk L → wsum w (addAll L es) = wsum w L + wsum w es
  | [], L, _ => (Int.add_zero _).symm
  | e :: es, L, h => by
    show wsum w (addAll (addP L e) es) = _
    rw [wsum_addAll w (es := es) (addP_nk h), wsum_addP w h, wsum_cons]
    omega
/-- the sum over all of a list in which each d stands once -/
theorem wsum_all (w : Nat → Int) {ds : List Nat} (nd : ds.Nodup) : ∀ {L : List Pq}, Nk L → (∀ e ∈ L, e.1 ∈ ds) → (ds.map fun d => w d * (getP L d).getD 0).sum = wsum w L
  | [], _, _ => by
    have : (ds.map fun d => w d * (getP [] d).getD 0) = ds.map fun _ => 0 := List.map_congr_left fun d _ => by show w d * 0 = 0; exact Int.mul_zero _
    rw [this]
    have z : ∀ l : List Nat, (l.map fun _ => (0 : Int)).sum = 0 := fun l => by
      induction l with
      | nil => rfl
      | cons a l ih => rw [List.map_cons, List.sum_cons, ih]; rfl
    rw [z]; rfl
  | e :: l, hn, hm => by
    have ih := wsum_all w nd (L := l) (List.pairwise_cons.mp hn).2 fun x hx => hm x (List.mem_cons_of_mem _ hx)
    have hno : getP l e.1 = none := getP_none.mpr fun x hx z => (List.pairwise_cons.mp hn).1 x hx z.symm
    rw [wsum_cons, ← ih]
    have key : ∀ ks : List Nat, ks.Nodup → (ks.map fun d => w d * (getP (e :: l) d).getD 0).sum = (if e.1 ∈ ks then w e.1 * e.2 else 0) + (ks.map fun d => w d * (getP l d).getD 0).sum := fun ks => by
      induction ks with
      | nil => intro _; rfl
      | cons d ks ihk =>
        intro hnd
        have hnd := List.nodup_cons.mp hnd
        rw [List.map_cons, List.sum_cons, List.map_cons, List.sum_cons, ihk hnd.2]
        by_cases h : e.1 = d
        · have h1 : (getP (e :: l) d).getD 0 = e.2 := by show (if e.1 = d then some e.2 else getP l d).getD 0 = _; rw [if_pos h]; rfl
          have h2 : (getP l d).getD 0 = 0 := by rw [← h, hno]; rfl
          have h3 : e.1 ∉ ks := by rw [h]; exact hnd.1
          rw [h1, h2, if_neg h3, if_pos (by rw [h]; exact List.mem_cons_self), h]
          omega
        · have h1 : (getP (e :: l) d).getD 0 = (getP l d).getD 0 := by show (if e.1 = d then some e.2 else getP l d).getD 0 = _; rw [if_neg h]
          have h4 : (e.1 ∈ d :: ks) = (e.1 ∈ ks) := propext ⟨fun m => (List.mem_cons.mp m).elim (fun z => absurd z h) id, List.mem_cons_of_mem _⟩
          rw [h1]
          simp only [h4]
          omega
    rw [key ds nd, if_pos (hm e List.mem_cons_self)]
/-! lowest terms -/
theorem low_scale {k : Nat} (hk : 0 < k) (a b : Int) : low ((k : Int) * a) ((k : Int) * b) = low a b := by
  unfold low
  rw [Int.natAbs_mul, Int.natAbs_mul, Int.natAbs_natCast, Nat.gcd_mul_left, Int.natCast_mul]
  rw [Int.mul_ediv_mul_of_pos _ _ (by omega), Int.mul_ediv_mul_of_pos _ _ (by omega)]
theorem low_eq {a b a' b' : Int} (hb : 0 < b) (hb' : 0 < b') (h : a * b' = a' * b) : low a b = low a' b' := by
  obtain ⟨n, rfl⟩ := Int.eq_ofNat_of_zero_le (Int.le_of_lt hb)
  obtain ⟨m, rfl⟩ := Int.eq_ofNat_of_zero_le (Int.le_of_lt hb')
  have h1 := low_scale (k := m) (by omega) a (n : Int)
  have h2 := low_scale (k := n) (by omega) a' (m : Int)
  rw [← h1, ← h2]
  congr 1
  · rw [Int.mul_comm, h, Int.mul_comm]
  · exact Int.mul_comm _ _
/-- a number's own words: its bottom is above 0 and it is in proportion -/
theorem low_prop {a b : Int} (hb : 0 < b) : (low a b).1 * b = a * (low a b).2 ∧ 0 < (low a b).2 ∧ (low a b).2 ≤ b ∧ (low a b).1.natAbs ≤ a.natAbs := by
  have g0 : 0 < Nat.gcd a.natAbs b.natAbs := Nat.gcd_pos_of_pos_right _ (by omega)
  have d1 : ((Nat.gcd a.natAbs b.natAbs : Nat) : Int) ∣ a := Int.ofNat_dvd_left.mpr (Nat.gcd_dvd_left _ _)
  have d2 : ((Nat.gcd a.natAbs b.natAbs : Nat) : Int) ∣ b := Int.ofNat_dvd_left.mpr (Nat.gcd_dvd_right _ _)
  unfold low
  generalize Nat.gcd a.natAbs b.natAbs = g at g0 d1 d2
  obtain ⟨x, rfl⟩ := d1
  obtain ⟨y, rfl⟩ := d2
  have gp : (0 : Int) < (g : Int) := by omega
  have e1 : (g : Int) * x / (g : Int) = x := Int.mul_ediv_cancel_left _ (by omega)
  have e2 : (g : Int) * y / (g : Int) = y := Int.mul_ediv_cancel_left _ (by omega)
  simp only [e1, e2]
  have y0 : 0 < y := by
    rcases Int.lt_or_le 0 y with z | z
    · exact z
    · have := Int.mul_nonpos_of_nonneg_of_nonpos (Int.le_of_lt gp) z
      omega
  refine ⟨by grind, y0, ?_, ?_⟩
  · have := Int.mul_le_mul_of_nonneg_right (show (1 : Int) ≤ (g : Int) by omega) (Int.le_of_lt y0)
    omega
  · rw [Int.natAbs_mul]
    exact Nat.le_mul_of_pos_left _ (by omega)
/-- adding to a number in lowest terms -/
theorem nsum_low {a b D : Int} {x : Fq} (hb : 0 < D) (hx : 0 < x.2) (h : x.1 * D = b * x.2) : nsum (low a D) x = low (a + b) D := by
  obtain ⟨p1, p2, _, _⟩ := low_prop (a := a) hb
  unfold nsum
  generalize low a D = y at p1 p2
  refine low_eq (Int.mul_pos p2 hx) hb ?_
  have : (y.1 * x.2 + x.1 * y.2) * D = y.1 * D * x.2 + x.1 * D * y.2 := by grind
  rw [this, p1, h]
  grind
theorem nsum_lows {a b D : Int} (hb : 0 < D) : nsum (low a D) (low b D) = low (a + b) D := by
  obtain ⟨p1, p2, _, _⟩ := low_prop (a := b) hb
  exact nsum_low hb p2 p1
theorem low_neg (a b : Int) : low (-a) b = (-(low a b).1, (low a b).2) := by
  unfold low
  rw [Int.natAbs_neg]
  have d1 : ((Nat.gcd a.natAbs b.natAbs : Nat) : Int) ∣ a := Int.ofNat_dvd_left.mpr (Nat.gcd_dvd_left _ _)
  rw [Int.neg_ediv_of_dvd d1]
/-! orders of made products -/
def ow (N c : Nat) (d : Nat) : Int := ((N / d * Nat.gcd c d ^ 2 : Nat) : Int)
theorem oTop_w (N : Nat) (ps : List Pq) (c : Nat) : oTop N ps c = wsum (ow N c) ps := rfl
theorem oBot_pos {N c : Nat} (c1 : 1 ≤ c) : 0 < oBot N c := Nat.mul_pos (Nat.mul_pos (by decide) (Nat.gcd_pos_of_pos_left _ c1)) c1
theorem ord_joined {N c : Nat} {p1 p2 qs : List Pq} (c1 : 1 ≤ c) (nk : Nk p1) (pm : qs.Perm ((addAll p1 p2).filter fun e => decide (e.2 ≠ 0))) : nsum (ordF N p1 c) (ordF N p2 c) = ordF N qs c := by
  have hb : (0 : Int) < ((oBot N c : Nat) : Int) := by have := oBot_pos (N := N) c1; omega
  unfold ordF
  rw [nsum_lows hb, oTop_w, oTop_w, oTop_w, wsum_perm _ pm, wsum_filter, wsum_addAll _ nk]
theorem ord_undone (N c : Nat) (ps : List Pq) : ordF N (ps.map fun e => (e.1, -e.2)) c = (-(ordF N ps c).1, (ordF N ps c).2) := by
  unfold ordF
  rw [oTop_w, wsum_neg, ← oTop_w, low_neg]
def okTurn (N : Nat) : Bool := decide ((divL N).reverse = (divL N).map fun c => N / c) &&
  (divL N).all fun c => (divL N).all fun d => decide (N / (N / d) * Nat.gcd c (N / d) ^ 2 * (oBot N (N / c)) = N / d * Nat.gcd (N / c) d ^ 2 * oBot N c)
theorem turn_all : ∀ N, N < 25 → okTurn N = true := by decide +kernel
theorem divL_of {N d : Nat} (N1 : 1 ≤ N) (h : N % d = 0) : d ∈ divL N := by
  have dv := Nat.dvd_of_mod_eq_zero h
  have d1 : 0 < d := Nat.pos_of_dvd_of_pos dv N1
  have dl := Nat.le_of_dvd N1 dv
  unfold divL
  refine List.mem_map.mpr ⟨d - 1, List.mem_filter.mpr ⟨List.mem_range.mpr (by omega), ?_⟩, by omega⟩
  rw [show d - 1 + 1 = d by omega]
  exact decide_eq_true h
theorem wsum_scale (w v : Nat → Int) (x y : Int) : ∀ ps : List Pq, (∀ e ∈ ps, w e.1 * x = v e.1 * y) → wsum w ps * x = wsum v ps * y
  | [], _ => by show 0 * x = 0 * y; rw [Int.zero_mul, Int.zero_mul]
  | e :: l, h => by
    have ih := wsum_scale w v x y l fun z hz => h z (List.mem_cons_of_mem _ hz)
    have h0 := h e List.mem_cons_self
    rw [wsum_cons, wsum_cons, Int.add_mul, Int.add_mul, ih]
    congr 1
    grind
theorem wsum_map (w : Nat → Int) (g : Nat → Nat) (ps : List Pq) : wsum w (ps.map fun e => (g e.1, e.2)) = wsum (fun d => w (g d)) ps := by
  unfold wsum
  rw [List.map_map]
  rfl
theorem ord_turned {N : Nat} {ps : List Pq} (N1 : 1 ≤ N) (N2 : N ≤ 24) (ok : ∀ e ∈ ps, N % e.1 = 0) : (divL N).map (ordF N (turnP N ps)) = ((divL N).map (ordF N ps)).reverse := by
  have h := turn_all N (by omega)
  unfold okTurn at h
  rw [Bool.and_eq_true] at h
  have h1 := of_decide_eq_true h.1
  have h2 := List.all_eq_true.mp h.2
  rw [← List.map_reverse, h1, List.map_map]
  refine List.map_congr_left fun c hc => ?_
  have hcm := divL_mem hc
  show ordF N (turnP N ps) c = ordF N ps (N / c)
  have nc : 1 ≤ N / c := Nat.div_pos hcm.2.1 hcm.1
  unfold ordF
  refine low_eq (by have := oBot_pos (N := N) hcm.1; omega) (by have := oBot_pos (N := N) nc; omega) ?_
  rw [oTop_w, oTop_w]
  unfold turnP
  rw [wsum_perm _ (List.reverse_perm _), wsum_map]
  refine wsum_scale _ _ _ _ _ fun e he => ?_
  have := List.all_eq_true.mp (h2 c hc) e.1 (divL_of N1 (ok e he))
  have := of_decide_eq_true this
  unfold ow
  rw [← Int.natCast_mul, ← Int.natCast_mul, this]
/-! levels raised -/
theorem width_bot {N c : Nat} (c1 : 1 ≤ c) (hc : N % c = 0) : oBot N c * (N / Nat.gcd (c * c) N) = 24 * N := by
  obtain ⟨k, rfl⟩ := Nat.dvd_of_mod_eq_zero hc
  unfold oBot
  rw [Nat.mul_div_cancel_left _ c1, Nat.gcd_mul_left c c k]
  have gd : c * Nat.gcd c k ∣ c * k := Nat.mul_dvd_mul_left _ (Nat.gcd_dvd_right _ _)
  rw [show 24 * Nat.gcd c k * c = 24 * (c * Nat.gcd c k) by rw [Nat.mul_assoc, Nat.mul_comm (Nat.gcd c k)], Nat.mul_assoc, Nat.mul_div_cancel' gd]
theorem width_pos {N c : Nat} (N1 : 1 ≤ N) : 1 ≤ N / Nat.gcd (c * c) N := Nat.div_pos (Nat.le_of_dvd N1 (Nat.gcd_dvd_right _ _)) (Nat.gcd_pos_of_pos_right _ N1)
theorem ord_raised {N t c : Nat} {ps : List Pq} (N1 : 1 ≤ N) (t1 : 1 ≤ t) (c1 : 1 ≤ c) (hc : (N * t) % c = 0) (ok : ∀ e ∈ ps, 1 ≤ e.1 ∧ N % e.1 = 0) :
    ordF (N * t) ps c = low ((ordF N ps (Nat.gcd c N)).1 * (((N * t) / Nat.gcd (c * c) (N * t) : Nat) : Int)) ((ordF N ps (Nat.gcd c N)).2 * ((N / Nat.gcd (Nat.gcd c N * Nat.gcd c N) N : Nat) : Int)) := by
  have g1 : 1 ≤ Nat.gcd c N := Nat.gcd_pos_of_pos_right _ N1
  have hg : N % Nat.gcd c N = 0 := Nat.mod_eq_zero_of_dvd (Nat.gcd_dvd_right _ _)
  have w1 := width_bot g1 hg
  have w2 := width_bot c1 hc
  have wp := width_pos (c := Nat.gcd c N) N1
  have top : oTop (N * t) ps c = (t : Int) * oTop N ps (Nat.gcd c N) := by
    have := wsum_scale (ow (N * t) c) (ow N (Nat.gcd c N)) 1 (t : Int) ps fun e he => by
      obtain ⟨e1, e2⟩ := ok e he
      obtain ⟨k, hk⟩ := Nat.dvd_of_mod_eq_zero e2
      unfold ow
      rw [Nat.gcd_assoc, show Nat.gcd N e.1 = e.1 from Nat.gcd_eq_right (Nat.dvd_of_mod_eq_zero e2), Int.mul_one, ← Int.natCast_mul]
      congr 1
      rw [hk, Nat.mul_assoc, Nat.mul_div_cancel_left _ e1, Nat.mul_div_cancel_left _ e1]
      rw [Nat.mul_assoc, Nat.mul_comm t, Nat.mul_assoc]
    rw [oTop_w, oTop_w]
    rw [Int.mul_one] at this
    rw [this, Int.mul_comm]
  have bp := oBot_pos (N := N) g1
  obtain ⟨p1, p2, _, _⟩ := low_prop (a := oTop N ps (Nat.gcd c N)) (b := ((oBot N (Nat.gcd c N) : Nat) : Int)) (by omega)
  show low (oTop (N * t) ps c) ((oBot (N * t) c : Nat) : Int) = low ((low (oTop N ps (Nat.gcd c N)) ((oBot N (Nat.gcd c N) : Nat) : Int)).1 * _) _
  rw [show (ordF N ps (Nat.gcd c N)).2 = (low (oTop N ps (Nat.gcd c N)) ((oBot N (Nat.gcd c N) : Nat) : Int)).2 from rfl]
  generalize low (oTop N ps (Nat.gcd c N)) ((oBot N (Nat.gcd c N) : Nat) : Int) = o at p1 p2 ⊢
  generalize N / Nat.gcd (Nat.gcd c N * Nat.gcd c N) N = wg at w1 wp
  generalize N * t / Nat.gcd (c * c) (N * t) = wc at w2
  have bc := oBot_pos (N := N * t) c1
  generalize oBot (N * t) c = bc' at w2 bc ⊢
  generalize oBot N (Nat.gcd c N) = bg at w1 p1 bp
  rw [top]
  generalize oTop N ps (Nat.gcd c N) = T at p1 ⊢
  refine low_eq (by omega) (Int.mul_pos p2 (by omega)) ?_
  -- t T (o2 wg) = o1 wc bc, with o1 bg = T o2, bg wg = 24 N, bc wc = 24 N t
  have W1 : (bg : Int) * (wg : Int) = 24 * (N : Int) := by rw [← Int.natCast_mul, w1]; exact Int.natCast_mul _ _
  have W2 : (bc' : Int) * (wc : Int) = 24 * (N : Int) * (t : Int) := by rw [← Int.natCast_mul, w2, Int.natCast_mul, Int.natCast_mul, Int.mul_assoc]; rfl
  have b0 : (bg : Int) ≠ 0 := by omega
  refine Int.eq_of_mul_eq_mul_right b0 ?_
  have : (o.1 * (wc : Int)) * (bc' : Int) * (bg : Int) = (o.1 * (bg : Int)) * ((bc' : Int) * (wc : Int)) := by grind
  rw [this, p1, W2]
  have : (t : Int) * T * (o.2 * (wg : Int)) * (bg : Int) = (t : Int) * T * o.2 * ((bg : Int) * (wg : Int)) := by grind
  rw [this, W1]
  grind
/-! spread products -/
theorem divL_last {N : Nat} (N1 : 1 ≤ N) : ∃ l, divL N = l ++ [N] := by
  obtain ⟨n, rfl⟩ : ∃ n, N = n + 1 := ⟨N - 1, by omega⟩
  unfold divL
  rw [List.range_succ, List.filter_append, List.map_append, show [n].filter (fun i => decide ((n + 1) % (i + 1) = 0)) = [n] by simp]
  exact ⟨_, rfl⟩
theorem ord_spread {N t : Nat} {ps : List Pq} (N1 : 1 ≤ N) (t1 : 1 ≤ t) (ok : ∀ e ∈ ps, 1 ≤ e.1 ∧ N % e.1 = 0) : ordF (N * t) (spP ps t) (N * t) = low ((low (sumD ps) 24).1 * (t : Int)) (low (sumD ps) 24).2 := by
  obtain ⟨p1, p2, _, _⟩ := low_prop (a := sumD ps) (b := 24) (by decide)
  have np : 1 ≤ N * t := Nat.mul_pos N1 t1
  have hb := oBot_pos (N := N * t) np
  unfold ordF
  refine low_eq (by omega) p2 ?_
  have hB : oBot (N * t) (N * t) = 24 * (N * t) := by
    unfold oBot
    rw [Nat.div_self np, Nat.gcd_one_right, Nat.mul_one]
  have top : oTop (N * t) (spP ps t) (N * t) = ((N * t * t : Nat) : Int) * sumD ps := by
    rw [oTop_w]
    unfold spP
    rw [wsum_map _ (fun d => t * d)]
    have := wsum_scale (fun d => ow (N * t) (N * t) (t * d)) (fun d => (d : Int)) 1 ((N * t * t : Nat) : Int) ps fun e he => by
      obtain ⟨e1, e2⟩ := ok e he
      obtain ⟨k, rfl⟩ := Nat.dvd_of_mod_eq_zero e2
      unfold ow
      have td : 0 < t * e.1 := Nat.mul_pos t1 e1
      rw [show e.1 * k * t = (t * e.1) * k by rw [Nat.mul_comm t, Nat.mul_assoc, Nat.mul_assoc, Nat.mul_comm k], Nat.gcd_eq_right (Nat.dvd_mul_right _ _), Nat.mul_div_cancel_left _ td, Int.mul_one, ← Int.natCast_mul]
      congr 1
      rw [Nat.pow_two]
      rw [show t * e.1 * k * t = k * (t * e.1) * t by rw [Nat.mul_comm (t * e.1) k]]
      simp only [Nat.mul_assoc, Nat.mul_comm, Nat.mul_left_comm]
    have e : wsum (fun d => (d : Int)) ps = sumD ps := rfl
    rw [Int.mul_one, e, Int.mul_comm] at this
    exact this
  rw [hB, top]
  generalize sumD ps = S at p1 ⊢
  generalize low S 24 = o at p1 p2 ⊢
  rw [Int.natCast_mul, Int.natCast_mul (24 : Nat)]
  show (((N * t : Nat) : Int) * (t : Int)) * S * o.2 = o.1 * (t : Int) * (24 * ((N * t : Nat) : Int))
  generalize ((N * t : Nat) : Int) = M
  have : o.1 * (t : Int) * (24 * M) = (o.1 * 24) * ((t : Int) * M) := by grind
  rw [this, p1]
  grind
def okVal (N : Nat) : Bool := (divL N).all fun d => decide (((edges N).map fun e => N / d * Nat.gcd e.1 d ^ 2 * (e.2.2 * e.2.1)).sum = N * sumE (edges N))
theorem val_1 : (List.range 50).all (fun i => okVal (i + 1)) = true := by decide +kernel
theorem val_2 : (List.range 50).all (fun i => okVal (i + 51)) = true := by decide +kernel
theorem val_3 : (List.range 50).all (fun i => okVal (i + 101)) = true := by decide +kernel
theorem val_all {N : Nat} (N1 : 1 ≤ N) (N2 : N ≤ 144) {d : Nat} (hd : d ∈ divL N) : ((edges N).map fun e => N / d * Nat.gcd e.1 d ^ 2 * (e.2.2 * e.2.1)).sum = N * sumE (edges N) := by
  have h : okVal N = true := by
    rcases Nat.lt_or_ge N 51 with h | h
    · have := List.all_eq_true.mp val_1 (N - 1) (List.mem_range.mpr (by omega))
      rwa [show N - 1 + 1 = N by omega] at this
    rcases Nat.lt_or_ge N 101 with h | h
    · have := List.all_eq_true.mp val_2 (N - 51) (List.mem_range.mpr (by omega))
      rwa [show N - 51 + 51 = N by omega] at this
    · have := List.all_eq_true.mp val_3 (N - 101) (List.mem_range.mpr (by omega))
      rwa [show N - 101 + 101 = N by omega] at this
  exact of_decide_eq_true (List.all_eq_true.mp h d hd)
/-- what the orders add up to, edge by edge -/
def totF (N : Nat) (ps : List Pq) (es : List Tri) : Int := (es.map fun e => oTop N ps e.1 * ((e.2.2 * e.2.1 : Nat) : Int)).sum
theorem tot_step {N : Nat} {ps : List Pq} {c : Nat} (N1 : 1 ≤ N) (hc : c ∈ divL N) (a : Int) : nsum (low a (24 * (N : Int))) ((ordF N ps c).1 * ((manyOf N c : Nat) : Int), (ordF N ps c).2) = low (a + oTop N ps c * (((N / Nat.gcd (c * c) N) * manyOf N c : Nat) : Int)) (24 * (N : Int)) := by
  have hm := divL_mem hc
  have bp := oBot_pos (N := N) hm.1
  obtain ⟨p1, p2, _, _⟩ := low_prop (a := oTop N ps c) (b := ((oBot N c : Nat) : Int)) (by omega)
  have w := width_bot hm.1 hm.2.2
  refine nsum_low (by omega) p2 ?_
  show (low (oTop N ps c) ((oBot N c : Nat) : Int)).1 * ((manyOf N c : Nat) : Int) * (24 * (N : Int)) = _ * (low (oTop N ps c) ((oBot N c : Nat) : Int)).2
  generalize low (oTop N ps c) ((oBot N c : Nat) : Int) = o at p1 p2 ⊢
  have W : ((oBot N c : Nat) : Int) * ((N / Nat.gcd (c * c) N : Nat) : Int) = 24 * (N : Int) := by rw [← Int.natCast_mul, w]; exact Int.natCast_mul _ _
  rw [← W, Int.natCast_mul]
  generalize ((oBot N c : Nat) : Int) = B at p1 ⊢
  generalize ((N / Nat.gcd (c * c) N : Nat) : Int) = Wd
  generalize ((manyOf N c : Nat) : Int) = M
  have : o.1 * M * (B * Wd) = (o.1 * B) * (M * Wd) := by grind
  rw [this, p1]
  grind
theorem sum_swap (f : Nat → Tri → Int) : ∀ (ps : List Pq) (es : List Tri), (es.map fun e => wsum (fun d => f d e) ps).sum = wsum (fun d => (es.map fun e => f d e).sum) ps
  | [], es => by
    have z : ∀ l : List Tri, (l.map fun e => wsum (fun d => f d e) []).sum = 0 := fun l => by
      induction l with
      | nil => rfl
      | cons a l ih => rw [List.map_cons, List.sum_cons, ih]; rfl
    rw [z]; rfl
  | x :: l, es => by
    rw [wsum_cons, ← sum_swap f l es]
    have z : ∀ k : List Tri, (k.map fun e => wsum (fun d => f d e) (x :: l)).sum = (k.map fun e => f x.1 e).sum * x.2 + (k.map fun e => wsum (fun d => f d e) l).sum := fun k => by
      induction k with
      | nil => show (0 : Int) = 0 * x.2 + 0; omega
      | cons a k ih =>
        rw [List.map_cons, List.sum_cons, ih, List.map_cons, List.sum_cons, List.map_cons, List.sum_cons, wsum_cons, Int.add_mul]
        omega
    exact z es
theorem sum_cast (g : Tri → Nat) : ∀ es : List Tri, (es.map fun e => ((g e : Nat) : Int)).sum = (((es.map g).sum : Nat) : Int)
  | [] => rfl
  | e :: l => by rw [List.map_cons, List.sum_cons, List.map_cons, List.sum_cons, sum_cast g l]; omega
theorem tot_val {N : Nat} {ps : List Pq} (N1 : 1 ≤ N) (N2 : N ≤ 144) (ok : ∀ e ∈ ps, N % e.1 = 0) : low (totF N ps (edges N)) (24 * (N : Int)) = low ((low (sumR ps) 2).1 * ((sumE (edges N) : Nat) : Int)) ((low (sumR ps) 2).2 * 12) := by
  obtain ⟨p1, p2, _, _⟩ := low_prop (a := sumR ps) (b := 2) (by decide)
  have h : totF N ps (edges N) = ((N * sumE (edges N) : Nat) : Int) * sumR ps := by
    have h1 : totF N ps (edges N) = ((edges N).map fun e => wsum (fun d => ow N e.1 d * ((e.2.2 * e.2.1 : Nat) : Int)) ps).sum := by
      unfold totF
      congr 1
      refine List.map_congr_left fun e _ => ?_
      rw [oTop_w]
      have := wsum_scale (fun d => ow N e.1 d * ((e.2.2 * e.2.1 : Nat) : Int)) (ow N e.1) 1 ((e.2.2 * e.2.1 : Nat) : Int) ps fun x _ => Int.mul_one _
      rw [Int.mul_one] at this
      exact this.symm
    rw [h1, sum_swap (fun d e => ow N e.1 d * ((e.2.2 * e.2.1 : Nat) : Int))]
    have := wsum_scale (fun d => ((edges N).map fun e => ow N e.1 d * ((e.2.2 * e.2.1 : Nat) : Int)).sum) (fun _ => 1) 1 ((N * sumE (edges N) : Nat) : Int) ps fun x hx => by
      have hv := val_all N1 N2 (divL_of N1 (ok x hx))
      rw [Int.mul_one, Int.one_mul, ← hv, ← sum_cast]
      congr 1
    rw [Int.mul_one] at this
    have e : wsum (fun _ => 1) ps = sumR ps := by
      unfold wsum sumR
      congr 1
      exact List.map_congr_left fun x _ => Int.one_mul _
    rw [this, e, Int.mul_comm]
  refine low_eq (by omega) (by omega) ?_
  rw [h]
  generalize sumR ps = R at p1 ⊢
  generalize low R 2 = o at p1 p2 ⊢
  rw [Int.natCast_mul]
  generalize ((sumE (edges N) : Nat) : Int) = S
  generalize (N : Int) = M
  have : o.1 * S * (24 * M) = (o.1 * 2) * (12 * S * M) := by grind
  rw [this, p1]
  grind
end Ft

namespace Ft
/-! numbers without squares -/
def Sqf (n : Nat) : Prop := ∀ q, 2 ≤ q → ¬ q * q ∣ n
theorem Sqf.one : Sqf 1 := fun q h d => by
  have := Nat.le_of_dvd (by decide) d
  have := Nat.mul_le_mul h h
  omega
theorem Sqf.pos {n : Nat} (h : Sqf n) : 0 < n := Nat.pos_of_ne_zero fun e => h 2 (by decide) (by rw [e]; exact Nat.dvd_zero _)
theorem Sqf.mul {a b : Nat} (ha : Sqf a) (hb : Sqf b) (co : Nat.Coprime a b) : Sqf (a * b) := fun q hq d => by
  have dq : q ∣ a * b := Nat.dvd_trans (Nat.dvd_mul_right q q) d
  have e : Nat.gcd q a * Nat.gcd q b = q := by rw [← Nat.Coprime.gcd_mul q co]; exact Nat.gcd_eq_left dq
  have ua : Nat.gcd q a * Nat.gcd q a ∣ a := by
    have c : Nat.Coprime (Nat.gcd q a * Nat.gcd q a) b := Nat.Coprime.mul_left (Nat.Coprime.coprime_dvd_left (Nat.gcd_dvd_right _ _) co) (Nat.Coprime.coprime_dvd_left (Nat.gcd_dvd_right _ _) co)
    refine c.dvd_of_dvd_mul_right (Nat.dvd_trans ?_ d)
    exact Nat.mul_dvd_mul (Nat.gcd_dvd_left _ _) (Nat.gcd_dvd_left _ _)
  have ub : Nat.gcd q b * Nat.gcd q b ∣ b := by
    have c : Nat.Coprime (Nat.gcd q b * Nat.gcd q b) a := Nat.Coprime.mul_left (Nat.Coprime.coprime_dvd_left (Nat.gcd_dvd_right _ _) co.symm) (Nat.Coprime.coprime_dvd_left (Nat.gcd_dvd_right _ _) co.symm)
    refine c.dvd_of_dvd_mul_left (Nat.dvd_trans ?_ d)
    exact Nat.mul_dvd_mul (Nat.gcd_dvd_left _ _) (Nat.gcd_dvd_left _ _)
  have pa : 0 < Nat.gcd q a := Nat.gcd_pos_of_pos_right _ ha.pos
  have pb : 0 < Nat.gcd q b := Nat.gcd_pos_of_pos_right _ hb.pos
  have la : Nat.gcd q a = 1 := by
    rcases Nat.lt_or_ge 1 (Nat.gcd q a) with z | z
    · exact absurd ua (ha _ z)
    · omega
  have lb : Nat.gcd q b = 1 := by
    rcases Nat.lt_or_ge 1 (Nat.gcd q b) with z | z
    · exact absurd ub (hb _ z)
    · omega
  rw [la, lb] at e
  omega
theorem Sqf.dvd {a b : Nat} (h : Sqf b) (d : a ∣ b) : Sqf a := fun q hq z => h q hq (Nat.dvd_trans z d)
/-- no factor below p -/
def NoF (p n : Nat) : Prop := ∀ q, 2 ≤ q → q < p → ¬ q ∣ n
theorem NoF.dvd {p a b : Nat} (h : NoF p b) (d : a ∣ b) : NoF p a := fun q h1 h2 z => h q h1 h2 (Nat.dvd_trans z d)
theorem NoF.succ {p n : Nat} (h : NoF p n) (hp : ¬ p ∣ n) : NoF (p + 1) n := fun q h1 h2 z => by
  rcases Nat.lt_or_ge q p with k | k
  · exact h q h1 k z
  · exact hp (by rwa [show q = p by omega] at z)
/-- the least factor is a prime -/
theorem NoF.prime {p n : Nat} (h : NoF p n) (hp : p ∣ n) : NoF p p := h.dvd hp
theorem NoF.sqf {p : Nat} (p2 : 2 ≤ p) (h : NoF p p) : Sqf p := fun q hq d => by
  have dq := Nat.dvd_trans (Nat.dvd_mul_right q q) d
  have := Nat.le_of_dvd (by omega) d
  have := Nat.mul_le_mul_right q hq
  exact h q hq (by omega) dq
theorem NoF.cop {p a : Nat} (p2 : 2 ≤ p) (h : NoF p p) (hn : ¬ p ∣ a) : Nat.Coprime p a := by
  have g := Nat.gcd_dvd_left p a
  have gp : 0 < Nat.gcd p a := Nat.gcd_pos_of_pos_left _ (by omega)
  have gl := Nat.le_of_dvd (by omega) g
  rcases Nat.lt_or_ge 1 (Nat.gcd p a) with z | z
  · rcases Nat.lt_or_ge (Nat.gcd p a) p with k | k
    · exact absurd g (h _ z k)
    · have e : Nat.gcd p a = p := by omega
      exact absurd (by rw [← e]; exact Nat.gcd_dvd_right _ _) hn
  · show Nat.gcd p a = 1
    omega
/-- what is left of a number when the squares are taken out -/
theorem left_sqf {p r s : Nat} (r0 : 0 < r) (h : NoF p r) (hp : r < p * p * p) (hs : s * s ≤ r ∧ r < (s + 1) * (s + 1)) (ne : s * s ≠ r) : Sqf r := fun q hq d => by
  obtain ⟨c, hc⟩ := d
  have dq : q ∣ r := ⟨q * c, by rw [hc, Nat.mul_assoc]⟩
  have qp : p ≤ q := by
    rcases Nat.lt_or_ge q p with z | z
    · exact absurd dq (h q hq z)
    · exact z
  have c0 : 0 < c := Nat.pos_of_ne_zero fun e => by rw [e] at hc; omega
  rcases Nat.lt_or_ge 1 c with z | z
  · have dc : c ∣ r := ⟨q * q, by rw [hc, Nat.mul_comm]⟩
    have cp : p ≤ c := by
      rcases Nat.lt_or_ge c p with k | k
      · exact absurd dc (h c z k)
      · exact k
    have := Nat.mul_le_mul (Nat.mul_le_mul qp qp) cp
    omega
  · have c1 : c = 1 := by omega
    rw [c1, Nat.mul_one] at hc
    have h1 : ¬ s < q := fun k => by
      have := Nat.mul_le_mul (show s + 1 ≤ q from k) (show s + 1 ≤ q from k)
      omega
    have h2 : ¬ q < s := fun k => by
      have := Nat.mul_le_mul (show q + 1 ≤ s from k) (show q + 1 ≤ s from k)
      have e : (q + 1) * (q + 1) = q * q + 2 * q + 1 := by rw [Nat.add_mul, Nat.mul_add]; omega
      omega
    have : s = q := by omega
    rw [this] at ne
    exact ne hc.symm
/-- equal up to squares -/
def SqE (a b : Nat) : Prop := ∃ k j, 0 < k ∧ 0 < j ∧ a * (k * k) = b * (j * j)
theorem SqE.refl (a : Nat) : SqE a a := ⟨1, 1, by decide, by decide, rfl⟩
theorem SqE.symm {a b : Nat} (h : SqE a b) : SqE b a := by
  obtain ⟨k, j, x, y, e⟩ := h
  exact ⟨j, k, y, x, e.symm⟩
theorem SqE.trans {a b c : Nat} (h : SqE a b) (g : SqE b c) : SqE a c := by
  obtain ⟨k, j, x, y, e⟩ := h
  obtain ⟨l, m, z, w, f⟩ := g
  refine ⟨k * l, j * m, Nat.mul_pos x z, Nat.mul_pos y w, ?_⟩
  have e1 : a * (k * l * (k * l)) = a * (k * k) * (l * l) := by grind
  have e2 : c * (j * m * (j * m)) = c * (m * m) * (j * j) := by grind
  rw [e1, e2, e, ← f]
  grind
theorem SqE.mul {a b c d : Nat} (h : SqE a b) (g : SqE c d) : SqE (a * c) (b * d) := by
  obtain ⟨k, j, x, y, e⟩ := h
  obtain ⟨l, m, z, w, f⟩ := g
  refine ⟨k * l, j * m, Nat.mul_pos x z, Nat.mul_pos y w, ?_⟩
  have e1 : a * c * (k * l * (k * l)) = a * (k * k) * (c * (l * l)) := by grind
  have e2 : b * d * (j * m * (j * m)) = b * (j * j) * (d * (m * m)) := by grind
  rw [e1, e2, e, f]
theorem SqE.sq (a : Nat) {k : Nat} (hk : 0 < k) : SqE (a * (k * k)) a := ⟨1, k, by decide, hk, by rw [Nat.mul_one]⟩
theorem sqe_uniq {a b : Nat} (ha : Sqf a) (hb : Sqf b) (h : SqE a b) : a = b := by
  obtain ⟨k, j, x, y, e⟩ := h
  obtain ⟨g0, k', j', co, ek, ej⟩ : ∃ g k' j', Nat.Coprime k' j' ∧ k = k' * g ∧ j = j' * g := by
    obtain ⟨g, k', j', _, co, h1, h2⟩ := Nat.exists_coprime' (m := k) (n := j) (Nat.gcd_pos_of_pos_left _ x)
    exact ⟨g, k', j', co, h1, h2⟩
  have gp : 0 < g0 := Nat.pos_of_ne_zero fun z => by rw [z, Nat.mul_zero] at ek; omega
  have e' : a * (k' * k') = b * (j' * j') := by
    have : a * (k' * k') * (g0 * g0) = b * (j' * j') * (g0 * g0) := by
      rw [ek, ej] at e
      have e1 : a * (k' * k') * (g0 * g0) = a * (k' * g0 * (k' * g0)) := by grind
      have e2 : b * (j' * j') * (g0 * g0) = b * (j' * g0 * (j' * g0)) := by grind
      rw [e1, e2, e]
    exact Nat.eq_of_mul_eq_mul_right (Nat.mul_pos gp gp) this
  have k0 : 0 < k' := Nat.pos_of_ne_zero fun z => by rw [z, Nat.zero_mul] at ek; omega
  have j0 : 0 < j' := Nat.pos_of_ne_zero fun z => by rw [z, Nat.zero_mul] at ej; omega
  have c2 : Nat.Coprime (k' * k') (j' * j') := Nat.Coprime.mul_left (Nat.Coprime.mul_right co co) (Nat.Coprime.mul_right co co)
  have d1 : k' * k' ∣ b := c2.dvd_of_dvd_mul_right ⟨a, by rw [← e', Nat.mul_comm]⟩
  have d2 : j' * j' ∣ a := c2.symm.dvd_of_dvd_mul_right ⟨b, by rw [e', Nat.mul_comm]⟩
  have k1 : k' = 1 := by
    rcases Nat.lt_or_ge 1 k' with z | z
    · exact absurd d1 (hb _ z)
    · omega
  have j1 : j' = 1 := by
    rcases Nat.lt_or_ge 1 j' with z | z
    · exact absurd d2 (ha _ z)
    · omega
  rw [k1, j1] at e'
  omega
/-- b is m without its squares -/
structure Bare (m b : Int) : Prop where
  sqf : Sqf b.natAbs
  eqv : SqE m.natAbs b.natAbs
  sgn : 0 < m ↔ 0 < b
theorem bare_uniq {m m' b b' : Int} (h : Bare m b) (h' : Bare m' b') (e : SqE m.natAbs m'.natAbs) (s : 0 < m ↔ 0 < m') : b = b' := by
  have := sqe_uniq h.sqf h'.sqf (h.eqv.symm.trans (e.trans h'.eqv))
  have p := h.sqf.pos
  have q : 0 < b ↔ 0 < b' := h.sgn.symm.trans (s.trans h'.sgn)
  rcases Int.lt_or_le 0 b with z | z
  · have := q.mp z
    omega
  · have : ¬ 0 < b' := fun w => by have := q.mpr w; omega
    omega
def sgnOf (b : Int) : Int := if b % 4 = 1 then b else 4 * b
theorem sgn_eqv {b : Int} (h : Sqf b.natAbs) : Bare (sgnOf b) b := by
  have p := h.pos
  unfold sgnOf
  split
  · exact ⟨h, SqE.refl _, Iff.rfl⟩
  · refine ⟨h, ?_, by omega⟩
    rw [Int.natAbs_mul]
    show SqE (4 * b.natAbs) b.natAbs
    have := SqE.sq b.natAbs (k := 2) (by decide)
    rw [Nat.mul_comm] at this
    exact this
/-! levels -/
def lvl (c : Nat) (T : Int) : Nat := c * (24 / Nat.gcd 24 T.natAbs)
theorem lvl_dvd {c M : Nat} {T : Int} (c0 : 0 < c) (hc : c ∣ M) (h : (((M / c : Nat) : Int) * T) % 24 = 0) : lvl c T ∣ M := by
  obtain ⟨k, rfl⟩ := hc
  rw [Nat.mul_div_cancel_left _ c0] at h
  refine Nat.mul_dvd_mul_left _ ?_
  have d : 24 ∣ k * T.natAbs := by
    have : (24 : Int) ∣ (k : Int) * T := Int.dvd_of_emod_eq_zero h
    have := Int.natAbs_dvd_natAbs.mpr this
    rwa [Int.natAbs_mul, Int.natAbs_natCast] at this
  have g0 : 0 < Nat.gcd 24 T.natAbs := Nat.gcd_pos_of_pos_left _ (by decide)
  obtain ⟨x, hx⟩ := Nat.gcd_dvd_left 24 T.natAbs
  obtain ⟨y, hy⟩ := Nat.gcd_dvd_right 24 T.natAbs
  generalize hg : Nat.gcd 24 T.natAbs = g at *
  rw [hx, Nat.mul_div_cancel_left _ g0]
  have co : Nat.Coprime x y := by
    have : Nat.gcd (g * x) (g * y) = g := by rw [← hx, ← hy]; exact hg
    rw [Nat.gcd_mul_left] at this
    have h1 : g * Nat.gcd x y = g * 1 := by omega
    exact Nat.eq_of_mul_eq_mul_left g0 h1
  refine co.dvd_of_dvd_mul_right ?_
  rw [hx, hy] at d
  rw [show k * (g * y) = g * (k * y) by rw [Nat.mul_left_comm]] at d
  exact Nat.dvd_of_mul_dvd_mul_left g0 d
theorem lvl_back {c M : Nat} {T : Int} (c0 : 0 < c) (h : lvl c T ∣ M) : c ∣ M ∧ (((M / c : Nat) : Int) * T) % 24 = 0 := by
  obtain ⟨k, rfl⟩ := h
  unfold lvl
  refine ⟨Nat.dvd_trans (Nat.dvd_mul_right _ _) (Nat.dvd_mul_right _ _), ?_⟩
  rw [Nat.mul_assoc, Nat.mul_div_cancel_left _ c0]
  refine Int.emod_eq_zero_of_dvd (Int.natAbs_dvd_natAbs.mp ?_)
  rw [Int.natAbs_mul, Int.natAbs_natCast]
  show 24 ∣ 24 / Nat.gcd 24 T.natAbs * k * T.natAbs
  obtain ⟨x, hx⟩ := Nat.gcd_dvd_left 24 T.natAbs
  obtain ⟨y, hy⟩ := Nat.gcd_dvd_right 24 T.natAbs
  have g0 : 0 < Nat.gcd 24 T.natAbs := Nat.gcd_pos_of_pos_left _ (by decide)
  generalize Nat.gcd 24 T.natAbs = g at *
  have e : 24 / g = x := by rw [hx, Nat.mul_div_cancel_left _ g0]
  rw [e, hy]
  refine ⟨k * y, ?_⟩
  rw [hx]
  grind
end Ft

set_option exponentiation.threshold 9000
namespace Ft
open PySem L2
/-- the loop that takes the squares out -/
structure WI (z : Int) (r p : Nat) (b : Int) : Prop where
  eqv : SqE z.natAbs (b.natAbs * r)
  sqf : Sqf b.natAbs
  cop : Nat.Coprime b.natAbs r
  nof : NoF p r
  r0 : 0 < r
  le : r ≤ z.natAbs
  bl : b.natAbs * r ≤ z.natAbs
  p2 : 2 ≤ p
  sgn : 0 < z ↔ 0 < b
theorem WI.sq {z : Int} {r p : Nat} {b : Int} (h : WI z r p b) (d : r % (p * p) = 0) : WI z (r / (p * p)) p b ∧ r / (p * p) < r := by
  have p2 := h.p2
  have pp : 2 ≤ p * p := Nat.le_trans p2 (Nat.le_mul_of_pos_left _ (by omega))
  obtain ⟨k, hk⟩ := Nat.dvd_of_mod_eq_zero d
  have e : r / (p * p) = k := by rw [hk, Nat.mul_div_cancel_left _ (by omega)]
  have k0 : 0 < k := Nat.pos_of_ne_zero fun w => by have := h.r0; rw [w, Nat.mul_zero] at hk; omega
  have kr : k ≤ r := by rw [hk]; exact Nat.le_mul_of_pos_left _ (by omega)
  have dk : k ∣ r := ⟨p * p, by rw [hk, Nat.mul_comm]⟩
  rw [e]
  refine ⟨⟨?_, h.sqf, Nat.Coprime.coprime_dvd_right dk h.cop, h.nof.dvd dk, k0, Nat.le_trans kr h.le, Nat.le_trans (Nat.mul_le_mul_left _ kr) h.bl, p2, h.sgn⟩, ?_⟩
  · refine h.eqv.trans ?_
    have := SqE.sq (b.natAbs * k) (k := p) (by omega)
    rwa [Nat.mul_assoc, Nat.mul_comm k, ← hk] at this
  · have := Nat.mul_le_mul_right k pp
    omega
theorem WI.step1 {z : Int} {r p : Nat} {b : Int} (h : WI z r p b) (n : ¬ r % (p * p) = 0) (d : r % p = 0) : WI z (r / p) (p + 1) (b * (p : Int)) ∧ r / p ≤ r := by
  have p2 := h.p2
  have hp : p ∣ r := Nat.dvd_of_mod_eq_zero d
  obtain ⟨k, hk⟩ := hp
  have hp : p ∣ r := Nat.dvd_of_mod_eq_zero d
  have e : r / p = k := by rw [hk, Nat.mul_div_cancel_left _ (by omega)]
  have k0 : 0 < k := Nat.pos_of_ne_zero fun w => by have := h.r0; rw [w, Nat.mul_zero] at hk; omega
  have kr : k ≤ r := by rw [hk]; exact Nat.le_mul_of_pos_left _ (by omega)
  have dk : k ∣ r := ⟨p, by rw [hk, Nat.mul_comm]⟩
  have npk : ¬ p ∣ k := fun ⟨j, hj⟩ => n (Nat.mod_eq_zero_of_dvd ⟨j, by rw [hk, hj, Nat.mul_assoc]⟩)
  have pr := h.nof.prime hp
  have cpb : Nat.Coprime b.natAbs p := Nat.Coprime.coprime_dvd_right hp h.cop
  have eb : (b * (p : Int)).natAbs = b.natAbs * p := by rw [Int.natAbs_mul, Int.natAbs_natCast]
  rw [e]
  refine ⟨⟨?_, ?_, ?_, (h.nof.dvd dk).succ npk, k0, Nat.le_trans kr h.le, ?_, by omega, ?_⟩, kr⟩
  · rw [eb, Nat.mul_assoc, ← hk]
    exact h.eqv
  · rw [eb]
    exact h.sqf.mul (pr.sqf p2) cpb
  · rw [eb]
    exact Nat.Coprime.mul_left (Nat.Coprime.coprime_dvd_right dk h.cop) (pr.cop p2 npk)
  · rw [eb, Nat.mul_assoc, ← hk]
    exact h.bl
  · refine h.sgn.trans ⟨fun w => Int.mul_pos w (by omega), fun w => ?_⟩
    exact Int.pos_of_mul_pos_left w (by omega)
theorem WI.step2 {z : Int} {r p : Nat} {b : Int} (h : WI z r p b) (n : ¬ r % p = 0) : WI z r (p + 1) b :=
  ⟨h.eqv, h.sqf, h.cop, h.nof.succ fun d => n (Nat.mod_eq_zero_of_dvd d), h.r0, h.le, h.bl, by have := h.p2; omega, h.sgn⟩
theorem WI.begin {z : Int} (h : z ≠ 0) {b : Int} (hb : b.natAbs = 1) (s : 0 < z ↔ 0 < b) : WI z z.natAbs 2 b := by
  refine ⟨by rw [hb, Nat.one_mul]; exact SqE.refl _, by rw [hb]; exact Sqf.one, by rw [hb]; exact Nat.coprime_one_left _, fun q h1 h2 => by omega, by omega, Nat.le_refl _, by rw [hb]; omega, by decide, s⟩
theorem isq (r : Nat) : Float64.isqrt r * Float64.isqrt r ≤ r ∧ r < (Float64.isqrt r + 1) * (Float64.isqrt r + 1) := Float64.isqrt_spec r
theorem WI.end1 {z : Int} {r p : Nat} {b : Int} (h : WI z r p b) (e : Float64.isqrt r * Float64.isqrt r = r) : Bare z b := by
  have s0 : 0 < Float64.isqrt r := Nat.pos_of_ne_zero fun w => by rw [w] at e; have := h.r0; omega
  refine ⟨h.sqf, h.eqv.trans ?_, h.sgn⟩
  have := SqE.sq b.natAbs s0
  rwa [e] at this
theorem WI.end2 {z : Int} {r p : Nat} {b : Int} (h : WI z r p b) (hp : r < p * p * p) (e : Float64.isqrt r * Float64.isqrt r ≠ r) : Bare z (b * (r : Int)) := by
  have eb : (b * (r : Int)).natAbs = b.natAbs * r := by rw [Int.natAbs_mul, Int.natAbs_natCast]
  refine ⟨by rw [eb]; exact h.sqf.mul (left_sqf h.r0 h.nof hp (isq r) e) h.cop, by rw [eb]; exact h.eqv, h.sgn.trans ⟨fun w => Int.mul_pos w (by have := h.r0; omega), fun w => ?_⟩⟩
  exact Int.pos_of_mul_pos_left w (by have := h.r0; omega)
def sp_bareI : Sp := fun vs H Q _ => ∃ m : Int, vs = [.int m] ∧ m ≠ 0 ∧ m.natAbs < 2 ^ 60 ∧ ∀ b, Bare m b → b.natAbs ≤ m.natAbs → Q (.int b) H
def sp_signI : Sp := fun vs H Q _ => ∃ m : Int, vs = [.int m] ∧ m ≠ 0 ∧ m.natAbs < 2 ^ 60 ∧ ∀ b, Bare m b → b.natAbs ≤ m.natAbs → Q (.int (sgnOf b)) H
section
variable {P : Program} {w : World} {K : PySem.W.Frag} {mg : Str → Option Value} {base : Heap}
theorem ok_bareI (D : Df K mg "without_squares" s_without_squares ["m"]) (B : Bi mg) : Cal P w K mg base 1 "without_squares" sp_bareI := by
  obtain ⟨f, fd, F, m, b⟩ := D.ex
  have sc := sc_without_squares
  refine ⟨f, fd, _, F.ok sc (fun _ _ _ _ ⟨_, e, _⟩ => by rw [e]; rfl) (fun cdv A outer s H vs Q E hr h => ?_), m, F.kp, b⟩
  obtain ⟨z, rfl, hz, hz2, q⟩ := h
  refine ⟨_, (pss_cons (ps_set (i := 1) sc.nd rfl (Or.inl rfl) (pe_callB call_abs (by rfl) B.abs (by decide +kernel) (pa_cons (pv 0) pa_nil)))
      (pss_cons (ps_set (i := 2) sc.nd rfl (Or.inl rfl) (pe_ifExp (pt_cmpR op_gt (pv 0) pe_int (nomark _)) pe_int (pe_un un_neg pe_int)))
      (pss_cons (ps_set (i := 3) sc.nd rfl (Or.inl rfl) pe_int)
      (pss_cons (ps_while PassesOwn.never (pt_cmpR op_le (pe_op op_mulW (pe_op op_mulW (pv 3) (pv 3)) (pv 3)) (pv 1) (nomark _))
      (pss_cons (ps_while PassesOwn.never (pt_cmpR op_eq (pe_op op_mod (pv 1) (pe_op op_mulW (pv 3) (pv 3))) pe_int (nomark _))
        (pss_one (ps_set (i := 1) sc.nd rfl (Or.inl rfl) (pe_op op_fdivW (pv 1) (pe_op op_mulW (pv 3) (pv 3))))))
        (pss_cons (ps_if (pt_cmpR op_eq (pe_op op_mod (pv 1) (pv 3)) pe_int (nomark _))
        (pss_cons (ps_set (i := 1) sc.nd rfl (Or.inl rfl) (pe_op op_fdivW (pv 1) (pv 3)))
          (pss_one (ps_set (i := 2) sc.nd rfl (Or.inl rfl) (pe_op op_mulW (pv 2) (pv 3)))))
        pss_nil)
        (pss_one (ps_aug (i := 3) sc.nd rfl (Or.inl rfl) pe_int ip_add)))))
      (pss_cons (ps_set (i := 4) sc.nd rfl (Or.inl rfl) (pe_callBfun cr_isqrt (by rfl) B.isqrt (pa_cons (pv 1) pa_nil)))
      (pss_one (ps_ret (pe_ifExp (pt_cmpR op_eq (pe_op op_mulW (pv 4) (pv 4)) (pv 1) (nomark _)) (pv 2) (pe_op op_mulW (pv 2) (pv 1)))))))))), ?_⟩
  have ea : (if z < 0 then -z else z) = (z.natAbs : Int) := by split <;> omega
  have u8 : ∀ {a : Nat}, a < 2 ^ 60 → a < 2 ^ 8000 := fun h => Nat.lt_trans h (Nat.pow_lt_pow_right (by decide) (by decide))
  have cm : ∀ {a c : Nat}, a < 2 ^ 60 → c < 2 ^ 60 → CMulW (a : Int) (c : Int) := fun h1 h2 => mul8 (by rw [Int.natAbs_natCast]; exact u8 h1) (by rw [Int.natAbs_natCast]; exact u8 h2)
  have go : ∀ b0 : Int, b0.natAbs = 1 → (0 < z ↔ 0 < b0) → WI z z.natAbs 2 b0 := fun b0 => WI.begin hz
  refine ⟨_, rfl, z, rfl, ?_⟩
  rw [ea]
  dsimp only [gName]
  refine tSeq_join (fun σ H' => H = H' ∧ ∃ b0 : Int, b0.natAbs = 1 ∧ (0 < z ↔ 0 < b0) ∧ σ = [some (.int z), some (.int (z.natAbs : Int)), some (.int b0), none, none]) (fun N hN => ?_) ?_
  · refine ⟨_, rfl, _, _, rfl, rfl, _, rfl, ifD (fun e => ?_) fun e => ⟨_, rfl, ?_⟩⟩
    · exact hN _ _ ⟨rfl, 1, rfl, ⟨fun _ => by decide, fun _ => e⟩, rfl⟩
    · exact hN _ _ ⟨rfl, -1, rfl, ⟨fun k => absurd k e, fun k => absurd k (by decide)⟩, rfl⟩
  rintro _ _ ⟨rfl, b0, hb0, sb0, rfl⟩
  refine while_go (fun σ H' => H = H' ∧ ∃ (r p : Nat) (b : Int), σ = [some (.int z), some (.int (r : Int)), some (.int b), some (.int (p : Int)), none] ∧ WI z r p b ∧ p < 2 ^ 61) (fun σ _ => 2 ^ 60 - m0 3 σ) ⟨rfl, _, 2, b0, rfl, go b0 hb0 sb0, by decide⟩ ?_
  rintro σ _ ⟨rfl, r, p, b, rfl, W, p61⟩
  have W2 := W.p2
  have Wl := W.le
  have r60 : r < 2 ^ 60 := by omega
  have r0 := W.r0
  have p8 : (p : Int).natAbs < 2 ^ 61 := by rw [Int.natAbs_natCast]; exact p61
  have c1 : CMulW (p : Int) (p : Int) := mul8 (Nat.lt_trans p8 (Nat.pow_lt_pow_right (by decide) (by decide))) (Nat.lt_trans p8 (Nat.pow_lt_pow_right (by decide) (by decide)))
  have c2 : CMulW ((p : Int) * (p : Int)) (p : Int) := by
    refine mul8 ?_ (Nat.lt_trans p8 (Nat.pow_lt_pow_right (by decide) (by decide)))
    rw [Int.natAbs_mul]
    exact Nat.lt_of_le_of_lt (Nat.mul_le_mul (Nat.le_of_lt p8) (Nat.le_of_lt p8)) (by decide)
  have ep3 : (p : Int) * (p : Int) * (p : Int) = ((p * p * p : Nat) : Int) := by rw [Int.natCast_mul, Int.natCast_mul]
  have ep2 : (p : Int) * (p : Int) = ((p * p : Nat) : Int) := (Int.natCast_mul p p).symm
  refine ⟨_, rfl, _, rfl, _, _, rfl, rfl, c1, _, rfl, _, _, rfl, rfl, c2, _, rfl, _, _, rfl, rfl, _, rfl, ifD (fun e => ?_) fun e => ?_⟩
  · have e' : p * p * p ≤ r := by
      have e : (p : Int) * (p : Int) * (p : Int) ≤ (r : Int) := e
      rw [ep3] at e
      exact Int.ofNat_le.mp e
    have pl : p ≤ p * p * p := Nat.le_mul_of_pos_left _ (Nat.mul_pos (by omega) (by omega))
    have pp3 : p * p ≤ p * p * p := Nat.le_mul_of_pos_right _ (by omega)
    have pp : 2 ≤ p * p := Nat.le_trans W2 (Nat.le_mul_of_pos_left _ (by omega))
    refine ⟨fun σ' H' => H = H' ∧ ∃ (r' p' : Nat) (b : Int), σ' = [some (.int z), some (.int (r' : Int)), some (.int b), some (.int (p' : Int)), none] ∧ WI z r' p' b ∧ p' = p + 1, ?_, ?_⟩
    · rintro σ' _ ⟨rfl, r', p', b', rfl, W', rfl⟩
      exact ⟨_, (by show 2 ^ 60 - (((p + 1 : Nat) : Int)).toNat < 2 ^ 60 - ((p : Int)).toNat; omega), rfl, rfl, r', _, b', rfl, W', by omega⟩
    refine while_go (fun σ H' => H = H' ∧ ∃ t : Nat, σ = [some (.int z), some (.int (t : Int)), some (.int b), some (.int (p : Int)), none] ∧ WI z t p b) (fun σ _ => m0 1 σ) ⟨rfl, r, rfl, W⟩ ?_
    rintro σ _ ⟨rfl, t, rfl, Wt⟩
    have t0 := Wt.r0
    have tl := Wt.le
    refine ⟨_, rfl, _, rfl, _, rfl, _, _, rfl, rfl, c1, _, _, rfl, rfl, (by show (0 : Int) < (p : Int) * (p : Int); rw [ep2]; omega), rfl, _, rfl, ifI (fun em => ?_) fun em => ?_⟩
    · have em' : t % (p * p) = 0 := by
        rw [ep2] at em
        exact Int.ofNat.inj em
      obtain ⟨W', lt⟩ := Wt.sq em'
      refine ⟨fun σ' H' => H = H' ∧ ∃ t' : Nat, σ' = [some (.int z), some (.int (t' : Int)), some (.int b), some (.int (p : Int)), none] ∧ WI z t' p b ∧ t' < t, ?_, ?_⟩
      · rintro σ' _ ⟨rfl, t', rfl, k1, k2⟩
        exact ⟨_, (by show ((t' : Int)).toNat < ((t : Int)).toNat; omega), rfl, rfl, t', rfl, k1⟩
      refine ⟨_, rfl, _, rfl, _, rfl, _, _, rfl, rfl, c1, _, _, rfl, rfl, ?_, ?_⟩
      · rw [ep2]
        exact wide_div (b := 8000) (by omega) (Nat.lt_trans (by omega : p * p < 2 ^ 60) (Nat.pow_lt_pow_right (by decide) (by decide))) (by decide) (by decide)
      refine ⟨rfl, t / (p * p), ?_, W', lt⟩
      show [some (V.int z), some (V.int ((t : Int) / ((p : Int) * (p : Int)))), some (V.int b), some (V.int (p : Int)), none] = _
      rw [ep2]
      rfl
    · have em' : ¬ t % (p * p) = 0 := fun k => em (by rw [ep2]; exact congrArg Int.ofNat k)
      refine ⟨_, rfl, _, rfl, _, _, rfl, rfl, (by show (0 : Int) < (p : Int); omega), rfl, _, rfl, ifI (fun ez => ?_) fun ez => ?_⟩
      · have ez' : t % p = 0 := Int.ofNat.inj ez
        obtain ⟨W', _⟩ := Wt.step1 em' ez'
        have bl := Wt.bl
        have b60 : b.natAbs < 2 ^ 60 := Nat.lt_of_le_of_lt (Nat.le_trans (Nat.le_mul_of_pos_right _ t0) bl) hz2
        refine ⟨_, rfl, _, rfl, _, _, rfl, rfl, wide_div (b := 8000) (by show (0 : Int) < (p : Int); omega) (Nat.lt_trans p61 (Nat.pow_lt_pow_right (by decide) (by decide))) (by decide) (by decide), ?_⟩
        refine ⟨_, rfl, _, rfl, _, _, rfl, rfl, mul8 (u8 b60) (Nat.lt_trans p8 (Nat.pow_lt_pow_right (by decide) (by decide))), ?_⟩
        refine ⟨_, rfl, _, _, rfl, rfl, ?_⟩
        exact ⟨rfl, t / p, p + 1, _, rfl, W', rfl⟩
      · have ez' : ¬ t % p = 0 := fun k => ez (congrArg Int.ofNat k)
        refine ⟨_, rfl, _, _, rfl, rfl, ?_⟩
        exact ⟨rfl, t, p + 1, b, rfl, Wt.step2 ez', rfl⟩
  · have e' : r < p * p * p := by
      have e : ¬ (p : Int) * (p : Int) * (p : Int) ≤ (r : Int) := e
      rw [ep3] at e
      omega
    have sq := isq r
    have s60 : Float64.isqrt r < 2 ^ 60 := Nat.lt_of_le_of_lt (isqrt_le r) r60
    refine ⟨_, rfl, (r : Int), rfl, by omega, by omega, ?_⟩
    rw [Int.toNat_natCast]
    refine ⟨_, rfl, _, rfl, _, _, rfl, rfl, cm s60 s60, _, rfl, rfl, _, rfl, ifI (fun em => ?_) fun em => ?_⟩
    · refine ⟨_, rfl, q _ (W.end1 ?_) (Nat.le_trans (Nat.le_mul_of_pos_right _ r0) W.bl)⟩
      have em : ((Float64.isqrt r : Nat) : Int) * ((Float64.isqrt r : Nat) : Int) = (r : Int) := em
      rw [← Int.natCast_mul] at em
      exact Int.ofNat.inj em
    · have bl := W.bl
      have b60 : b.natAbs < 2 ^ 60 := Nat.lt_of_le_of_lt (Nat.le_trans (Nat.le_mul_of_pos_right _ r0) bl) hz2
      refine ⟨_, rfl, _, rfl, _, _, rfl, rfl, mul8 (u8 b60) (by rw [Int.natAbs_natCast]; exact u8 r60), q _ (W.end2 e' fun k => em ?_) (by show (b * (r : Int)).natAbs ≤ _; rw [Int.natAbs_mul, Int.natAbs_natCast]; exact bl)⟩
      show ((Float64.isqrt r : Nat) : Int) * ((Float64.isqrt r : Nat) : Int) = (r : Int)
      rw [← Int.natCast_mul, k]
theorem ok_signI (D : Df K mg "any_sign_of" s_any_sign_of ["m"]) (c_without_squares : Cal P w K mg base 1 "without_squares" sp_bareI) : Cal P w K mg base 2 "any_sign_of" sp_signI := by
  obtain ⟨f, fd, F, m, b⟩ := D.ex
  have sc := sc_any_sign_of
  refine ⟨f, fd, _, F.ok sc (fun _ _ _ _ ⟨_, e, _⟩ => by rw [e]; rfl) (fun cdv A outer s H vs Q E hr h => ?_), m, F.kp, b⟩
  obtain ⟨z, rfl, hz, hz2, q⟩ := h
  refine ⟨_, (pss_cons (ps_set (i := 1) sc.nd rfl (Or.inl rfl) (pe_c c_without_squares hr (by decide) (by rfl) (pa_cons (pv 0) pa_nil)))
      (pss_one (ps_ret (pe_ifExp (pt_cmpR op_eq (pe_op op_mod (pv 1) pe_int) pe_int (nomark _)) (pv 1) (pe_op op_mulW pe_int (pv 1)))))), ?_⟩
  refine ⟨_, rfl, z, rfl, hz, hz2, fun b hb hl => ?_⟩
  have hq := q b hb hl
  unfold sgnOf at hq
  dsimp only [gName]
  refine ⟨_, rfl, _, _, rfl, rfl, (by show (0 : Int) < 4; decide), rfl, _, rfl, ifI (fun e => ?_) fun e => ?_⟩
  · rw [if_pos e] at hq
    exact ⟨_, rfl, hq⟩
  · rw [if_neg e] at hq
    refine ⟨_, rfl, _, _, rfl, rfl, mul8 (by decide) (Nat.lt_trans (Nat.lt_of_le_of_lt hl hz2) (Nat.pow_lt_pow_right (by decide) (by decide))), hq⟩
end
end Ft

set_option exponentiation.threshold 9000
namespace Ft
open PySem L2
theorem keys_inl (L : List Pq) : (kvL L).map (·.1) = ((L.map (·.1)).map fun k : Nat => (k : Int)).map Sum.inl := by
  unfold kvL
  rw [List.map_map, List.map_map, List.map_map]
  rfl
theorem nats_of2 {ns : List Int} {L : List Pq} (p : ns.Perm ((L.map (·.1)).map fun k : Nat => (k : Int))) (s : ns.Pairwise (· ≤ ·)) : ∃ ks : List Nat, ns = (ks.map fun k : Nat => (k : Int)) ∧ ks.Perm (L.map (·.1)) ∧ ks.Pairwise (· ≤ ·) := by
  obtain ⟨ks, rfl, pk⟩ := nats_of p
  refine ⟨ks, rfl, pk, ?_⟩
  rw [List.pairwise_map] at s
  exact s.imp fun h => by omega
def sp_lprod : Sp := fun vs H Q _ => ∃ (d l : Addr) (m b h : Nat), vs = [.ref d, .int (m : Int), .int (b : Int), .int (h : Int)] ∧ DeckAt H d l ∧ m ≤ 8 ∧ 1 ≤ b ∧ b ≤ 30 ∧ 1 ≤ h ∧ h ≤ 400 ∧ ∀ (H' : Hp) (r : V) (ps : List Pq), DeckAt H' d l → But d l H H' → PdX H' r ps → PsOk ps → ps.length ≤ m → Q r H'
def sp_ljoin : Sp := fun vs H Q _ => ∃ u v p1 p2, vs = [u, v] ∧ PdX H u p1 ∧ Pd H v p2 ∧ PdOk p1 ∧ PdOk p2 ∧ ∀ H' T ws ds, Same H H' → H' T = some (.tup ws) → PrsAt H' ws ds → ds.Perm ((addAll p1 p2).filter fun e => decide (e.2 ≠ 0)) → (ds.Pairwise fun a b => a.1 < b.1) → ds.length ≤ 16 → Q (.ref T) H'
section
variable {P : Program} {w : World} {K : PySem.W.Frag} {mg : Str → Option Value} {base : Heap}
theorem ok_lprod (D : Df K mg "_law_product" s__law_product ["_law_deck_here", "_law_pairs", "_law_most", "_law_high"]) (B : Bi mg) (c__law_draw : Cal P w K mg base 1 "_law_draw" sp_draw) : Cal P w K mg base 2 "_law_product" sp_lprod := by
  obtain ⟨f, fd, F, m, b⟩ := D.ex
  have sc := sc__law_product
  refine ⟨f, fd, _, F.ok sc (fun _ _ _ _ ⟨_, _, _, _, _, e, _⟩ => by rw [e]; rfl) (fun cdv A outer s H vs Q E hr h => ?_), m, F.kp, b⟩
  obtain ⟨d, l, m, bm, hh, rfl, D0, m8, b1, b2, h1, h2, q⟩ := h
  have hu := hu_of hr
  refine ⟨_, (pss_cons (ps_set (i := 4) sc.nd rfl (Or.inr rfl) (pe_dnewK))
      (pss_cons (ps_for PassesOwn.never rfl (pi_range1 rfl B.range (pa_cons (pv 1) pa_nil)) (pg_name (i := 5) sc.nd rfl (Or.inl rfl))
      (pss_cons (ps_par (i := 6) (j := 7) (by rfl) sc.nd rfl rfl (by decide) rfl rfl (pa_cons (pe_op op_add pe_int (pe_c c__law_draw hr (by decide) (by rfl) (pa_cons (pv 0) (pa_cons (pv 3) pa_nil)))) (pa_cons (pe_op op_add pe_int (pe_c c__law_draw hr (by decide) (by rfl) (pa_cons (pv 0) (pa_cons (pv 2) pa_nil)))) pa_nil)) (by rfl))
        (pss_one (ps_dput hu (pv 4) (pv 6) (pe_op op_mul (pv 7) (pe_op op_sub pe_int (pe_op op_mul pe_int (pe_c c__law_draw hr (by decide) (by rfl) (pa_cons (pv 0) (pa_cons pe_int pa_nil)))))) rfl))))
      (pss_one (ps_ret (pe_callTy call_tupF (by rfl) B.tuple (by decide +kernel) (pa_cons (pe_lc (own := [("_law_d", 6)]) (g := gName 6) (tt := tYes) (by rfl) sc.nd (pi_list (pe_callB (call_sortedDI rfl) (by rfl) B.sorted (by decide +kernel) (pa_cons (pv 4) pa_nil))) (blkOk_by (own := [("_law_d", 6)]) (N := N__law_product) (sc := defScope s__law_product) (by decide +kernel)) (fun _ _ _ _ _ => (pg_name (i := 6) sc.nd rfl (Or.inl rfl))) (fun _ _ _ _ _ => pts_nil) (fun _ _ _ _ _ => (pe_tup (pa_cons (pv 6) (pa_cons (pe_dget hu (pv 4) (pv 6) (fun _ _ => rfl)) pa_nil))))) pa_nil)))))), ?_⟩
  intro md hmd
  have nmd := D0.new hmd
  have s1 : Same H (upd H md (.dK [])) := Same.upd_new hmd
  have m1 : (upd H md (.dK [])) md = some (.dK (kvL [])) := upd_same
  have D1 := D0.same s1
  generalize upd H md (.dK []) = H1 at s1 m1 D1
  dsimp only [gName]
  refine ⟨_, rfl, _, rfl, by omega, by omega, for_range (lo := 0) (n := ((m : Int)).toNat) (fun i σ H' => DeckAt H' d l ∧ But d l H H' ∧ ∃ (L : List Pq) (o5 o6 o7 : Option V), σ = [some (.ref d), some (.int (m : Int)), some (.int (bm : Int)), some (.int (hh : Int)), some (.ref md), o5, o6, o7] ∧ H' md = some (.dK (kvL L)) ∧ Nk L ∧ L.length ≤ i ∧ ∀ e ∈ L, 1 ≤ e.1 ∧ e.1 ≤ 400 ∧ e.2.natAbs ≤ 30 ∧ e.2 ≠ 0) ⟨D1, But.of s1, [], none, none, none, rfl, m1, .nil, Nat.le_refl _, fun e he => by cases he⟩ ?_ ?_⟩
  · rintro i σ H5 hi ⟨D5, b5, L, o5, o6, o7, rfl, m5, nk, hL, rng⟩
    rw [Int.toNat_natCast] at hi
    dsimp only [gName]
    refine ⟨_, rfl, _, rfl, d, l, (hh : Int), rfl, D5, by omega, by omega, fun H8 r1 D8 b8 r10 r11 => ⟨_, _, rfl, rfl, ?_⟩⟩
    obtain ⟨k, hk, k1, k2⟩ : ∃ k : Nat, 1 + r1 = (k : Int) ∧ 1 ≤ k ∧ k ≤ 400 := ⟨(1 + r1).toNat, by omega, by omega, by omega⟩
    have m8' := b8 _ _ m5 nmd.1 nmd.2
    refine ⟨_, rfl, _, rfl, d, l, (bm : Int), rfl, D8, by omega, by omega, fun H9 r2 D9 b9 r20 r21 => ⟨_, _, rfl, rfl, ?_⟩⟩
    have m9 := b9 _ _ m8' nmd.1 nmd.2
    refine ⟨_, _, rfl, ?_⟩
    dsimp only [gName]
    rw [hk]
    refine ⟨_, rfl, _, rfl, d, l, 2, rfl, D9, by decide, by decide, fun H10 r3 D10 b10 r30 r31 => ⟨_, _, rfl, rfl, .inl ⟨by decide, by decide⟩, _, _, rfl, rfl, _, _, rfl, rfl, .inl ⟨by omega, by omega⟩, ?_⟩⟩
    have m10 := b10 _ _ m9 nmd.1 nmd.2
    have b010 := b5.trans (b8.trans (b9.trans b10))
    obtain ⟨r, hr0, hr1, hr2⟩ : ∃ r : Int, (1 + r2) * (1 - 2 * r3) = r ∧ r.natAbs ≤ 30 ∧ r ≠ 0 := by
      refine ⟨_, rfl, ?_⟩
      obtain h | h : r3 = 0 ∨ r3 = 1 := by omega
      · rw [h, show (1 : Int) - 2 * 0 = 1 from rfl, Int.mul_one]; omega
      · rw [h, show (1 : Int) - 2 * 1 = -1 from rfl]; omega
    dsimp only
    rw [hr0]
    have lk : (kvL L).length ≤ 100 := by unfold kvL; rw [List.length_map]; omega
    refine ⟨_, rfl, _, rfl, md, _, rfl, DPut.k (k := Sum.inl (k : Int)) m10 (Nat.lt_of_le_of_lt lk (by decide)), ?_⟩
    rw [putK_kvL]
    refine ⟨?_, fun b o h n1 n2 => ?_, putP L k r, _, _, _, rfl, upd_same, put_nk nk, Nat.le_trans (put_len _ _ _) (by omega), fun e he => ?_⟩
    · obtain ⟨mx, dr, cs, e1, e2, e3⟩ := D10
      exact ⟨mx, dr, cs, by rw [upd_ne nmd.1.symm]; exact e1, by rw [upd_ne nmd.2.symm]; exact e2, e3⟩
    · rw [upd_ne (ne_of_none h hmd)]
      exact b010 _ _ h n1 n2
    · rcases put_mem he with h | h
      · exact rng e h
      · rw [h]; exact ⟨k1, k2, hr1, hr2⟩
  · rintro σ H5 ⟨D5, b5, L, o5, o6, o7, rfl, m5, nk, hL, rng⟩
    rw [Int.toNat_natCast] at hL
    have l8 : L.length ≤ 8 := by omega
    refine ⟨_, rfl, md, _, (L.map (·.1)).map fun k : Nat => (k : Int), rfl, .inl m5, keys_inl L, by rw [List.length_map, List.length_map]; omega, fun ys q2 pm so hq2 => ?_⟩
    obtain ⟨ks, rfl, pk, so2⟩ := nats_of2 pm so
    have pok := pick_ok nk l8 rng pk so2
    have pl : (pickP L ks).length ≤ m := by rw [(pick_perm nk pk).length_eq]; omega
    have hget : ∀ k ∈ ks, ∃ r, getP L k = some r := fun k hk => by
      obtain ⟨e, he, rfl⟩ := List.mem_map.mp (pk.mem_iff.mp hk)
      exact ⟨_, getP_of nk he⟩
    have s7 : Same H5 (upd H5 q2 (.lst ((ks.map fun k : Nat => (k : Int)).map V.int))) := Same.upd_new hq2
    have h7 : (upd H5 q2 (.lst ((ks.map fun k : Nat => (k : Int)).map V.int))) q2 = some (.lst ((ks.map fun k : Nat => (k : Int)).map V.int)) := upd_same
    have m7 := s7 _ _ m5
    generalize upd H5 q2 (.lst ((ks.map fun k : Nat => (k : Int)).map V.int)) = H7 at s7 h7 m7
    have lks : ks.length ≤ 8 := by rw [pk.length_eq, List.length_map]; exact l8
    refine ⟨q2, rfl, ⟨_, SqL.of h7⟩, fun C1 hC1 => ?_⟩
    refine lc_list (K := K) (a := q2) (xs := (ks.map fun k : Nat => (k : Int)).map V.int) (fun i H' => Same H7 H' ∧ ∃ ws : List V, H' C1 = some (.lst ws) ∧ PrsAt H' ws (pickP L (ks.take i))) ⟨Same.upd_new hC1, [], upd_same, rfl, fun i u e a => by cases a⟩ (fun i H' _ ⟨z, _⟩ => SqL.of (z _ _ h7)) ?_ ?_
    · rintro i x H8 hx ⟨s8, ws, hws, tws⟩
      obtain ⟨k, hk, rfl⟩ : ∃ k, ks[i]? = some k ∧ x = V.int (k : Int) := by
        rw [List.getElem?_map, List.getElem?_map] at hx
        cases e : ks[i]? with
        | none => rw [e] at hx; cases hx
        | some z => rw [e] at hx; exact ⟨z, rfl, (Option.some.inj hx).symm⟩
      obtain ⟨r, hr0⟩ := hget k (List.mem_of_getElem? hk)
      have hv : valV (kvL L) (.inl (k : Int)) = some (V.int r) := by rw [valV_kvL, hr0]; rfl
      have htk : pickP L (ks.take (i + 1)) = pickP L (ks.take i) ++ [(k, r)] := by
        unfold pickP
        rw [List.take_add_one, hk, List.map_append]
        show _ ++ [(k, (getP L k).getD 0)] = _
        rw [hr0]
        rfl
      have m8 := s8 _ _ m7
      dsimp only [gName]
      have dg : DGet H8 md (kV (Sum.inl (k : Int))) (some (V.int r)) := by rw [← hv]; exact DGet.k m8
      refine ⟨rfl, _, rfl, _, rfl, _, rfl, md, _, rfl, dg, (by show (2 : Nat) ≤ sizeLine; decide), fun T hT => ?_⟩
      have s9 : Same H8 (upd H8 T (.tup [V.int (k : Int), V.int r])) := Same.upd_new hT
      have hws9 := s9 _ _ hws
      have lw : ws.length ≤ 8 := by
        rw [tws.len]
        unfold pickP
        rw [List.length_map, List.length_take]
        omega
      refine ⟨ws, hws9, Nat.lt_of_le_of_lt lw (by decide), fun b o e => ?_, _, upd_same, ?_⟩
      · rw [upd_ne (ne_of_none e hC1)]
        exact s9 _ _ (s8 _ _ e)
      · rw [htk]
        exact PrsAt.snoc ((tws.same s9).upd hws9) (PrA.upd hws9 ⟨T, rfl, upd_same⟩)
    · rintro H8 ⟨s8, ws, hws, tws⟩
      rw [List.length_map, List.length_map, List.take_length] at tws
      refine ⟨C1, ws, rfl, hws, fun T ob pl0 hT => ?_⟩
      have sA := s7.trans (s8.trans (Same.upd_new (o := .frz ob (.tup ws)) hT))
      exact q _ _ (pickP L ks) (D5.same sA) (b5.trans (But.of sA)) ⟨T, ob, ws, rfl, upd_same, pl0, tws.same (Same.upd_new hT)⟩ pok pl
end
end Ft

set_option exponentiation.threshold 9000
namespace Ft
open PySem L2
structure SgnOk (s : Int) : Prop where
  ex : ∃ b : Int, Sqf b.natAbs ∧ s = sgnOf b
  le : s.natAbs ≤ 400
theorem SgnOk.nz {s : Int} (h : SgnOk s) : s ≠ 0 := by
  obtain ⟨b, hb, rfl⟩ := h.ex
  have := hb.pos
  unfold sgnOf
  split <;> omega
theorem SgnOk.same {s b : Int} (h : SgnOk s) (k : Bare s b) : sgnOf b = s := by
  obtain ⟨c, hc, rfl⟩ := h.ex
  rw [bare_uniq k (sgn_eqv hc) (SqE.refl _) Iff.rfl]
def oddP (ps : List Pq) : Nat := ps.foldl (fun a e => if e.2 % 2 = 1 then a * e.1 else a) 1
def mOf (ps : List Pq) : Int := (if (sumR ps / 2) % 2 = 0 then 1 else -1) * ((oddP ps : Nat) : Int)
def comP (ps : List Pq) : Nat := (ps.map (·.1)).foldl Nat.lcm 1
def sumF (N : Nat) (ps : List Pq) : Int := wsum (fun d => ((N / d : Nat) : Int)) ps
def lvP (ps : List Pq) : Nat := lvl (comP ps) (sumF (comP ps) ps)
structure Fit (N : Nat) (ps : List Pq) : Prop where
  ok : PdOk ps
  dv : ∀ e ∈ ps, N % e.1 = 0
  w : sumR ps % 2 = 0
  s : sumD ps % 24 = 0
  f : sumF N ps % 24 = 0
theorem Fit.all {N : Nat} {ps : List Pq} (h : Fit N ps) : allD N ps = true := List.all_eq_true.mpr fun e he => decide_eq_true (h.dv e he)
def sp_isSignI : Sp := fun vs H Q _ => ∃ s : Int, vs = [.int s] ∧ SgnOk s ∧ Q (.bl true) H
def sp_chkSignI : Sp := fun vs H Q _ => ∃ s : Int, vs = [.int s] ∧ SgnOk s ∧ Q .non H
def sp_joinI : Sp := fun vs H Q _ => ∃ s t : Int, vs = [.int s, .int t] ∧ SgnOk s ∧ SgnOk t ∧ ∀ b, Bare (s * t) b → Q (.int (sgnOf b)) H
def sp_common : Sp := fun vs H Q _ => ∃ (p : Addr) (bs : List Nat) (M : Nat), vs = [.ref p] ∧ H p = some (.lst (bs.map fun b : Nat => V.int (b : Int))) ∧ 0 < M ∧ M < 2 ^ 60 ∧ (∀ b ∈ bs, b ∣ M) ∧ Q (.int ((bs.foldl Nat.lcm 1 : Nat) : Int)) H
def sp_isWhole : Sp := fun vs H Q _ => ∃ v ps, vs = [v] ∧ Pd H v ps ∧ PdOk ps ∧ sumR ps % 2 = 0 ∧ sumD ps % 24 = 0 ∧ ∀ H', Same H H' → Q (.bl true) H'
def sp_fit : Sp := fun vs H Q _ => ∃ v ps N, vs = [v, .int ((N : Nat) : Int)] ∧ Pd H v ps ∧ 1 ≤ N ∧ N ≤ 400 ∧ Fit N ps ∧ ∀ H', Same H H' → Q (.bl true) H'
def sp_plevel : Sp := fun vs H Q _ => ∃ v ps N, vs = [v] ∧ Pd H v ps ∧ 1 ≤ N ∧ N ≤ 400 ∧ Fit N ps ∧ ∀ H', Same H H' → Q (.int ((lvP ps : Nat) : Int)) H'
def sp_psign : Sp := fun vs H Q _ => ∃ v ps, vs = [v] ∧ Pd H v ps ∧ PdOk ps ∧ sumR ps % 2 = 0 ∧ sumD ps % 24 = 0 ∧ (∀ e ∈ ps, e.1 ≤ 144) ∧ ∀ H' b, Same H H' → Bare (mOf ps) b → Q (.int (sgnOf b)) H'
theorem lcm_fold_dvd (f : Nat → Nat) : ∀ (l : List Nat) (a : Nat), a ∣ l.foldl (fun a c => Nat.lcm a (f c)) a ∧ ∀ c ∈ l, f c ∣ l.foldl (fun a c => Nat.lcm a (f c)) a
  | [], a => ⟨Nat.dvd_refl _, fun c h => by cases h⟩
  | x :: l, a => by
    obtain ⟨h1, h2⟩ := lcm_fold_dvd f l (Nat.lcm a (f x))
    refine ⟨Nat.dvd_trans (Nat.dvd_lcm_left _ _) h1, fun c hc => ?_⟩
    rcases List.mem_cons.mp hc with rfl | hc
    · exact Nat.dvd_trans (Nat.dvd_lcm_right _ _) h1
    · exact h2 c hc
theorem lcm_fold_le (f : Nat → Nat) {M : Nat} : ∀ (l : List Nat) (a : Nat), a ∣ M → (∀ c ∈ l, f c ∣ M) → l.foldl (fun a c => Nat.lcm a (f c)) a ∣ M
  | [], a, h, _ => h
  | x :: l, a, h, k => lcm_fold_le f l _ (Nat.lcm_dvd h (k x List.mem_cons_self)) fun c hc => k c (List.mem_cons_of_mem _ hc)
theorem com_dvd {ps : List Pq} {M : Nat} (h : ∀ e ∈ ps, e.1 ∣ M) : comP ps ∣ M := lcm_fold_le id _ 1 (Nat.one_dvd M) fun c hc => by
  obtain ⟨e, he, rfl⟩ := List.mem_map.mp hc
  exact h e he
theorem dvd_com {ps : List Pq} {e : Pq} (h : e ∈ ps) : e.1 ∣ comP ps := (lcm_fold_dvd id (ps.map fun x : Pq => x.1) 1).2 e.1 (List.mem_map.mpr ⟨e, h, rfl⟩)
theorem com_pos {N : Nat} {ps : List Pq} (N1 : 1 ≤ N) (h : ∀ e ∈ ps, N % e.1 = 0) : 0 < comP ps ∧ comP ps ≤ N := by
  have d := com_dvd fun e he => Nat.dvd_of_mod_eq_zero (h e he)
  exact ⟨Nat.pos_of_dvd_of_pos d N1, Nat.le_of_dvd N1 d⟩
theorem odd_snoc (ps : List Pq) (e : Pq) : oddP (ps ++ [e]) = if e.2 % 2 = 1 then oddP ps * e.1 else oddP ps := by
  unfold oddP
  rw [List.foldl_append]
  rfl
theorem odd_le {B : Nat} (B1 : 1 ≤ B) : ∀ (n : Nat) (ps : List Pq), ps.length = n → (∀ e ∈ ps, 1 ≤ e.1 ∧ e.1 ≤ B) → 0 < oddP ps ∧ oddP ps ≤ B ^ n
  | 0, ps, h, _ => by
    rw [List.eq_nil_of_length_eq_zero h]
    exact ⟨by decide, Nat.le_refl _⟩
  | n + 1, ps, h, k => by
    have ne : ps ≠ [] := fun e => by rw [e] at h; cases h
    have e := List.dropLast_concat_getLast ne
    rw [← e] at h k ⊢
    have hl : ps.dropLast.length = n := by rw [List.length_append] at h; simpa using h
    obtain ⟨a, b⟩ := odd_le B1 n ps.dropLast hl fun x hx => k x (List.mem_append_left _ hx)
    have k1 := k (ps.getLast ne) (List.mem_append_right _ List.mem_cons_self)
    rw [odd_snoc, Nat.pow_succ]
    split
    · exact ⟨Nat.mul_pos a k1.1, Nat.mul_le_mul b k1.2⟩
    · exact ⟨a, Nat.le_trans b (Nat.le_mul_of_pos_right _ B1)⟩
section
variable {P : Program} {w : World} {K : PySem.W.Frag} {mg : Str → Option Value} {base : Heap}
theorem ok_isSignI (D : Df K mg "is_sign" s_is_sign ["thing"]) (c_is_between : Cal P w K mg base 2 "is_between" sp_is_between) (c_any_sign_of : Cal P w K mg base 2 "any_sign_of" sp_signI) : Cal P w K mg base 3 "is_sign" sp_isSignI := by
  obtain ⟨f, fd, F, m, b⟩ := D.ex
  have sc := sc_is_sign
  refine ⟨f, fd, _, F.ok sc (fun _ _ _ _ ⟨_, e, _⟩ => by rw [e]; rfl) (fun cdv A outer s H vs Q E hr h => ?_), m, F.kp, b⟩
  obtain ⟨z, rfl, hz, q⟩ := h
  refine ⟨_, (pss_one (ps_ret (pe_and (pe_c c_is_between hr (by decide) (by rfl) (pa_cons (pv 0) (pa_cons (pe_un un_neg pe_int) (pa_cons pe_int pa_nil)))) (pe_and (pe_cmpR op_ne (pv 0) pe_int (nomark _)) (pe_one (pe_cmpR op_eq (pe_c c_any_sign_of hr (by decide) (by rfl) (pa_cons (pv 0) pa_nil)) (pv 0) (nomark _))))))), ?_⟩
  have nz := hz.nz
  have le := hz.le
  refine ⟨_, rfl, _, rfl, z, -400, 400, rfl, trivial, ?_⟩
  dsimp only
  rw [decide_eq_true (show (-400 : Int) ≤ z by omega), decide_eq_true (show z ≤ 400 by omega)]
  refine ⟨true, rfl, iteT ?_⟩
  refine ⟨_, rfl, rfl, _, rfl, ifNI (fun _ => ?_) fun e => absurd e nz⟩
  refine ⟨_, rfl, z, rfl, nz, Nat.lt_of_le_of_lt le (by decide), fun b hb _ => ?_⟩
  rw [hz.same hb]
  refine ⟨_, rfl, rfl, ?_⟩
  rw [decide_eq_true rfl]
  exact q
theorem ok_common (D : Df K mg "common_multiple" s_common_multiple ["integers"]) (B : Bi mg) : Cal P w K mg base 1 "common_multiple" sp_common := by
  obtain ⟨f, fd, F, m, b⟩ := D.ex
  have sc := sc_common_multiple
  refine ⟨f, fd, _, F.ok sc (fun _ _ _ _ ⟨_, _, _, e, _⟩ => by rw [e]; rfl) (fun cdv A outer s H vs Q E hr h => ?_), m, F.kp, b⟩
  obtain ⟨p, bs, M, rfl, hp, M0, M1, hd, q⟩ := h
  refine ⟨_, (pss_cons (ps_set (i := 1) sc.nd rfl (Or.inl rfl) pe_int)
      (pss_cons (ps_for PassesOwn.never rfl (pi_list (pv 0)) (pg_name (i := 2) sc.nd rfl (Or.inl rfl))
      (pss_one (ps_set (i := 1) sc.nd rfl (Or.inl rfl) (pe_callBfun cr_lcm (by rfl) B.lcm (pa_cons (pv 1) (pa_cons (pv 2) pa_nil))))))
      (pss_one (ps_ret (pv 1))))), ?_⟩
  refine ⟨_, rfl, p, rfl, ⟨_, SqL.of hp⟩, for_list (K := K) (a := p) (xs := bs.map fun b : Nat => V.int (b : Int)) (fun i σ H' => H' = H ∧ ∃ o2 : Option V, σ = [some (.ref p), some (.int (((bs.take i).foldl Nat.lcm 1 : Nat) : Int)), o2]) ⟨rfl, none, rfl⟩ (fun i σ H' _ ⟨z, _⟩ => SqL.of (by rw [z]; exact hp)) ?_ ?_⟩
  · rintro i x σ _ hx ⟨rfl, o2, rfl⟩
    obtain ⟨c, hc, rfl⟩ : ∃ c, bs[i]? = some c ∧ x = V.int (c : Int) := by
      rw [List.getElem?_map] at hx
      cases e : bs[i]? with
      | none => rw [e] at hx; cases hx
      | some z => rw [e] at hx; exact ⟨z, rfl, (Option.some.inj hx).symm⟩
    have d1 : (bs.take i).foldl Nat.lcm 1 ∣ M := by
      have := lcm_fold_le id (bs.take i) 1 (Nat.one_dvd M) fun c hc => hd c (List.mem_of_mem_take hc)
      exact this
    have l1 := Nat.le_of_dvd M0 d1
    have l2 := Nat.le_of_dvd M0 (hd c (List.mem_of_getElem? hc))
    dsimp only [gName]
    refine ⟨_, rfl, _, rfl, _, _, rfl, by omega, by omega, ?_⟩
    refine ⟨rfl, some (.int (c : Int)), ?_⟩
    rw [List.take_add_one, hc, List.foldl_append]
    rfl
  · rintro σ _ ⟨rfl, o2, rfl⟩
    rw [List.length_map, List.take_length]
    exact ⟨_, rfl, q⟩
theorem mulE {e : Pq} (h : 1 ≤ e.1 ∧ e.1 ≤ 400 ∧ e.2.natAbs ≤ 48 ∧ e.2 ≠ 0) : CMulW (e.1 : Int) e.2 := mul8 (by rw [Int.natAbs_natCast]; exact Nat.lt_of_le_of_lt h.2.1 (by decide)) (Nat.lt_of_le_of_lt h.2.2.1 (by decide))
theorem ok_isWhole (D : Df K mg "is_whole" s_is_whole ["product"]) (B : Bi mg) : Cal P w K mg base 1 "is_whole" sp_isWhole := by
  obtain ⟨f, fd, F, m, b⟩ := D.ex
  have sc := sc_is_whole
  refine ⟨f, fd, _, F.ok sc (fun _ _ _ _ ⟨_, _, e, _⟩ => by rw [e]; rfl) (fun cdv A outer s H vs Q E hr h => ?_), m, F.kp, b⟩
  obtain ⟨v, ps, rfl, ⟨p, us, rfl, hp, hus⟩, ok, hw, hs, q⟩ := h
  refine ⟨_, (pss_one (ps_ret (pe_and (pe_cmpR op_eq (pe_op op_mod (pe_callB (id := "sum") (r := rSum K) (cr_sum rfl) (by rfl) B.sum (by decide +kernel) (pa_cons (pe_lc (own := [("d", 1), ("r", 2)]) (g := gTup K 2 (gCons (gName 1) (gCons (gName 2) gNil))) (tt := tYes) (by rfl) sc.nd (pi_tup (pv 0)) (blkOk_by (own := [("d", 1), ("r", 2)]) (N := N_is_whole) (sc := defScope s_is_whole) (by decide +kernel)) (fun _ _ _ _ _ => (pg_tup rfl (pgs_cons (pg_name (i := 1) sc.nd rfl (Or.inl rfl) (Or.inr rfl)) (pgs_cons (pg_name (i := 2) sc.nd rfl (Or.inl rfl) (Or.inr rfl)) pgs_nil)))) (fun _ _ _ _ _ => pts_nil) (fun _ _ _ _ _ => (pv 2))) pa_nil)) pe_int) pe_int (nomark _)) (pe_one (pe_cmpR op_eq (pe_op op_mod (pe_callB (id := "sum") (r := rSum K) (cr_sum rfl) (by rfl) B.sum (by decide +kernel) (pa_cons (pe_lc (own := [("d", 1), ("r", 2)]) (g := gTup K 2 (gCons (gName 1) (gCons (gName 2) gNil))) (tt := tYes) (by rfl) sc.nd (pi_tup (pv 0)) (blkOk_by (own := [("d", 1), ("r", 2)]) (N := N_is_whole) (sc := defScope s_is_whole) (by decide +kernel)) (fun _ _ _ _ _ => (pg_tup rfl (pgs_cons (pg_name (i := 1) sc.nd rfl (Or.inl rfl) (Or.inr rfl)) (pgs_cons (pg_name (i := 2) sc.nd rfl (Or.inl rfl) (Or.inr rfl)) pgs_nil)))) (fun _ _ _ _ _ => pts_nil) (fun _ _ _ _ _ => (pe_op op_mulW (pv 1) (pv 2)))) pa_nil)) pe_int) pe_int (nomark _)))))), ?_⟩
  have lu := hus.len
  have l8 := ok.len
  refine ⟨_, rfl, p, rfl, ⟨_, .inl (hp)⟩, fun D1 hD1 => ?_⟩
  refine lc_tup (K := K) (a := p) (xs := us) (fun i H' => Same H H' ∧ H' D1 = some (.lst (((ps.take i).map (fun e => e.2)).map V.int))) ⟨Same.upd_new hD1, upd_same⟩ (fun i H' _ ⟨z, _⟩ => .inl (rds z (hp))) ?_ ?_
  · rintro i x H1 hx ⟨s1, h1⟩
    obtain ⟨e, he, t, rfl, ht⟩ := (hus).get hx
    have hem := List.mem_of_getElem? he
    have er := ok.rng e hem
    refine ⟨t, _, rfl, SqT.of (s1 _ _ ht), rfl, _, _, rfl, _, _, rfl, rfl, rfl, ?_⟩
    refine ⟨_, rfl, ?_⟩
    refine ⟨_, h1, ?_, fun b o e => ?_, ?_⟩
    · rw [List.length_map, List.length_map, List.length_take]
      exact Nat.lt_of_le_of_lt (by omega : _ ≤ 8) (by decide)
    · rw [upd_ne (ne_of_none e hD1)]
      exact s1 _ _ e
    · rw [upd_same, List.take_add_one, he, List.map_append, List.map_append]
      rfl
  rintro H1 ⟨s1, h1⟩
  rw [lu, List.take_length] at h1
  refine ⟨D1, _, rfl, SqL.of h1, ?_⟩
  refine ⟨_, _, rfl, rfl, (by show (0 : Int) < 2; decide), rfl, _, rfl, ifI (fun _ => ?_) fun e => absurd hw e⟩
  refine ⟨_, rfl, p, rfl, ⟨_, .inl (rds s1 hp)⟩, fun D2 hD2 => ?_⟩
  refine lc_tup (K := K) (a := p) (xs := us) (fun i H' => Same H1 H' ∧ H' D2 = some (.lst (((ps.take i).map (fun e => (e.1 : Int) * e.2)).map V.int))) ⟨Same.upd_new hD2, upd_same⟩ (fun i H' _ ⟨z, _⟩ => .inl (rds z (rds s1 hp))) ?_ ?_
  · rintro i x H2 hx ⟨s2, h2⟩
    obtain ⟨e, he, t, rfl, ht⟩ := (hus.same s1).get hx
    have hem := List.mem_of_getElem? he
    have er := ok.rng e hem
    refine ⟨t, _, rfl, SqT.of (s2 _ _ ht), rfl, _, _, rfl, _, _, rfl, rfl, rfl, ?_⟩
    refine ⟨_, rfl, _, rfl, _, _, rfl, rfl, mulE er, ?_⟩
    refine ⟨_, h2, ?_, fun b o e => ?_, ?_⟩
    · rw [List.length_map, List.length_map, List.length_take]
      exact Nat.lt_of_le_of_lt (by omega : _ ≤ 8) (by decide)
    · rw [upd_ne (ne_of_none e hD2)]
      exact s2 _ _ e
    · rw [upd_same, List.take_add_one, he, List.map_append, List.map_append]
      rfl
  rintro H2 ⟨s2, h2⟩
  rw [lu, List.take_length] at h2
  refine ⟨D2, _, rfl, SqL.of h2, ?_⟩
  refine ⟨_, _, rfl, rfl, (by show (0 : Int) < 24; decide), rfl, ?_⟩
  have e0 : decide ((fun i j : Int => V.int (i % j)) ((ps.map fun e => (e.1 : Int) * e.2).sum) 24 = V.int 0) = true := decide_eq_true (congrArg V.int hs)
  rw [e0]
  exact q _ (s1.trans s2)
theorem ok_fit (D : Df K mg "does_fit" s_does_fit ["product", "level"]) (B : Bi mg) (c_check_product : Cal P w K mg base 6 "check_product" sp_checkProd) (c_check_level : Cal P w K mg base 3 "check_level" sp_level) (c_does_all_divide : Cal P w K mg base 1 "does_all_divide" sp_allDiv) (c_is_whole : Cal P w K mg base 1 "is_whole" sp_isWhole) : Cal P w K mg base 7 "does_fit" sp_fit := by
  obtain ⟨f, fd, F, m, b⟩ := D.ex
  have sc := sc_does_fit
  refine ⟨f, fd, _, F.ok sc (fun _ _ _ _ ⟨_, _, _, e, _⟩ => by rw [e]; rfl) (fun cdv A outer s H vs Q E hr h => ?_), m, F.kp, b⟩
  obtain ⟨v, ps, N, rfl, hv, N1, N4, hf, q⟩ := h
  refine ⟨_, (pss_cons (ps_expr (pe_c c_check_product hr (by decide) (by rfl) (pa_cons (pv 0) pa_nil)))
      (pss_cons (ps_expr (pe_c c_check_level hr (by decide) (by rfl) (pa_cons (pv 1) pa_nil)))
      (pss_cons (ps_if (PW.pt (pw_or (pt_not (pt_val (pe_c c_is_whole hr (by decide) (by rfl) (pa_cons (pv 0) pa_nil)))) (pw_or1 (pt_not (pt_val (pe_c c_does_all_divide hr (by decide) (by rfl) (pa_cons (pv 0) (pa_cons (pv 1) pa_nil))))))))
      (pss_one (ps_ret pe_bl))
      pss_nil)
      (pss_one (ps_ret (pe_cmpR op_eq (pe_op op_mod (pe_callB (id := "sum") (r := rSum K) (cr_sum rfl) (by rfl) B.sum (by decide +kernel) (pa_cons (pe_lc (own := [("d", 2), ("r", 3)]) (g := gTup K 2 (gCons (gName 2) (gCons (gName 3) gNil))) (tt := tYes) (by rfl) sc.nd (pi_tup (pv 0)) (blkOk_by (own := [("d", 2), ("r", 3)]) (N := N_does_fit) (sc := defScope s_does_fit) (by decide +kernel)) (fun _ _ _ _ _ => (pg_tup rfl (pgs_cons (pg_name (i := 2) sc.nd rfl (Or.inl rfl) (Or.inr rfl)) (pgs_cons (pg_name (i := 3) sc.nd rfl (Or.inl rfl) (Or.inr rfl)) pgs_nil)))) (fun _ _ _ _ _ => pts_nil) (fun _ _ _ _ _ => (pe_op op_mulW (pe_op op_fdivW (pv 1) (pv 2)) (pv 3)))) pa_nil)) pe_int) pe_int (nomark _))))))), ?_⟩
  have ok := hf.ok
  refine ⟨_, rfl, v, ps, rfl, hv, ok, fun H1 s1 => ?_⟩
  refine ⟨_, rfl, N, rfl, N1, N4, ?_⟩
  refine ⟨_, rfl, v, ps, rfl, hv.same s1, ok, hf.w, hf.s, fun H2 s2 => ⟨true, rfl, iteF ?_⟩⟩
  refine ⟨_, rfl, _, rfl, v, ps, N, rfl, hv.same (s1.trans s2), ok, fun H3 s3 => ?_⟩
  rw [hf.all]
  refine ⟨true, rfl, iteF ?_⟩
  dsimp only [tNext]
  have s03 := s1.trans (s2.trans s3)
  obtain ⟨p, us, rfl, hp, hus⟩ := hv.same s03
  have lu := hus.len
  have l8 := ok.len
  refine ⟨_, rfl, p, rfl, ⟨_, .inl (hp)⟩, fun D4 hD4 => ?_⟩
  refine lc_tup (K := K) (a := p) (xs := us) (fun i H' => Same H3 H' ∧ H' D4 = some (.lst (((ps.take i).map (fun e => ((N / e.1 : Nat) : Int) * e.2)).map V.int))) ⟨Same.upd_new hD4, upd_same⟩ (fun i H' _ ⟨z, _⟩ => .inl (rds z (hp))) ?_ ?_
  · rintro i x H4 hx ⟨s4, h4⟩
    obtain ⟨e, he, t, rfl, ht⟩ := (hus).get hx
    have hem := List.mem_of_getElem? he
    have er := ok.rng e hem
    refine ⟨t, _, rfl, SqT.of (s4 _ _ ht), rfl, _, _, rfl, _, _, rfl, rfl, rfl, ?_⟩
    refine ⟨_, rfl, _, rfl, _, _, rfl, rfl, wide_div (b := 8000) (by show (0 : Int) < (e.1 : Int); omega) (Nat.lt_of_le_of_lt er.2.1 (by decide)) (by decide) (by decide), ?_⟩
    dsimp only
    rw [show (N : Int) / (e.1 : Int) = ((N / e.1 : Nat) : Int) from (Int.natCast_ediv N e.1).symm]
    refine ⟨_, rfl, _, _, rfl, rfl, mul8 (by rw [Int.natAbs_natCast]; exact Nat.lt_of_le_of_lt (Nat.le_trans (Nat.div_le_self _ _) N4) (by decide)) (Nat.lt_of_le_of_lt er.2.2.1 (by decide)), ?_⟩
    refine ⟨_, h4, ?_, fun b o e => ?_, ?_⟩
    · rw [List.length_map, List.length_map, List.length_take]
      exact Nat.lt_of_le_of_lt (by omega : _ ≤ 8) (by decide)
    · rw [upd_ne (ne_of_none e hD4)]
      exact s4 _ _ e
    · rw [upd_same, List.take_add_one, he, List.map_append, List.map_append]
      rfl
  rintro H4 ⟨s4, h4⟩
  rw [lu, List.take_length] at h4
  refine ⟨D4, _, rfl, SqL.of h4, ?_⟩
  refine ⟨_, _, rfl, rfl, (by show (0 : Int) < 24; decide), rfl, ?_⟩
  have e0 : decide ((fun i j : Int => V.int (i % j)) ((ps.map fun e => ((N / e.1 : Nat) : Int) * e.2).sum) 24 = V.int 0) = true := decide_eq_true (congrArg V.int hf.f)
  rw [e0]
  exact q _ (s03.trans s4)
theorem ok_plevel (D : Df K mg "product_level" s_product_level ["product"]) (B : Bi mg) (c_check_product : Cal P w K mg base 6 "check_product" sp_checkProd) (c_is_whole : Cal P w K mg base 1 "is_whole" sp_isWhole) (c_common_multiple : Cal P w K mg base 1 "common_multiple" sp_common) : Cal P w K mg base 7 "product_level" sp_plevel := by
  obtain ⟨f, fd, F, m, b⟩ := D.ex
  have sc := sc_product_level
  refine ⟨f, fd, _, F.ok sc (fun _ _ _ _ ⟨_, _, _, e, _⟩ => by rw [e]; rfl) (fun cdv A outer s H vs Q E hr h => ?_), m, F.kp, b⟩
  obtain ⟨v, ps, N, rfl, hv, N1, N4, hf, q⟩ := h
  refine ⟨_, (pss_cons (ps_expr (pe_c c_check_product hr (by decide) (by rfl) (pa_cons (pv 0) pa_nil)))
      (pss_cons (ps_if (pt_not (pt_val (pe_c c_is_whole hr (by decide) (by rfl) (pa_cons (pv 0) pa_nil))))
      (pss_one (ps_ret pe_non))
      pss_nil)
      (pss_cons (ps_set (i := 3) sc.nd rfl (Or.inr rfl) (pe_c c_common_multiple hr (by decide) (by rfl) (pa_cons (pe_lc (own := [("d", 1), ("r", 2)]) (g := gTup K 2 (gCons (gName 1) (gCons (gName 2) gNil))) (tt := tYes) (by rfl) sc.nd (pi_tup (pv 0)) (blkOk_by (own := [("d", 1), ("r", 2)]) (N := N_product_level) (sc := defScope s_product_level) (by decide +kernel)) (fun _ _ _ _ _ => (pg_tup rfl (pgs_cons (pg_name (i := 1) sc.nd rfl (Or.inl rfl) (Or.inr rfl)) (pgs_cons (pg_name (i := 2) sc.nd rfl (Or.inl rfl) (Or.inr rfl)) pgs_nil)))) (fun _ _ _ _ _ => pts_nil) (fun _ _ _ _ _ => (pv 1))) pa_nil)))
      (pss_cons (ps_set (i := 4) sc.nd rfl (Or.inl rfl) (pe_callB (id := "sum") (r := rSum K) (cr_sum rfl) (by rfl) B.sum (by decide +kernel) (pa_cons (pe_lc (own := [("d", 1), ("r", 2)]) (g := gTup K 2 (gCons (gName 1) (gCons (gName 2) gNil))) (tt := tYes) (by rfl) sc.nd (pi_tup (pv 0)) (blkOk_by (own := [("d", 1), ("r", 2)]) (N := N_product_level) (sc := defScope s_product_level) (by decide +kernel)) (fun _ _ _ _ _ => (pg_tup rfl (pgs_cons (pg_name (i := 1) sc.nd rfl (Or.inl rfl) (Or.inr rfl)) (pgs_cons (pg_name (i := 2) sc.nd rfl (Or.inl rfl) (Or.inr rfl)) pgs_nil)))) (fun _ _ _ _ _ => pts_nil) (fun _ _ _ _ _ => (pe_op op_mulW (pe_op op_fdivW (pv 3) (pv 1)) (pv 2)))) pa_nil)))
      (pss_one (ps_ret (pe_op op_mulW (pv 3) (pe_op op_fdivW pe_int (pe_callBfun cr_gcd (by rfl) B.gcd (pa_cons pe_int (pa_cons (pv 4) pa_nil))))))))))), ?_⟩
  have ok := hf.ok
  obtain ⟨cp, cN⟩ := com_pos N1 hf.dv
  refine ⟨_, rfl, v, ps, rfl, hv, ok, fun H1 s1 => ?_⟩
  refine ⟨_, rfl, v, ps, rfl, hv.same s1, ok, hf.w, hf.s, fun H2 s2 => ⟨true, rfl, iteF ?_⟩⟩
  dsimp only [tNext]
  have s02 := s1.trans s2
  obtain ⟨p, us, rfl, hp, hus⟩ := hv.same s02
  have lu := hus.len
  have l8 := ok.len
  refine ⟨_, rfl, p, rfl, ⟨_, .inl (hp)⟩, fun D3 hD3 => ?_⟩
  refine lc_tup (K := K) (a := p) (xs := us) (fun i H' => Same H2 H' ∧ H' D3 = some (.lst (((ps.take i).map (fun e => ((e.1 : Nat) : Int))).map V.int))) ⟨Same.upd_new hD3, upd_same⟩ (fun i H' _ ⟨z, _⟩ => .inl (rds z (hp))) ?_ ?_
  · rintro i x H3 hx ⟨s3, h3⟩
    obtain ⟨e, he, t, rfl, ht⟩ := (hus).get hx
    have hem := List.mem_of_getElem? he
    have er := ok.rng e hem
    refine ⟨t, _, rfl, SqT.of (s3 _ _ ht), rfl, _, _, rfl, _, _, rfl, rfl, rfl, ?_⟩
    refine ⟨_, rfl, ?_⟩
    refine ⟨_, h3, ?_, fun b o e => ?_, ?_⟩
    · rw [List.length_map, List.length_map, List.length_take]
      exact Nat.lt_of_le_of_lt (by omega : _ ≤ 8) (by decide)
    · rw [upd_ne (ne_of_none e hD3)]
      exact s3 _ _ e
    · rw [upd_same, List.take_add_one, he, List.map_append, List.map_append]
      rfl
  rintro H3 ⟨s3, h3⟩
  rw [lu, List.take_length] at h3
  refine ⟨D3, ps.map (·.1), N, rfl, by rw [h3, List.map_map, List.map_map]; rfl, by omega, Nat.lt_of_le_of_lt N4 (by decide), fun b hb => ?_, ?_⟩
  · obtain ⟨e, he, rfl⟩ := List.mem_map.mp hb
    exact Nat.dvd_of_mod_eq_zero (hf.dv e he)
  rw [show (ps.map fun x => x.1).foldl Nat.lcm 1 = comP ps from rfl]
  dsimp only [gName]
  refine ⟨_, rfl, p, rfl, ⟨_, .inl (rds s3 hp)⟩, fun D4 hD4 => ?_⟩
  refine lc_tup (K := K) (a := p) (xs := us) (fun i H' => Same H3 H' ∧ H' D4 = some (.lst (((ps.take i).map (fun e => ((comP ps / e.1 : Nat) : Int) * e.2)).map V.int))) ⟨Same.upd_new hD4, upd_same⟩ (fun i H' _ ⟨z, _⟩ => .inl (rds z (rds s3 hp))) ?_ ?_
  · rintro i x H4 hx ⟨s4, h4⟩
    obtain ⟨e, he, t, rfl, ht⟩ := (hus.same s3).get hx
    have hem := List.mem_of_getElem? he
    have er := ok.rng e hem
    refine ⟨t, _, rfl, SqT.of (s4 _ _ ht), rfl, _, _, rfl, _, _, rfl, rfl, rfl, ?_⟩
    refine ⟨_, rfl, _, rfl, _, _, rfl, rfl, wide_div (b := 8000) (by show (0 : Int) < (e.1 : Int); omega) (Nat.lt_of_le_of_lt er.2.1 (by decide)) (by decide) (by decide), ?_⟩
    dsimp only
    rw [show ((comP ps : Nat) : Int) / (e.1 : Int) = ((comP ps / e.1 : Nat) : Int) from (Int.natCast_ediv _ e.1).symm]
    refine ⟨_, rfl, _, _, rfl, rfl, mul8 (by rw [Int.natAbs_natCast]; exact Nat.lt_of_le_of_lt (Nat.le_trans (Nat.div_le_self _ _) (Nat.le_trans cN N4)) (by decide)) (Nat.lt_of_le_of_lt er.2.2.1 (by decide)), ?_⟩
    refine ⟨_, h4, ?_, fun b o e => ?_, ?_⟩
    · rw [List.length_map, List.length_map, List.length_take]
      exact Nat.lt_of_le_of_lt (by omega : _ ≤ 8) (by decide)
    · rw [upd_ne (ne_of_none e hD4)]
      exact s4 _ _ e
    · rw [upd_same, List.take_add_one, he, List.map_append, List.map_append]
      rfl
  rintro H4 ⟨s4, h4⟩
  rw [lu, List.take_length] at h4
  refine ⟨D4, _, rfl, SqL.of h4, ?_⟩
  rw [show (ps.map fun e => ((comP ps / e.1 : Nat) : Int) * e.2).sum = sumF (comP ps) ps from rfl]
  dsimp only [gName]
  refine ⟨_, rfl, _, rfl, 24, sumF (comP ps) ps, rfl, ?_⟩
  have g0 : 0 < Nat.gcd 24 (sumF (comP ps) ps).natAbs := Nat.gcd_pos_of_pos_left _ (by decide)
  have g1 : Nat.gcd 24 (sumF (comP ps) ps).natAbs ≤ 24 := Nat.le_of_dvd (by decide) (Nat.gcd_dvd_left _ _)
  rw [show Nat.gcd (24 : Int).natAbs (sumF (comP ps) ps).natAbs = Nat.gcd 24 (sumF (comP ps) ps).natAbs from rfl]
  have hl : lvP ps = comP ps * (24 / Nat.gcd 24 (sumF (comP ps) ps).natAbs) := rfl
  generalize Nat.gcd 24 (sumF (comP ps) ps).natAbs = g at g0 g1 hl
  have e24 : (24 : Int) / (g : Int) = ((24 / g : Nat) : Int) := (Int.natCast_ediv 24 g).symm
  refine ⟨_, _, rfl, rfl, wide_div (b := 8000) (by show (0 : Int) < (g : Int); omega) (Nat.lt_of_le_of_lt g1 (by decide)) (by decide) (by decide), ?_⟩
  dsimp only
  rw [e24]
  refine ⟨_, _, rfl, rfl, mul8 (by rw [Int.natAbs_natCast]; exact Nat.lt_of_le_of_lt (Nat.le_trans cN N4) (by decide)) (by rw [Int.natAbs_natCast]; exact Nat.lt_of_le_of_lt (Nat.div_le_self _ _) (by decide)), ?_⟩
  dsimp only
  rw [← Int.natCast_mul, ← hl]
  exact q _ (s02.trans (s3.trans s4))
theorem ok_psign (D : Df K mg "product_sign" s_product_sign ["product"]) (B : Bi mg) (c_check_product : Cal P w K mg base 6 "check_product" sp_checkProd) (c_is_whole : Cal P w K mg base 1 "is_whole" sp_isWhole) (c_any_sign_of : Cal P w K mg base 2 "any_sign_of" sp_signI) : Cal P w K mg base 7 "product_sign" sp_psign := by
  obtain ⟨f, fd, F, m, b⟩ := D.ex
  have sc := sc_product_sign
  refine ⟨f, fd, _, F.ok sc (fun _ _ _ _ ⟨_, _, e, _⟩ => by rw [e]; rfl) (fun cdv A outer s H vs Q E hr h => ?_), m, F.kp, b⟩
  obtain ⟨v, ps, rfl, hv, ok, hw, hs, h144, q⟩ := h
  refine ⟨_, (pss_cons (ps_expr (pe_c c_check_product hr (by decide) (by rfl) (pa_cons (pv 0) pa_nil)))
      (pss_cons (ps_if (pt_not (pt_val (pe_c c_is_whole hr (by decide) (by rfl) (pa_cons (pv 0) pa_nil))))
      (pss_one ps_never)
      pss_nil)
      (pss_cons (ps_set (i := 3) sc.nd rfl (Or.inl rfl) (pe_op op_fdivW (pe_callB (id := "sum") (r := rSum K) (cr_sum rfl) (by rfl) B.sum (by decide +kernel) (pa_cons (pe_lc (own := [("d", 1), ("r", 2)]) (g := gTup K 2 (gCons (gName 1) (gCons (gName 2) gNil))) (tt := tYes) (by rfl) sc.nd (pi_tup (pv 0)) (blkOk_by (own := [("d", 1), ("r", 2)]) (N := N_product_sign) (sc := defScope s_product_sign) (by decide +kernel)) (fun _ _ _ _ _ => (pg_tup rfl (pgs_cons (pg_name (i := 1) sc.nd rfl (Or.inl rfl) (Or.inr rfl)) (pgs_cons (pg_name (i := 2) sc.nd rfl (Or.inl rfl) (Or.inr rfl)) pgs_nil)))) (fun _ _ _ _ _ => pts_nil) (fun _ _ _ _ _ => (pv 2))) pa_nil)) pe_int))
      (pss_cons (ps_set (i := 4) sc.nd rfl (Or.inl rfl) (pe_ifExp (pt_cmpR op_eq (pe_op op_mod (pv 3) pe_int) pe_int (nomark _)) pe_int (pe_un un_neg pe_int)))
      (pss_cons (ps_for PassesOwn.never rfl (pi_tup (pv 0)) (pg_tup rfl (pgs_cons (pg_name (i := 1) sc.nd rfl (Or.inl rfl)) (pgs_cons (pg_name (i := 2) sc.nd rfl (Or.inl rfl)) pgs_nil)))
      (pss_one (ps_if (pt_cmpR op_eq (pe_op op_mod (pv 2) pe_int) pe_int (nomark _))
        (pss_one (ps_set (i := 4) sc.nd rfl (Or.inl rfl) (pe_op op_mulW (pv 4) (pv 1))))
        pss_nil)))
      (pss_one (ps_ret (pe_c c_any_sign_of hr (by decide) (by rfl) (pa_cons (pv 4) pa_nil))))))))), ?_⟩
  refine ⟨_, rfl, v, ps, rfl, hv, ok, fun H1 s1 => ?_⟩
  refine ⟨_, rfl, v, ps, rfl, hv.same s1, ok, hw, hs, fun H2 s2 => ⟨true, rfl, iteF ?_⟩⟩
  dsimp only [tNext]
  have s02 := s1.trans s2
  obtain ⟨p, us, rfl, hp, hus⟩ := hv.same s02
  have lu := hus.len
  have l8 := ok.len
  refine ⟨_, rfl, p, rfl, ⟨_, .inl (hp)⟩, fun D3 hD3 => ?_⟩
  refine lc_tup (K := K) (a := p) (xs := us) (fun i H' => Same H2 H' ∧ H' D3 = some (.lst (((ps.take i).map (fun e => e.2)).map V.int))) ⟨Same.upd_new hD3, upd_same⟩ (fun i H' _ ⟨z, _⟩ => .inl (rds z (hp))) ?_ ?_
  · rintro i x H3 hx ⟨s3, h3⟩
    obtain ⟨e, he, t, rfl, ht⟩ := (hus).get hx
    have hem := List.mem_of_getElem? he
    have er := ok.rng e hem
    refine ⟨t, _, rfl, SqT.of (s3 _ _ ht), rfl, _, _, rfl, _, _, rfl, rfl, rfl, ?_⟩
    refine ⟨_, rfl, ?_⟩
    refine ⟨_, h3, ?_, fun b o e => ?_, ?_⟩
    · rw [List.length_map, List.length_map, List.length_take]
      exact Nat.lt_of_le_of_lt (by omega : _ ≤ 8) (by decide)
    · rw [upd_ne (ne_of_none e hD3)]
      exact s3 _ _ e
    · rw [upd_same, List.take_add_one, he, List.map_append, List.map_append]
      rfl
  rintro H3 ⟨s3, h3⟩
  rw [lu, List.take_length] at h3
  refine ⟨D3, _, rfl, SqL.of h3, ?_⟩
  rw [show (ps.map fun e => e.2).sum = sumR ps from rfl]
  refine ⟨_, _, rfl, rfl, wide_div (b := 8000) (by decide) (by decide) (by decide) (by decide), ?_⟩
  dsimp only [gName]
  refine tSeq_join (fun σ H' => H3 = H' ∧ σ = [some (.ref p), none, none, some (.int (sumR ps / 2)), some (.int (if (sumR ps / 2) % 2 = 0 then 1 else -1))]) (fun N hN => ?_) ?_
  · refine ⟨_, rfl, _, _, rfl, rfl, (by show (0 : Int) < 2; decide), rfl, _, rfl, ifI (fun e => ?_) fun e => ⟨_, rfl, ?_⟩⟩
    · exact hN _ _ ⟨rfl, by rw [if_pos e]; rfl⟩
    · exact hN _ _ ⟨rfl, by rw [if_neg e]; rfl⟩
  rintro _ _ ⟨rfl, rfl⟩
  have hm : mOf ps = (if (sumR ps / 2) % 2 = 0 then 1 else -1) * ((oddP ps : Nat) : Int) := rfl
  have sg1 : ((if (sumR ps / 2) % 2 = 0 then 1 else -1 : Int)).natAbs = 1 := by split <;> rfl
  generalize (if (sumR ps / 2) % 2 = 0 then (1 : Int) else -1) = sg at hm sg1
  have hp3 := rds s3 hp
  have hus3 := hus.same s3
  have rng : ∀ i, ∀ e ∈ ps.take i, 1 ≤ e.1 ∧ e.1 ≤ 144 := fun i e he => ⟨(ok.rng e (List.mem_of_mem_take he)).1, h144 e (List.mem_of_mem_take he)⟩
  have bnd : ∀ i, 0 < oddP (ps.take i) ∧ oddP (ps.take i) ≤ 144 ^ 8 := fun i => by
    obtain ⟨a, b⟩ := odd_le (B := 144) (by decide) _ (ps.take i) rfl (rng i)
    exact ⟨a, Nat.le_trans b (Nat.pow_le_pow_right (by decide) (by rw [List.length_take]; omega))⟩
  refine ⟨_, rfl, p, rfl, ⟨_, .inl hp3⟩, for_it (walk_tup (K := K) (xs := us)) (fun i σ H' => H3 = H' ∧ ∃ o1 o2 : Option V, σ = [some (.ref p), o1, o2, some (.int (sumR ps / 2)), some (.int (sg * ((oddP (ps.take i) : Nat) : Int)))]) ⟨rfl, none, none, by rw [show oddP (ps.take 0) = 1 from rfl, show sg * ((1 : Nat) : Int) = sg from Int.mul_one sg]⟩ (fun i σ H' _ ⟨z, _⟩ => by rw [← z]; exact .inl hp3) ?_ ?_⟩
  · rintro i x σ _ Hx hi ⟨rfl, o1, o2, rfl⟩ ⟨rfl, hx⟩
    obtain ⟨e, he, t, rfl, ht⟩ := hus3.get hx
    have er := ok.rng e (List.mem_of_getElem? he)
    have e144 := h144 e (List.mem_of_getElem? he)
    have ho := odd_snoc (ps.take i) e
    have htk : ps.take (i + 1) = ps.take i ++ [e] := by rw [List.take_add_one, he]; rfl
    rw [← htk] at ho
    obtain ⟨b1, b2⟩ := bnd i
    refine ⟨t, _, rfl, SqT.of ht, rfl, _, _, rfl, _, _, rfl, rfl, ?_⟩
    refine ⟨_, rfl, _, _, rfl, rfl, (by show (0 : Int) < 2; decide), rfl, _, rfl, ifI (fun e1 => ?_) fun e1 => ?_⟩
    · rw [if_pos e1] at ho
      refine ⟨_, rfl, _, rfl, _, _, rfl, rfl, mul8 ?_ (by rw [Int.natAbs_natCast]; exact Nat.lt_of_le_of_lt e144 (by decide)), ?_⟩
      · rw [Int.natAbs_mul, sg1, Int.natAbs_natCast, Nat.one_mul]
        exact Nat.lt_of_le_of_lt b2 (by decide)
      refine ⟨rfl, some (.int (e.1 : Int)), some (.int e.2), ?_⟩
      show [some (V.ref p), some (V.int (e.1 : Int)), some (V.int e.2), some (V.int (sumR ps / 2)), some (V.int (sg * ((oddP (ps.take i) : Nat) : Int) * (e.1 : Int)))] = _
      rw [ho, Int.natCast_mul, Int.mul_assoc]
    · rw [if_neg e1] at ho
      refine ⟨rfl, some (.int (e.1 : Int)), some (.int e.2), ?_⟩
      rw [ho]
      rfl
  rintro σ _ ⟨rfl, o1, o2, rfl⟩
  rw [lu, List.take_length, ← hm]
  have b8 := bnd ps.length
  rw [List.take_length] at b8
  have mn : (mOf ps).natAbs = oddP ps := by rw [hm, Int.natAbs_mul, sg1, Int.natAbs_natCast, Nat.one_mul]
  refine ⟨_, rfl, mOf ps, rfl, fun z => ?_, by rw [mn]; exact Nat.lt_of_le_of_lt b8.2 (by decide), fun b hb _ => q _ b (s02.trans s3) hb⟩
  rw [z] at mn
  have : (0 : Int).natAbs = 0 := rfl
  omega
end
end Ft

namespace Ft
open PySem L2
/-! ### own errors over Exception, whose __init__ stores one field -/
abbrev excBm : List Value := [.type "Exception", .type "BaseException", .type "object"]
/-- what the top has left of an error's class at C; f: the field that it stores -/
structure ErrC (K : PySem.W.Frag) (C : Addr) (f : Str) : Prop where
  made : PySem.W.excInitIn K C excBm "Exception.__new__" = true
  ov : PySem.W.excOver K C excBm = true
  sa : PySem.W.findIn K (.ref C) "__setattr__" = some (some (.builtin "object.__setattr__"))
  xf : XfC K C
  ty : PySem.W.typeIn K (.ref C) = some (.type "type")
  kp : PySem.W.keepIn K (.ref C) = true
  no : PySem.W.findIn K (.ref C) f = some none
section
variable {prog : Program} {w : World} {A : Around} {R : Result → Shared → Prop} {hp : Heap} {g : Array GenState} {d : Drawn} {t : Nat} {os : OsState} {K : PySem.W.Frag} {C x t1 : Addr} {f : Str} {tk : Tok} {v : Value}
/-- the first field of a new error, in the heap -/
theorem err_store (T : ErrC K C f) (X : K.In hp) (hx : hp.get? x = some (PySem.HandSPX.excO C t1))
    (q : ∀ h' tk', h'.Ns1 hp.objs.size (fun y => if y = f then some v else none) → h'.get? x = some { cls := .ref C, dict := some hp.objs.size, data := .fields #[.ref t1, .none, .none, .none, .bool false, .none] } →
      (∀ b o, b ≠ x → hp.get? b = some o → h'.get? b = some o) → R (.ok (.ret .none)) ⟨h', g, d, tk', os⟩) :
    codeAny (model prog w) A (.call (.builtin "object.__setattr__") ⟨[.ref x, .str f tk, v], []⟩) R ⟨hp, g, d, t, os⟩ := by
  obtain ⟨cd, hc, hd⟩ := PySem.W.any_some T.xf.hdC
  have ht : PySem.W.takerIn K C f = some none := by unfold PySem.W.takerIn; rw [T.no]; rfl
  have lt : x < hp.objs.size := Heap.lt_size hx
  refine PySem.W.osa_openX (s := ⟨hp, g, d, t, os⟩) (od := none) F.store_Exception X ⟨hx, rfl, rfl, trivial⟩ T.ov ht fun b => ?_
  refine wpAny_bind (wpAny_pure (wpAny_bind (PySem.W.instanceDict_exc (s := ⟨hp, g, d, t, os⟩) hx (PySem.W.looks_clsIn X hc) hd ?_)))
  refine PySem.HandSPX.store_in_new ?_ fun h' tk' hn hs => ?_
  · exact ⟨PySem.W.dictOf [] 0, #[], 0, (Heap.get?_update_ne _ _ _ _ (Nat.ne_of_gt lt)).trans (Heap.get?_push_at (o := PySem.W.dictOf [] 0) rfl rfl), rfl, fun e he => absurd he (by simp), fun _ => rfl⟩
  · refine q h' tk' hn ?_ fun b o nb ho => ?_
    · exact (hs.2 x (Nat.ne_of_lt lt)).trans (Heap.get?_update_self _ (Heap.get?_push_of_some _ hx) rfl)
    · exact (hs.2 b (Nat.ne_of_lt (Heap.lt_size ho))).trans ((Heap.get?_update_ne _ _ _ _ nb).trans (Heap.get?_push_of_some _ ho))
end
/-- self.f = e, self an error that is being made -/
def tErr (K : PySem.W.Frag) (f : Str) (to te : TE) : TS := fun D σ H => te σ H fun y H1 => to σ H1 fun x H2 => ∃ a C, x = .ref a ∧ ErrC K C f ∧ H2 a = some (exo a C none) ∧ ∀ dx, H2 dx = none → dx ≠ a → D.nx σ (upd (upd H2 dx (exd dx [(f, y)])) a (exo a C (some dx)))
section
variable {X : Cx} {o e : Expr} {to te : TE} {f : Str} {p' pos : Pos}
theorem ps_err (ho : PE X o to) (he : PE X e te) (hs : swapsWith e (some (.Attribute o f p')) pos.line X.env = pure false := by rfl) : PS X (.Assign [.Attribute o f p'] e pos) (tErr X.K f to te) := by
  refine ⟨fun pins s σ H D I h => ?_⟩
  refine plainObj_wpAny_Assign_Attribute (thn (he.run pins s σ H _ I h) fun v s1 ⟨y, H1, I1, r1, q1⟩ => thn (ho.run pins s1 σ H1 _ I1 q1) fun u s2 ⟨x, H2, I2, r2, a, C, ex, T, ea, q⟩ => ?_) hs
  subst ex
  obtain rfl : u = Value.ref a := r2
  obtain ⟨t1, hx⟩ := exo_at I2.hok ea
  obtain ⟨hp, g, d, t, os⟩ := s2
  refine PySem.W.set_plain (s := ⟨hp, g, d, t, os⟩) I2.kIn (od := none) ⟨hx, rfl, rfl, trivial⟩ T.sa ?_
  refine err_store T I2.kIn hx fun h' tk' hn hx' k => ?_
  have nd : H2 hp.objs.size = none := I2.hok.fresh (Nat.le_refl _)
  have da : hp.objs.size ≠ a := Nat.ne_of_gt (Heap.lt_size hx)
  have off : ∀ {b : Addr}, b ≠ a → b ≠ hp.objs.size → upd (upd H2 hp.objs.size (exd hp.objs.size [(f, y)])) a (exo a C (some hp.objs.size)) b = H2 b := fun n1 n2 => by rw [upd_ne n1, upd_ne n2]
  have old : ∀ {b : Addr} {ob : Obj}, hp.get? b = some ob → b ≠ hp.objs.size := fun z => Nat.ne_of_lt (Heap.lt_size z)
  have unk : ∀ {b : Addr}, H2 b = none → b ≠ a := fun n z => by rw [z, ea] at n; cases n
  have oth : ∀ {b : Addr} {u : HO}, H2 b = some u → exo a C none ≠ u → b ≠ a ∧ b ≠ hp.objs.size := fun z n => ⟨at_ne ea z n, ne_of_none z nd⟩
  have U : Un X.fs [] H2 (upd (upd H2 hp.objs.size (exd hp.objs.size [(f, y)])) a (exo a C (some hp.objs.size))) hp h' := by
    refine ⟨fun b ob z n _ _ => k b ob (unk n) z, fun b ob z n _ _ => ⟨ob.slots, k b ob (unk n) z⟩, fun b ob z n _ => (off (unk n) (old z)).trans n, fun b ob z _ => ?_,
      fun b xs z => (off (oth z exo_tup).1 (oth z exo_tup).2).trans z, fun b ob v z => (off (oth z exo_frz).1 (oth z exo_frz).2).trans z, fun b ps z => ⟨#[], by rw [off (oth z exo_tbl).1 (oth z exo_tbl).2, z]; simp⟩⟩
    by_cases hb : b = a
    · exact ⟨_, hb ▸ hx'⟩
    · exact ⟨ob, k b ob hb z⟩
  refine ⟨σ, _, I2.un (t' := tk') U fun b ob z => ?_, q _ nd da⟩
  · by_cases hb : b = a
    · subst hb
      rw [upd_same] at z
      cases z
      exact exo_ok hx'
    by_cases hd : b = hp.objs.size
    · subst hd
      rw [upd_ne hb, upd_same] at z
      cases z
      exact exd_ok hn (relO_put (fs := []) r1 fun _ => True.intro)
    · rw [off hb hd] at z
      refine (I2.hok b ob z).stay (fun c v hc y => k c v ?_ y) (fun c hc => ?_) fun c xs hc => ?_
      · rcases hc with hc | hc
        · exact hc ▸ hb
        · exact (oth hc exo_own).1
      · rw [off (oth hc exo_own).1 (oth hc exo_own).2]; exact hc
      · rw [off (oth hc exo_tup).1 (oth hc exo_tup).2]; exact hc
end
/-- what an error's own __init__ keeps: it stores its argument -/
def sp_init (K : PySem.W.Frag) (f : Str) : Sp := fun vs H Q _ => ∃ (a C : Addr) (y : V), vs = [.ref a, y] ∧ ErrC K C f ∧ H a = some (exo a C none) ∧ ∀ dx, H dx = none → dx ≠ a → Q .non (upd (upd H dx (exd dx [(f, y)])) a (exo a C (some dx)))
/-- the class of an error with its __init__ -/
structure Err (P : Program) (w : World) (K : PySem.W.Frag) (mg : Str → Option Value) (base : Heap) (x : Str) (C : Addr) (f : Str) : Prop where
  c : ErrC K C f
  g : mg x = some (.ref C)
  ini : ∃ (fI : Addr) (fd : FuncData) (ps : List Str), PySem.W.findIn K (.ref C) "__init__" = some (some (.ref fI)) ∧ PySem.W.typeIn K (.ref fI) = some (.type "function") ∧ FnOk P w K mg base CX0 2 fI fd ps (sp_init K f) ∧ Binds K fd ps []
/-- C(e) -/
def tNew (C : Addr) (f : Str) (ta : TA) : St → Hp → XK → Prop := fun σ H Q => ta σ H fun vs H1 => ∃ y, vs = [y] ∧ ∀ d, H1 d = none → Q (.ref C) (some d) (upd H1 d (.xd [(f, y)]))
theorem made_heap {H : Hp} {a d C : Addr} {f : Str} {y : V} (n : H a = none) : upd (del (upd (upd (upd H a (exo a C none)) d (exd d [(f, y)])) a (exo a C (some d))) a) d (.xd [(f, y)]) = upd H d (.xd [(f, y)]) := funext fun b => by
  by_cases hd : b = d
  · subst hd; rw [upd_same, upd_same]
  · rw [upd_ne hd, upd_ne hd]
    by_cases ha : b = a
    · subst ha; rw [del_same, n]
    · rw [del_ne ha, upd_ne ha, upd_ne hd, upd_ne ha]
section
variable {X : Cx} {C : Addr} {x f : Str} {e : Expr} {ta : TA} {p pos : Pos} {j : Nat}
theorem pmk_err (T : Err X.prog X.w X.K X.mg X.base x C f) (hr : Room j X.A) (hj : 3 ≤ j) (hg : Gl X x) (ha : PA X [e] ta)
    (hdb : (x == ("__debug__" : Str)) = false := by decide) (he : starEach [e] X.env = (false, eval e X.env) :: starEach [] X.env := by rfl) (hpl : (backTo pos (starEach [] X.env)).any (·.1) = false := by rfl) :
    PMk X (.Call (.Name x p) [e] [] pos) (tNew C f ta) := by
  intro pins s σ H Q I h
  obtain ⟨fI, fd, ps, iC, tI, F1, hb⟩ := T.ini
  refine wpAny_Call_Name_kw (ld_glob I hg T.g ?_ hdb)
  refine PySem.W.callWith_K (h₀ := X.base) I.ok.mod.kin T.c.kp (thn (ha.run pos pins s σ H _ I h) fun us s1 ⟨vs, H1, I1, r1, y, ev, q⟩ => ⟨I1.kIn, ?_⟩) he hpl
  subst ev
  show wpAny _ _ (call (.ref C) us) _ _ _
  obtain ⟨nm, N, qn, bs, bm, hdct, sn, sub, ab, col, dd, k0, k1, k2, k3, k5, hC, hT⟩ := PySem.W.excInit_of I1.kIn T.c.made
  obtain ⟨hp, g, dr, tk, os⟩ := s1
  have hsz : hp.objs.size ≤ hp.objs.size + 1 := Nat.le_succ _
  have n1 : H1 (hp.objs.size + 1) = none := I1.hok.fresh hsz
  have kk : ∀ b o, hp.get? b = some o → ((hp.push (PySem.W.kdv_tup us)).push (PySem.HandSPX.excO C hp.objs.size)).get? b = some o := fun b o z => Heap.get?_push_of_some _ (Heap.get?_push_of_some _ z)
  have I2 := I1.laid (t' := tk) (a := hp.objs.size + 1) (o := exo (hp.objs.size + 1) C none) (h' := (hp.push (PySem.W.kdv_tup us)).push (PySem.HandSPX.excO C hp.objs.size)) kk hsz (exo_ok (t1 := hp.objs.size) (by heap_get))
  have r2 : Vals [V.ref (hp.objs.size + 1), y] (Value.ref (hp.objs.size + 1) :: us) := .cons rfl r1
  have sp1 : sp_init X.K f [V.ref (hp.objs.size + 1), y] (upd H1 (hp.objs.size + 1) (exo (hp.objs.size + 1) C none)) (fun v H2 => v = .non ∧ ∃ d, H1 d = none ∧ H2 = upd (upd (upd H1 (hp.objs.size + 1) (exo (hp.objs.size + 1) C none)) d (exd d [(f, y)])) (hp.objs.size + 1) (exo (hp.objs.size + 1) C (some d)) ∧ d ≠ hp.objs.size + 1) (fun _ _ _ => False) :=
    ⟨_, C, y, rfl, T.c, upd_same, fun dx n ne => ⟨rfl, dx, by rwa [upd_ne ne] at n, rfl, ne⟩⟩
  have hl : (Value.ref (hp.objs.size + 1) :: us).length = ps.length := r2.length.symm.trans (F1.len _ _ _ _ sp1)
  have hus : us.length ≤ sizeLine := by
    rw [← Paired.length r1]
    show 1 ≤ sizeLine
    decide
  have hb' := hb ⟨(hp.push (PySem.W.kdv_tup us)).push (PySem.HandSPX.excO C hp.objs.size), g, dr, tk, os⟩ (Value.ref (hp.objs.size + 1) :: us) I2.kIn (by rw [List.append_nil]; exact hl)
  rw [List.append_nil] at hb'
  refine wpAny_call (PySem.PX.call_own F.excBase_Exception hT hC (PySem.W.looks_findIn I1.kIn iC) (fun self => PySem.W.bind_fn I1.kIn self tI) hus
    (codeAny_mono (F1.run _ X.stack _ _ ⟨Value.ref (hp.objs.size + 1) :: us, []⟩ (Value.ref (hp.objs.size + 1) :: us) _ _ (fun _ _ _ => False) ((hr.mono hj).make C us []) (I2.env0.make C us []) hb' r2 sp1) fun r s' hq' => ?_))
  cases r with
  | error er => exact pass0 pins σ _ _ er s' I2 hq'
  | ok fl =>
    cases fl with
    | ret u =>
      obtain ⟨v, H2, os2, bare2, un2, hok2, rv, ev, d, nd, eH, ne⟩ := hq'
      subst ev
      subst eH
      obtain ⟨h2, g2, d2, t2, os'⟩ := s'
      refine ⟨rv, mk_end (fs := [(f, y)]) (raises_own T.c.xf.exC T.c.ty) I1 hsz kk un2 hok2 os2 bare2 upd_same (by rw [upd_ne ne, upd_same]) nd ?_⟩
      rw [made_heap n1]
      exact q d nd
    | next => exact False.elim hq'
    | brk => exact False.elim hq'
    | cont => exact False.elim hq'
end
def clsBody : Stmt → List Stmt
  | .ClassDef _ _ _ b _ _ _ _ _ _ _ => b
  | _ => []
/-- the __init__ of a class statement whose body is that alone -/
def initOf (c : Stmt) : Stmt := (clsBody c).getD 0 (.Pass ⟨0, 0, 0, 0⟩)
/-- what the top has left of an error's class: the class, its __init__ -/
structure ErrT (K : PySem.W.Frag) (mg : Str → Option Value) (x f q : Str) (st : Stmt) (C : Addr) : Prop where
  c : ErrC K C f
  g : mg x = some (.ref C)
  i : ∃ (fI : Addr) (fd : FuncData), PySem.W.findIn K (.ref C) "__init__" = some (some (.ref fI)) ∧ PySem.W.typeIn K (.ref fI) = some (.type "function") ∧ Fun K "__init__" q st fI fd ∧ Binds K fd ["self", f] []
theorem err_mk {K : PySem.W.Frag} {h : Heap} {mg : Str → Option Value} {x f q : Str} {st : Stmt} {C fI : Addr} {oc kV doc pm cdv ct : Value} {od an : Option Addr} {osl : Array (Option Value)} (X : K.In h) (G : h.Ns mainGlobals mg)
    (a : PySem.W.nsIn K mainGlobals x = some (some (.ref C))) (m : PySem.W.excInitIn K C excBm "Exception.__new__" = true) (ov : PySem.W.excOver K C excBm = true)
    (sa : PySem.W.findIn K (.ref C) "__setattr__" = some (some (.builtin "object.__setattr__"))) (ga : PySem.W.findIn K (.ref C) "__getattribute__" = some (some (.builtin "BaseException.__getattribute__"))) (gg : PySem.W.findIn K (.ref C) "__getattr__" = some none)
    (ex : PySem.W.subIn K (.ref C) (.type "BaseException") = some true) (hd : PySem.W.hasDictIn K C = true) (ty : PySem.W.typeIn K (.ref C) = some (.type "type")) (kp : PySem.W.keepIn K (.ref C) = true) (no : PySem.W.findIn K (.ref C) f = some none)
    (i : PySem.W.findIn K (.ref C) "__init__" = some (some (.ref fI))) (tI : PySem.W.typeIn K (.ref fI) = some (.type "function"))
    (l : K.lookup fI = some ⟨oc, od, .func (PySem.W.fnOf "__init__" q (defArgs st) (defBody st) (defScope st) .none kV doc pm an cdv ct), osl⟩) (c : PySem.W.codeIn K cdv q = true) (k : PySem.W.keepIn K (.ref fI) = true)
    (hb : ∀ (kV doc pm : Value) (an : Option Addr) (cdv ct : Value) (us : List Value), us.length = (["self", f] : List Str).length → bindArgs (PySem.W.fnOf "__init__" q (defArgs st) (defBody st) (defScope st) .none kV doc pm an cdv ct) ⟨us, []⟩ = pure ((["self", f] : List Str).zip us)) : ErrT K mg x f q st C :=
  have F := fun_mk (st := st) l c k
  ⟨⟨m, ov, sa, ⟨ga, gg, ex, hd⟩, ty, kp, no⟩, PySem.W.mg_of X G a, ⟨fI, _, i, tI, F, F.binds hb⟩⟩
/-- an error's own class in an except clause -/
theorem exm_own {K : PySem.W.Frag} {C D : Addr} {b : Bool} (h1 : PySem.W.subIn K (.ref D) (.type "BaseException") = some true) (h2 : PySem.W.isClsIn K D = true) (h3 : PySem.W.typeIn K (.ref D) = some (.type "type")) (h4 : PySem.W.subIn K (.ref C) (.ref D) = some b) :
    PySem.W.exmOne K (.ref C) (.ref D) = some b := by
  have e2 : ((PySem.W.clsIn K D).isSome && PySem.W.typeIn K (.ref D) == some (.type "type")) = true := by
    rw [h3]
    show (PySem.W.isClsIn K D && _) = true
    rw [h2]
    rfl
  show (if (PySem.W.subIn K (.ref D) (.type "BaseException") == some true) = true then (if ((PySem.W.clsIn K D).isSome && PySem.W.typeIn K (.ref D) == some (.type "type")) = true then PySem.W.subIn K (.ref C) (.ref D) else none) else none) = some b
  rw [h1, if_pos (by rfl), if_pos e2]
  exact h4
theorem cut_on {A B : Prop} (a : A) (h : A → B) : B := h a
end Ft

namespace Ft
open PySem L2 PySem.Spec PyProof.Rows
/-! ### several except clauses, some with a name -/
abbrev Clause := Value × Option Nat × (Addr → Value → Option Addr → TS)
/-- the ends behind a clause whose name stands in slot i -/
def gone (i : Nat) (D : Ends) : Ends := { nx := fun σ H => D.nx (σ.set i none) H, rt := D.rt, bk := fun σ H => D.bk (σ.set i none) H, ct := fun σ H => D.ct (σ.set i none) H }
def endsOf (D : Ends) : Option Nat → Ends
  | none => D
  | some i => gone i D
def slotOf (σ : L2.St) (a : Addr) : Option Nat → L2.St
  | none => σ
  | some i => σ.set i (some (.ref a))
def wN (K : PySem.W.Frag) (Wout : WX) (D : Ends) : List Clause → WX
  | [] => Wout
  | (c, i, ts) :: r => fun cls d σ H => ∃ b, PySem.W.exmOne K cls c = some b ∧ (b = true → ∀ a, H a = none → ts a cls d (endsOf D i) (slotOf σ a i) H) ∧ (b = false → wN K Wout D r cls d σ H)
inductive HdN (X : Cx) : List ExceptHandler → List Clause → Prop
  | nil : HdN X [] []
  | plain {x : Str} {c : Value} {ts : Addr → Value → Option Addr → TS} {b : Stmt} {bs : List Stmt} {p q : Pos} {hs : List ExceptHandler} {l : List Clause} (hc : Names X x c)
      (hb : ∀ (a : Addr) (oe : Obj) (cls : Value) (d : Option Addr) (pn : List (Addr × Obj)), Zc cls d oe → (∃ vs, oe.data = .fields vs) → PSs (X.suite a ((a, oe) :: pn)) (b :: bs) (ts a cls d)) (r : HdN X hs l) :
      HdN X (.ExceptHandler (some (.Name x p)) none (b :: bs) q :: hs) ((c, none, ts) :: l)
  | named {x n : Str} {i : Nat} {c : Value} {ts : Addr → Value → Option Addr → TS} {b : Stmt} {bs : List Stmt} {p q : Pos} {hs : List ExceptHandler} {l : List Clause} (hc : Names X x c) (hi : X.N[i]? = some n) (hn : X.env.kindOf n = some .local)
      (hb : ∀ (a : Addr) (oe : Obj) (cls : Value) (d : Option Addr) (pn : List (Addr × Obj)), Zc cls d oe → (∃ vs, oe.data = .fields vs) → PSs (X.suite a ((a, oe) :: pn)) (b :: bs) (ts a cls d)) (r : HdN X hs l) :
      HdN X (.ExceptHandler (some (.Name x p)) (some n) (b :: bs) q :: hs) ((c, some i, ts) :: l)
/-- an error that came down to this frame -/
structure Down (X : Cx) (pins : List (Addr × Obj)) (a : Addr) (cls : Value) (d : Option Addr) (σ : L2.St) (H : Hp) (sI s : Shared) (B h : Heap) : Prop where
  J : Inv X pins σ H sI
  nb : ∀ b o, sI.heap.get? b = some o → b ∉ frs X.stack → B.get? b = some o
  up : sI.heap.UpToSlots h
  fl : HandSPX.FlyingZ B (X.env :: X.outer) a (Zc cls d) h
  na : H a = none
  os : s.os = sI.os
  ag : AllBare s.gens
section
variable {X : Cx} {pins : List (Addr × Obj)} {a : Addr} {cls : Value} {d : Option Addr} {σ : L2.St} {H : Hp} {sI s : Shared} {B h : Heap}
theorem Down.now (x : Down X pins a cls d σ H sI s B h) : Inv X pins σ H { s with heap := h } := x.J.landed x.nb x.fl.1 x.up x.os x.ag
/-- the state of a suite -/
theorem Down.suite (x : Down X pins a cls d σ H sI s B h) (hf : X.env.frame = some X.env.locals) : ∃ oe, Zc cls d oe ∧ (∃ vs, oe.data = .fields vs) ∧ h.get? a = some oe ∧ Inv (X.suite a ((a, oe) :: (X.pn ++ pins))) [] σ H { s with heap := h } := by
  obtain ⟨oe, vs, he, hz, hd⟩ := x.fl.there
  have out : a ∉ frs (X.env :: X.outer) := fun z => by
    obtain ⟨_, o, e, n⟩ := x.fl.2.2.1.mem z
    rw [he] at e
    cases e
    exact n _ hd
  have inF : ∀ e ∈ X.env :: X.outer, e.frame ≠ some a := fun e m z => out (List.mem_filterMap.mpr ⟨e, m, z⟩)
  refine ⟨oe, hz, ⟨vs, hd⟩, he, x.now.suite he hd x.na (fun z => inF _ List.mem_cons_self (by rw [hf, z])) fun z => ?_⟩
  obtain ⟨e, m, q⟩ := List.mem_filterMap.mp z
  exact inF e (List.mem_cons_of_mem _ m) q
theorem Down.again (x : Down X pins a cls d σ H sI s B h) {h' : Heap} (f : HandSPX.FlyingZ B (X.env :: X.outer) a (Zc cls d) h') (u : h.UpToSlots h') : Down X pins a cls d σ H sI s B h' := ⟨x.J, x.nb, x.up.trans u, f, x.na, x.os, x.ag⟩
/-- the clause's test -/
theorem Down.test (x : Down X pins a cls d σ H sI s B h) (hf : X.env.frame = some X.env.locals) {n : Str} {c : Value} {b : Bool} {p : Pos} {Q : Bool → Shared → Prop} {E E' : Value → Shared → Prop} (hc : Names X n c) (e : PySem.W.exmOne X.K cls c = some b) (q : Q b { s with heap := h }) :
    wpAny (model X.prog X.w) (X.A.mark (some (.ref a))) (eval (.Name n p) X.env) (fun c s1 => wpAny (model X.prog X.w) (X.A.mark (some (.ref a))) (excMatches (.ref a) c) Q E s1) E' { s with heap := h } := by
  obtain ⟨oe, hz, _, he, S⟩ := x.suite hf
  have T : PySem.W.Looks (model X.prog X.w) h (typeOf (.ref a)) cls := fun A Q E s k q => wpAny_typeOf_ref (k _ _ he) (by rw [hz.1]; exact q)
  have m := PySem.W.exm_one (M := model X.prog X.w) x.now.kIn T e
  obtain ⟨g, db, y | ⟨y, v, nn⟩⟩ := hc
  · exact ld_glob (X := X.suite a ((a, oe) :: (X.pn ++ pins))) S g y (m.here q) db
  · exact ld_blt (X := X.suite a ((a, oe) :: (X.pn ++ pins))) S g y v (m.here q) nn db
/-- the state behind a suite goes on as the frame's own -/
theorem sp_back {q : Addr × Obj} {D : Ends} {f : Flow} {s' : Shared} (ok : X.Ok) (z : SP (X.suite a (q :: (X.pn ++ pins))) [] D f s') : SP X pins D f s' := by
  cases f with
  | ret u =>
    obtain ⟨v, σ', H', I, r, z⟩ := z
    exact ⟨v, σ', H', I.unsuite ok, r, z⟩
  | next =>
    obtain ⟨σ', H', I, z⟩ := z
    exact ⟨σ', H', I.unsuite ok, z⟩
  | brk =>
    obtain ⟨σ', H', I, z⟩ := z
    exact ⟨σ', H', I.unsuite ok, z⟩
  | cont =>
    obtain ⟨σ', H', I, z⟩ := z
    exact ⟨σ', H', I.unsuite ok, z⟩
/-- behind a named clause the name goes -/
theorem sp_gone {D : Ends} {f : Flow} {i : Nat} {n : Str} {p : Pos} {s' : Shared} {A : Around} {E : Value → Shared → Prop} (hN : X.N.Nodup) (hi : X.N[i]? = some n) (hl : X.env.kindOf n = some .local) (z : SP X pins (gone i D) f s') :
    wpAny (model X.prog X.w) A (do bindName X.env n .none; unbindBehindTheSuite X.env n p) (fun _ s3 => SP X pins D f s3) E s' := by
  cases f with
  | ret u =>
    obtain ⟨v, σ', H', I, r, z⟩ := z
    exact gone_ok I hN hi hl fun s3 J => ⟨v, _, H', J, r, z⟩
  | next =>
    obtain ⟨σ', H', I, z⟩ := z
    exact gone_ok I hN hi hl fun s3 J => ⟨_, H', J, z⟩
  | brk =>
    obtain ⟨σ', H', I, z⟩ := z
    exact gone_ok I hN hi hl fun s3 J => ⟨_, H', J, z⟩
  | cont =>
    obtain ⟨σ', H', I, z⟩ := z
    exact gone_ok I hN hi hl fun s3 J => ⟨_, H', J, z⟩
theorem handleN (hs : X.stack = X.env :: X.outer) (hf : X.env.frame = some X.env.locals) (hN : X.N.Nodup) {Wout : WX} (tk : Takes X Wout) {D : Ends} {hds : List ExceptHandler} {l : List Clause} (k : HdN X hds l) (x : Down X pins a cls d σ H sI s B h) (w : wN X.K Wout D l cls d σ H) :
    wpAny (model X.prog X.w) X.A (handleBy (.ref a) X.env hds) (SP X pins D) X.xe { s with heap := h } := by
  have ok := x.J.ok
  induction k generalizing h with
  | nil =>
    refine wpAny_handleBy_nil ?_
    obtain ⟨_, _, _, oe, vs, T, _, _, he, _, hd, h1, _⟩ := id x.fl
    unfold PySem.passOn
    refine wpAny_bind (wpAny_field he hd h1 ?_)
    rw [if_neg (show ¬ ((Value.ref T == Value.none) = true) from by simp)]
    have fin : wpAny (model X.prog X.w) X.A (setFlight (.ref a) X.env.frame) (fun _ s4 => wpAny (model X.prog X.w) X.A (throw (.ref a) : Sem Flow) (SP X pins D) X.xe s4) X.xe { s with heap := h } := by
      rw [hf]
      exact HandSPX.setFlight_upZ x.fl fun h4 f4 u4 => wpAny_throw (tk _ _ ⟨a, B, sI, pins, σ, H, cls, d, rfl, x.J, x.nb, x.up.trans u4, .inr (.inr (by rw [hs]; exact f4)), x.na, x.os, x.ag, w⟩)
    first
      | exact wpAny_bind (wpAny_pure (wpAny_bind fin))
      | exact wpAny_bind fin
  | plain hc hb r ih =>
    obtain ⟨b, e, y, n⟩ := w
    refine wpAny_handleBy_cons (codeAny_handlers_test (x.test hf hc e ?_)) (by intro q; cases q)
    cases b with
    | false => exact ih x (n rfl)
    | true =>
      refine codeAny_handlers_suite (HandSPX.lands_againZ x.fl fun h4 f4 u4 => ?_)
      have x4 := x.again f4 u4
      obtain ⟨oe, hz, hd, _, S⟩ := x4.suite hf
      exact wpAny_mono ((hb a oe cls d _ hz hd).run [] _ _ H _ S (y rfl a x.na)) (fun f s6 z => sp_back ok z) (fun _ _ z => False.elim z)
  | named hc hi hn hb r ih =>
    obtain ⟨b, e, y, n⟩ := w
    refine wpAny_handleBy_cons (codeAny_handlers_test (x.test hf hc e ?_)) (by intro q; cases q)
    cases b with
    | false => exact ih x (n rfl)
    | true =>
      refine codeAny_handlers_suite_as (HandSPX.lands_againZ x.fl fun h4 f4 u4 => ?_)
      have x4 := x.again f4 u4
      obtain ⟨oe, hz, hd, _, S⟩ := x4.suite hf
      refine store_ok (X := X.suite a ((a, oe) :: (X.pn ++ pins))) (v := .ref a) S hN hi (.inl hn) rfl (fun s5 S5 => ?_) (.inr hn)
      exact wpAny_mono ((hb a oe cls d _ hz hd).run [] s5 _ H _ S5 (y rfl a x.na)) (fun f s6 z => sp_gone hN hi hn (sp_back ok z)) (fun _ _ z => False.elim z)
end
section
variable {X : Cx} {body : List Stmt} {hds : List ExceptHandler} {h0 : ExceptHandler} {l : List Clause} {pos : Pos} {tb : WX → TS} {Wout : WX}
theorem ps_tryN (hs : X.stack = X.env :: X.outer) (hf : X.env.frame = some X.env.locals) (hN : X.N.Nodup) (tk : Takes X Wout)
    (hb : ∀ (W : WX) (pn : List (Addr × Obj)) (xe : Value → Shared → Prop), Takes (X.tr pn xe) W → PassesOwn (model X.prog X.w) X.A X.env xe → PSs (X.tr pn xe) body (tb W)) (k : HdN X (h0 :: hds) l) :
    PS X (.Try body (h0 :: hds) [] [] pos) (fun D σ H => tb (wN X.K Wout D l) D σ H) := by
  refine ⟨fun pins s σ H D I h => wpAny_Try_except (wpAny_mono ((hb (wN X.K Wout D l) (X.pn ++ pins) (fun e s1 => wpAny (model X.prog X.w) X.A (noteFrame e X.env) (fun _ s2 => wpAny (model X.prog X.w) X.A (setFlight e none) (fun _ s3 =>
    wpAny (model X.prog X.w) X.A (handleBy e X.env (h0 :: hds)) (SP X pins D) X.xe s3) X.xe s2) X.xe s1) (fun u s' z => ?_) PassesOwn.looking).run [] s σ H D (I.toTry _) h) (fun f s1 z => ?_) fun _ _ z => z)⟩
  · have ok := I.ok
    obtain ⟨a, B, sI, _, σ', H', cls, d, rfl, J, nb, up, sky, na, os, ag, w⟩ := z
    refine Sky.land Zc.steady (by rw [ok.frames, hs]) hf (by rw [← hs]; exact sky) fun h3 f3 u3 => ?_
    exact handleN hs hf hN tk k ⟨J.ofTry ok, nb, up.trans u3, f3, na, os, ag⟩ w
  · have ok := I.ok
    cases f with
    | ret u =>
      obtain ⟨v, σ', H', J, r, q⟩ := z
      exact ⟨v, σ', H', J.ofTry ok, r, q⟩
    | next =>
      obtain ⟨σ', H', J, q⟩ := z
      exact wpAny_execs_nil ⟨σ', H', J.ofTry ok, q⟩
    | brk =>
      obtain ⟨σ', H', J, q⟩ := z
      exact ⟨σ', H', J.ofTry ok, q⟩
    | cont =>
      obtain ⟨σ', H', J, q⟩ := z
      exact ⟨σ', H', J.ofTry ok, q⟩
end
end Ft

/-! The law's call where the text makes lambdas: beside the script the tables of code objects are tracked. -/
namespace Ft
open PySem L2 PySem.Spec PyProof.Rows
theorem call_ofT {P : Program} {w : World} {K : PySem.W.Frag} {mg mb : Str → Option Value} {k : Nat} {fa a : Addr} {fd : FuncData} {x : Str} {sp : Sp} {s1 : Shared} {vs : List Value} {H : Hp} {cs : List (Addr × Addr)}
    (inK : K.In s1.heap) (hns : s1.heap.Ns mainGlobals mg) (hb : s1.heap.Ns builtinsNs mb) (hbb : ∀ x : Str, x ≠ "__name__" → mb x = bootBuiltins x) (hlim : s1.heap.NoLimit) (hg : s1.gens = #[])
    (hT : ∀ p ∈ cs, PySem.W.CodeHd s1.heap p.1 p.2 ∧ s1.heap.get? p.2 = some (PySem.W.tabObj #[]))
    (hm : ∃ (bm : Addr) (ob : Obj), mg "__builtins__" = some (.ref bm) ∧ bm ≠ builtinsNs ∧ s1.heap.get? bm = some ob ∧ ob.cls = .type "module" ∧ ob.dict = some builtinsNs ∧ ob.data = .plain)
    (ha : s1.heap.get? a = some { cls := .type "list", data := .seq vs.toArray }) (hr : Room k callerA)
    (F : ∀ base : Heap, K.In base → base.Ns mainGlobals mg → (∀ p ∈ cs, LamX.TabB base mg p.1 p.2) → FnG P w K mg base k fa fd [x] sp) (hbind : ∀ (s : Shared) (u : Value), BindsTo s fd ⟨[u], []⟩ [(x, u)])
    (hH : ∀ p ∈ cs, H p.2 = some (.tbl #[])) (only : ∀ b, H b ≠ none → b = a ∨ ∃ p ∈ cs, p.2 = b) (hz : ∀ z, H a = some z → ∃ ob xs, z = .frz ob (.lst xs)) (notK : H a ≠ none → K.lookup a = none) (tabK : ∀ p ∈ cs, K.lookup p.2 = none)
    (hp : sp [.ref a] H (fun v _ => v = .bl true) fun _ _ _ => False) (hok : HOk P w H s1.heap) :
    codeAny (model P w) callerA (.call (.ref fa) ⟨[.ref a], []⟩) (fun r s2 => r = .ok (.ret (.bool true)) ∧ OldK s1.heap s2.heap ∧ s2.os = s1.os ∧ AllBare s2.gens) s1 := by
  have below : ∀ {b : Addr} {o : Obj}, s1.heap.get? b = some o → H b = none → (hidT s1.heap H).get? b = some o := fun e n => hidT_get e n
  have known : ∀ {b : Addr} {z : HO}, H b = some z → b = a ∨ ∃ p ∈ cs, p.2 = b := fun {b z} q => only b fun n => by rw [n] at q; cases q
  have clear : ∀ {b : Addr} {o : Obj}, s1.heap.get? b = some o → (∀ vs n, o.data ≠ .seq vs n) → o.data ≠ .fields #[] → H b = none := by
    intro b o e n1 n2
    cases q : H b with
    | none => rfl
    | some z =>
      rcases known q with h | ⟨p, hp, h⟩
      · rw [h, ha] at e
        cases e
        exact (n1 _ _ rfl).elim
      · rw [← h, (hT p hp).2] at e
        cases e
        exact (n2 rfl).elim
  have spaces : ∀ {b : Addr} {m : Str → Option Value}, s1.heap.Ns b m → (hidT s1.heap H).Ns b m := fun {b m} ⟨o, es, ep, e, d, r⟩ => ⟨o, es, ep, below e (clear e (fun _ _ z => by rw [d] at z; cases z) fun z => by rw [d] at z; cases z), d, r⟩
  have inB : K.In (hidT s1.heap H) := fun b o e => below (inK b o e) (by
    cases q : H b with
    | none => rfl
    | some z =>
      rcases known q with h | ⟨p, hp, h⟩
      · subst h
        rw [notK fun n => by rw [n] at q; cases q] at e
        cases e
      · rw [← h, tabK p hp] at e
        cases e)
  have hM : Mod K mg (hidT s1.heap H) := ⟨inB, spaces hns, ⟨mb, spaces hb, hbb⟩, hlim.elim fun mc z => ⟨mc, spaces z.1, z.2⟩⟩
  have plainAt : ∀ {b : Addr} {o : Obj}, s1.heap.get? b = some o → o.cls = .type "module" → o.data = .plain → H b = none := fun e _ d => clear e (fun _ _ z => by rw [d] at z; cases z) fun z => by rw [d] at z; cases z
  have tb : ∀ p ∈ cs, LamX.TabB (hidT s1.heap H) mg p.1 p.2 := by
    intro p hp
    obtain ⟨c, t⟩ := hT p hp
    obtain ⟨gO, _, _, gE, gD, _⟩ := hns
    have gP : mainGlobals ≠ p.2 := fun z => by
      rw [z, t] at gE
      cases gE
      cases gD
    refine ⟨?_, ?_, gP⟩
    · obtain ⟨o, us, file, tf, fl, tg, inF, tx, tt, e, h1, h2, h3, hs⟩ := c
      refine ⟨o, us, file, tf, fl, tg, inF, tx, tt, below e (clear e (fun _ _ z => by rw [h2] at z; cases z) fun z => ?_), h1, h2, h3, hs⟩
      rw [h2] at z
      cases z
      simp at h3
    · obtain ⟨bm, ob, b1, b2, b3, b4, b5, b6⟩ := hm
      refine ⟨bm, ob, b1, b2, fun z => ?_, fun z => ?_, below b3 (plainAt b3 b4 b6), b4, b5, b6⟩
      · rw [z, gE] at b3
        cases b3
        rw [gD] at b6
        cases b6
      · rw [z, t] at b3
        cases b3
        cases b6
  have noFr : ∀ b ∈ frs ([] : List Env), H b = none := fun b z => absurd (show b ∈ ([] : List Addr) from z) List.not_mem_nil
  have e0 : Env0 P w K mg (hidT s1.heap H) callerA [] s1 H := ⟨rfl, hM, fun b o e => of_hidT e, Nat.le_of_eq (hidT_size _ _), trivial, noFr, hok, .of_eq hg⟩
  refine codeAny_mono ((F _ inB (spaces hns) tb).go callerA [] s1 H ⟨[.ref a], []⟩ [.ref a] [.ref a] _ _ rfl hr e0 (hbind s1 (.ref a)) (.cons rfl .nil) hp) fun r s2 h => ?_
  match r, h with
  | .error _, h => exact (h : False).elim
  | .ok .next, h => exact (h : False).elim
  | .ok .brk, h => exact (h : False).elim
  | .ok .cont, h => exact (h : False).elim
  | .ok (.ret u), h =>
    obtain ⟨v, H2, os, bare, un, hok2, rv, q⟩ := h
    obtain rfl : v = .bl true := q
    obtain rfl : u = Value.bool true := rv
    have same : ∀ {b : Addr} {o : Obj}, (∀ p ∈ cs, p.2 ≠ b) → s1.heap.get? b = some o → s2.heap.get? b = some o := by
      intro b o nt e
      cases q : H b with
      | none => exact un.keep b o e q (fun z => absurd (show b ∈ ([] : List Addr) from z) List.not_mem_nil) List.not_mem_nil
      | some z =>
        rcases known q with h | ⟨p, hp, h⟩
        · subst h
          obtain ⟨ob, xs, rfl⟩ := hz z q
          have k1 := (hok b _ q).1
          rw [e] at k1
          cases k1
          exact (hok2 b _ (un.frzs b _ _ q)).1
        · exact (nt p hp h).elim
    have grown : ∀ p ∈ cs, ∃ more : Array Value, s2.heap.get? p.2 = some (PySem.W.tabObj more) := fun p hp => by
      obtain ⟨more, z⟩ := un.tbls p.2 #[] (hH p hp)
      exact ⟨_, hok2 p.2 _ z⟩
    refine ⟨rfl, ⟨fun b o e => ?_, fun b o e => ?_⟩, os, bare⟩
    · by_cases t : ∃ p ∈ cs, p.2 = b
      · obtain ⟨p, hp, rfl⟩ := t
        obtain ⟨more, g⟩ := grown p hp
        rw [(hT p hp).2] at e
        cases e
        exact .inr (.inl ⟨((hT p hp).1.tab (hT p hp).2).isCodeTable, rfl, #[], more, rfl, by rw [Array.empty_append]; exact g⟩)
      · exact .inl (same (fun p hp z => t ⟨p, hp, z⟩) e)
    · by_cases t : ∃ p ∈ cs, p.2 = b
      · obtain ⟨p, hp, rfl⟩ := t
        exact (grown p hp).elim fun more g => ⟨_, g⟩
      · exact ⟨o, same (fun p hp z => t ⟨p, hp, z⟩) e⟩
/-- what is known where the law is called: the text's promise and the tables of code objects that it fills -/
def LawT (P : Program) (w : World) (K : PySem.W.Frag) (k n : Nat) (x : Str) (mg : Str → Option Value) (fa : Addr) (h : Heap) : Prop :=
  ∃ (fd : FuncData) (cs : List (Addr × Addr)) (sp : Sp), (∀ p ∈ cs, PySem.W.CodeHd h p.1 p.2 ∧ h.get? p.2 = some (PySem.W.tabObj #[])) ∧ (∀ p ∈ cs, K.lookup p.2 = none) ∧ (∀ (s : Shared) (u : Value), BindsTo s fd ⟨[u], []⟩ [(x, u)]) ∧
    (∀ (H : Hp) (a : Addr) (ns : List Int), ns.length ≤ n → (∀ p ∈ cs, H p.2 = some (.tbl #[])) → SqL K H a (ns.map V.int) → sp [.ref a] H (fun v _ => v = .bl true) fun _ _ _ => False) ∧
    ∀ base : Heap, K.In base → base.Ns mainGlobals mg → (∀ p ∈ cs, LamX.TabB base mg p.1 p.2) → FnG P w K mg base k fa fd [x] sp
theorem walk_gT {l : PySem.W.OpenLaw} {n k : Nat} {q : Program} {loose : List Str} {XP : (Str → Option Value) → Heap → Prop} {YP : World → Heap → Prop} {d : DefRec} {K : Params → PySem.W.Frag} {x : Str}
    (hn : l.most = some n) (hn2 : n ≤ sizeLine) (hdf : d.params.defaults = []) (hr : Room k callerA) (hY : ∀ (w : World) (h : Heap), YP w h → (K w.params).In h)
    (F : ∀ (w : World) (s0 : Shared) (mg mb : Str → Option Value) (fa : Addr) (h : Heap), YP w h → (K w.params).In h → PySem.W.Ground q loose [] XP w s0 mg mb h → mg d.name = some (.ref fa) → LawT l.prog w (K w.params) k n x mg fa h) :
    PySem.W.WalkO q loose XP YP l.row.toRowW d [] (fun f vs => PySem.call f vs) := by
  refine Att.attach_call hn hdf fun w s0 s1 mg mb fa o pm cd doc a vs ns G Y ho hd hcd hmg hobj hints hlen hg => ?_
  have inK := hY w _ Y
  obtain ⟨fd, cs, sp, hT, nT, hb, hsp, hF⟩ := F w s0 mg mb fa _ Y inK G hmg
  have rv := vals_ints hints
  have lv := hints.length
  have notT : ∀ p ∈ cs, p.2 ≠ a := fun p hp z => by
    have e := (hT p hp).2
    rw [z, hobj] at e
    cases e
  have main := fun (H : Hp) (hS : SqL (K w.params) H a (ns.map V.int)) (hH : ∀ p ∈ cs, H p.2 = some (.tbl #[])) => call_ofT (H := H) inK G.T.g G.T.b G.T.builtins G.T.nolimit hg hT G.T.bmain hobj hr hF hb hH
  let T : Hp := fun b => if ∃ p ∈ cs, p.2 = b then some (.tbl #[]) else none
  have inT : ∀ p ∈ cs, T p.2 = some (.tbl #[]) := fun p hp => if_pos ⟨p, hp, rfl⟩
  have offT : ∀ {b : Addr}, T b ≠ none → ∃ p ∈ cs, p.2 = b := fun {b} z => Classical.byContradiction fun n => z (if_neg n)
  have okT : ∀ {b : Addr} {z : HO} {H : Hp}, T b = some z → ObjOk l.prog w H s1.heap b z := fun {b z H} e => by
    obtain ⟨p, hp, rfl⟩ := offT fun n => by rw [n] at e; cases e
    rw [inT p hp] at e
    cases e
    exact (hT p hp).2
  have aT : T a = none := if_neg fun ⟨p, hp, z⟩ => notT p hp z
  cases hk : (K w.params).lookup a with
  | some ob =>
    have e := inK a ob hk
    rw [hobj] at e
    cases e
    have sq : SqL (K w.params) T a (ns.map V.int) := .inr ⟨_, vs.toArray, _, hk, rfl, rfl, rfl, by rw [List.size_toArray, lv]; exact Nat.le_trans hlen hn2, by simpa using rv⟩
    exact main T sq inT (fun b z => .inr (offT z)) (fun z e => by rw [aT] at e; cases e) (fun z => absurd aT z) nT (hsp T a ns hlen inT sq) fun b z e => okT e
  | none =>
    let ob : Obj := { cls := .type "list", data := .seq vs.toArray }
    have eA : upd T a (.frz ob (.lst (ns.map V.int))) a = some (.frz ob (.lst (ns.map V.int))) := upd_same
    have hH : ∀ p ∈ cs, upd T a (.frz ob (.lst (ns.map V.int))) p.2 = some (.tbl #[]) := fun p hp => by rw [upd_ne (notT p hp)]; exact inT p hp
    have sq : SqL (K w.params) (upd T a (.frz ob (.lst (ns.map V.int)))) a (ns.map V.int) := .inl (.inr ⟨ob, eA⟩)
    refine main _ sq hH (fun b z => ?_) (fun z e => ?_) (fun _ => hk) nT (hsp _ a ns hlen hH sq) fun b z e => ?_
    · by_cases h : b = a
      · exact .inl h
      · rw [upd_ne h] at z
        exact .inr (offT z)
    · rw [eA] at e
      cases e
      exact ⟨_, _, rfl⟩
    · by_cases h : b = a
      · subst h
        rw [eA] at e
        cases e
        exact ⟨hobj, by rw [List.length_map]; exact Nat.le_trans hlen hn2, vs, _, rv, hobj⟩
      · rw [upd_ne h] at e
        exact okT e
/-- a def of the top whose code object is told -/
structure DfC (K : PySem.W.Frag) (mg : Str → Option Value) (x : Str) (st : Stmt) (ps : List Str) (c : Addr) : Prop where
  ex : ∃ (f : Addr) (fd : FuncData), Fun K x x st f fd ∧ mg x = some (.ref f) ∧ Binds K fd ps [] ∧ fd.code = .ref c
/-- a def by its body, its code object told -/
theorem fun_gC {P : Program} {w : World} {K : PySem.W.Frag} {mg : Str → Option Value} {base : Heap} {x qual : Str} {st : Stmt} {f : Addr} {fd : FuncData} {N ps : List Str} {k : Nat} {sp : Sp} (F : Fun K x qual st f fd) (S : FnScope N ps (defScope st))
    (len : ∀ vs H Q E, sp vs H Q E → vs.length = ps.length)
    (body : ∀ (cdv : Value), fd.code = cdv → ∀ (A : Around) (outer : List Env) (s : Shared) (H : Hp) (vs : List V) (Q : VK) (E : XK), (A.deeper (envOfC qual (defScope st) s.heap.objs.size f cdv)).guards = some [] →
      Room k (A.deeper (envOfC qual (defScope st) s.heap.objs.size f cdv)) → sp vs H Q E →
      ∃ t, PSs (cxOf CX0 P w K mg base N qual (defScope st) f cdv A outer s H E).nox (defBody st) t ∧ t { nx := fun _ H' => Q .non H', rt := Q } (start N vs) H) : FnG P w K mg base (k + 1) f fd ps sp := by
  obtain ⟨oc, od, kV, doc, pm, an, cdv, ct, osl, rfl, lk, hcd⟩ := F.ex
  refine ⟨len, fun A outer s H args us vs Q E hgd hr e0 hb rv hsp => ?_⟩
  have inK : K.In s.heap := e0.mod.kin.keeps fun b o e => (e0.bs b o e).1
  have noL : s.heap.NoLimit := e0.mod.nolimit.keeps fun b o e => (e0.bs b o e).1
  have kinds : ∀ y ∈ ps.zip us, (defScope st).names.lookup y.1 = some .local ∨ ((defScope st).names.lookup y.1 = some .cell ∧ ((cellsFrom (s.heap.objs.size + 1) (defScope st).names []).lookup y.1).isSome = true) := by
    intro y hy
    rcases S.par y.1 (List.of_mem_zip hy).1 with q | q
    · exact .inl q
    · exact .inr ⟨q, PySem.W.cellsFrom_some _ _ _ (.inl q)⟩
  refine codeAny_call_function hr.depth (inK _ _ lk) rfl S.co S.gen rfl (PySem.W.codeRec_of inK hcd) (hb _ _ _ _ ?_)
  refine wpAny_newFunctionEnv_cells S.kind kinds fun env he s1 made => ?_
  subst he
  refine ⟨noL.keeps made.toInCall.keep, codeAny_func ?_⟩
  obtain ⟨t, ht, hq⟩ := body cdv rfl A outer s H vs Q E hgd (hr.deeper _) hsp
  have J0 : Inv (cxOf CX0 P w K mg base N qual (defScope st) f cdv A outer s H E) [] (start N vs) H s1 := inv_start S hr.hd e0 (len _ _ _ _ hsp) rv made
  refine wpAny_mono (ht.nox.run [] s1 (start N vs) H _ J0 hq) (fun fl s' hs => ?_) fun _ _ hs => hs
  match fl, hs with
  | .ret u, hs =>
    obtain ⟨v, σ', H', J, rv', q⟩ := hs
    exact ⟨v, H', J.os, J.bare, J.base, J.hok, rv', q⟩
  | .next, hs =>
    obtain ⟨σ', H', J, q⟩ := hs
    exact ⟨V.non, H', J.os, J.bare, J.base, J.hok, rfl, q⟩
  | .brk, hs => exact (hs.choose_spec.choose_spec.2 : False).elim
  | .cont, hs => exact (hs.choose_spec.choose_spec.2 : False).elim
end Ft

namespace Ft
open PySem L2
abbrev i_NotWhole : Stmt := initOf (top 5)
theorem sc_i_NotWhole : FnScope ["self", "thing"] ["self", "thing"] (defScope i_NotWhole) := ⟨rfl, rfl, rfl, by decide +kernel, rfl, by decide +kernel, by decide +kernel⟩
section
variable {P : Program} {w : World} {K : PySem.W.Frag} {mg : Str → Option Value} {base : Heap}
theorem err_NotWhole {C : Addr} (T : ErrT K mg "NotWhole" "thing" "NotWhole.__init__" i_NotWhole C) : Err P w K mg base "NotWhole" C "thing" := by
  obtain ⟨c, g, fI, fd, i1, i2, F, b⟩ := T
  have sc := sc_i_NotWhole
  refine ⟨c, g, fI, fd, _, i1, i2, F.ok sc (fun _ _ _ _ ⟨_, _, _, e, _⟩ => by rw [e]; rfl) (fun cdv A outer s H vs Q E hr h => ?_), b⟩
  obtain ⟨a, C, y, rfl, T, ha, q⟩ := h
  refine ⟨_, pss_one (ps_err (pv 0) (pv 1)), ?_⟩
  exact ⟨_, rfl, _, rfl, a, C, rfl, T, ha, q⟩
end
/-- whatever is wished of an error, the slots' number is known -/
theorem takes_len {X : Cx} {W : WX} (tk : Takes X W) : Takes X (fun cls d σ H => σ.length = X.N.length → W cls d σ H) := fun u s' ⟨a, B, sI, pins, σ, H, cls, d, e, I, nb, up, sky, na, os, ag, w⟩ =>
  tk u s' ⟨a, B, sI, pins, σ, H, cls, d, e, I, nb, up, sky, na, os, ag, w I.len⟩
/-! ### the law's _law_refused -/
abbrev N_ref : List Str := ["_law_call", "_law_told", "e"]
theorem sc_ref : FnScope N_ref ["_law_call"] (defScope s__law_refused) := ⟨rfl, rfl, rfl, by decide +kernel, rfl, by decide +kernel, by decide +kernel⟩
/-- what it makes of what the lambda does -/
def TTref (C : Addr) : (XK → Hp → VK → Prop) → Hp → VK → Prop := fun tl H Q => ∀ (E1 : XK) (Q1 : VK),
  (∀ (dd : Addr) (v : V) (H' : Hp), H' dd = some (.xd [("thing", v)]) → (∀ p, H' p = none → Q (.ref p) (upd H' p (.tup [.str "whole", v]))) → E1 (.ref C) (some dd) H') →
  (∀ (v : V) (H' : Hp), (∀ p, H' p = none → Q (.ref p) (upd H' p (.tup [.str "told", v]))) → Q1 v H') → tl E1 H Q1
theorem ref_gives {X : Cx} {g C CT : Addr} {cdg : Value} {q : Str} (T : ErrC X.K C "thing") (gN : X.mg "NotWhole" = some (.ref C)) (gT : X.mg "TermError" = some (.ref CT)) (e1 : PySem.W.exmOne X.K (.ref C) (.ref C) = some true) :
    LamX.GivesTo X N_ref "_law_refused" (defScope s__law_refused) g cdg (defBody s__law_refused) "_law_call" q (TTref C) := by
  intro f c' s H Q tl act hc h
  refine ⟨_, pss_cons (ps_tryN (tb := fun W D σ H => ∃ Ech : XK, (∀ cls d σ' H', Ech cls d H' → σ'.length = 3 → W cls d σ' H') ∧ tAsg (fun σZ HZ Q => σZ[0]? = some (some (.ref f)) ∧ HZ c' = some (LamX.CodeO c' q) ∧ tl Ech HZ Q) (gName 1) D σ H) rfl rfl sc_ref.nd LamX.takes0
      (fun W pn xe tk _ => ?_)
      (HdN.named (i := 2) ⟨rfl, by decide, .inl gN⟩ rfl rfl (fun a oe cls d pn hz hf => pss_one (ps_ret (pe_tup (pa_cons pe_str (pa_cons (pe_xf (X := (cxOf C8.CX0 X.prog X.w X.K X.mg X.base N_ref "_law_refused" (defScope s__law_refused) g cdg X.A X.stack s H C8.E0).nox) (C := C) T.xf T.no hz hf (pv 2)) pa_nil)))))
        (HdN.plain ⟨rfl, by decide, .inl gT⟩ (fun _ _ _ _ _ _ _ => pss_one (ps_ret (pe_tup (pa_cons pe_str (pa_cons pe_non pa_nil))))) .nil)))
    (pss_one (ps_ret (pe_tup (pa_cons pe_str (pa_cons (pv 1) pa_nil))))), ?_⟩
  · refine ⟨fun pins s' σ H' D I h' => ?_⟩
    obtain ⟨Ech, hW, h'⟩ := h'
    exact (pss_one (ps_set (i := 1) sc_ref.nd rfl (Or.inl rfl) (act (fun cls d σ H => σ.length = 3 → W cls d σ H) pn xe Ech _ _ (takes_len tk) hW))).run pins s' σ H' D I h'
  · refine ⟨fun cls d H' => cls = .ref C ∧ ∃ (dd : Addr) (v : V), d = some dd ∧ H' dd = some (.xd [("thing", v)]) ∧ ∀ p, H' p = none → Q (.ref p) (upd H' p (.tup [.str "whole", v])), ?_, rfl, hc, h _ _ ?_ ?_⟩
    · rintro cls d σ' H' ⟨rfl, dd, v, rfl, hd, k⟩ hl
      obtain ⟨a0, a1, a2, rfl⟩ : ∃ a0 a1 a2, σ' = [a0, a1, a2] := match σ', hl with | [a0, a1, a2], _ => ⟨a0, a1, a2, rfl⟩
      refine ⟨true, e1, fun _ a na => ?_, fun z => by cases z⟩
      exact ⟨_, rfl, rfl, rfl, dd, _, v, rfl, hd, rfl, (by show (2 : Nat) ≤ sizeLine; decide), k⟩
    · exact fun dd v H' hd k => ⟨rfl, dd, v, rfl, hd, k⟩
    · exact fun v H' k => ⟨v, rfl, (by show (2 : Nat) ≤ sizeLine; decide), k⟩
/-- _law_refused(lambda: body) -/
theorem pe_lamR {X : Cx} {c P C CT : Addr} {k j : Nat} {params : Arguments} {body : Expr} {scope : Scope} {t : XK → TE} {p lpos pos : Pos} {T : List (Addr × Str)} (hg : Gl X "_law_refused") (DR : Df X.K X.mg "_law_refused" s__law_refused ["_law_call"])
    (E1 : ErrC X.K C "thing") (gN : X.mg "NotWhole" = some (.ref C)) (gT : X.mg "TermError" = some (.ref CT)) (e1 : PySem.W.exmOne X.K (.ref C) (.ref C) = some true)
    (TB : LamX.TabB X.base X.mg c P) (hcode : X.env.code = .ref c) (hm : (P, X.env.qual ++ "<lambda>") ∈ T) (hu : ∀ p ∈ T, p.1 = P → p.2 = X.env.qual ++ "<lambda>") (hr : Room j X.A) (hj : k + 2 ≤ j) (L : LamX.LamS X.env.scope scope) (hdef : defaultsOf params X.env = ([], []))
    (hbind : ∀ (q : Str) (cl : List (Str × Addr)) (pm cv ctv : Value), bindArgs (PySem.W.kla_fn "<lambda>" q params body scope cl pm cv ctv) ⟨[], []⟩ = pure [])
    (hbody : ∀ (A : Around) (outer : List Env) (s : Shared) (H : Hp) (E : XK) (f c' : Addr), Room k (A.deeper (LamX.lamEnv X scope s.heap.objs.size f c')) → PE (LamX.lamCx X A outer s H E scope f c') body (t E)) :
    PE X (.Call (.Name "_law_refused" p) [.Lambda params body scope lpos] [] pos) (LamX.tLam T (TTref C) t) := by
  obtain ⟨g, fd, F, hmg, b⟩ := DR.ex
  obtain ⟨oc, od, kV, doc, pm, an, cdv, ct, osl, rfl, lk, hcd⟩ := F.ex
  exact LamX.pe_lamcall (Ng := N_ref) hg hmg F.kp lk hcd b sc_ref rfl (Or.inl rfl) (ref_gives E1 gN gT e1) TB hcode hm hu (hr.mono hj) L hdef hbind hbody
/-- what a lambda's body may let out -/
theorem passL {X : Cx} {A : Around} {outer : List Env} {s : Shared} {H : Hp} {E : XK} {scope : Scope} {f c' : Addr} : Passes (L2.CX X.prog X.w) (LamX.lamCx X A outer s H E scope f c') E :=
  passes_call (takes_of (X := LamX.lamCx X A outer s H E scope f c') (E := E) rfl rfl rfl rfl) fun _ _ _ _ h => h
end Ft

set_option exponentiation.threshold 9000
namespace Ft
open PySem L2
/-! the functions of whole products, also where a product is none -/
def wholeB (ps : List Pq) : Bool := decide (sumR ps % 2 = 0) && decide (sumD ps % 24 = 0)
def fitB (N : Nat) (ps : List Pq) : Bool := wholeB ps && (allD N ps && decide (sumF N ps % 24 = 0))
theorem whole_iff {ps : List Pq} : wholeB ps = true ↔ sumR ps % 2 = 0 ∧ sumD ps % 24 = 0 := by
  unfold wholeB
  rw [Bool.and_eq_true, decide_eq_true_eq, decide_eq_true_eq]
def bigC : Nat := 400 ^ 4
def sp_isWholeG : Sp := fun vs H Q _ => ∃ v ps, vs = [v] ∧ Pd H v ps ∧ PdOk ps ∧ ∀ H', Same H H' → Q (.bl (wholeB ps)) H'
def sp_fitG : Sp := fun vs H Q _ => ∃ v ps N, vs = [v, .int ((N : Nat) : Int)] ∧ Pd H v ps ∧ 1 ≤ N ∧ N ≤ 400 ∧ PdOk ps ∧ ∀ H', Same H H' → Q (.bl (fitB N ps)) H'
def sp_plevelG : Sp := fun vs H Q _ => ∃ v ps, vs = [v] ∧ Pd H v ps ∧ PdOk ps ∧ 0 < comP ps ∧ comP ps ≤ bigC ∧ ∀ H', Same H H' → Q (if wholeB ps then .int ((lvP ps : Nat) : Int) else .non) H'
def sp_psignX (C : Addr) : Sp := fun vs H Q E => ∃ v ps, vs = [v] ∧ Pd H v ps ∧ PdOk ps ∧ oddP ps ≤ 400 ^ 6 ∧ (wholeB ps = true → ∀ H' b, Same H H' → Bare (mOf ps) b → Q (.int (sgnOf b)) H') ∧
  (wholeB ps = false → ∀ H' d, Same H H' → H' d = none → E (.ref C) (some d) (upd H' d (.xd [("thing", v)])))
section
variable {P : Program} {w : World} {K : PySem.W.Frag} {mg : Str → Option Value} {base : Heap}
theorem ok_isWholeG (D : Df K mg "is_whole" s_is_whole ["product"]) (B : Bi mg) : Cal P w K mg base 1 "is_whole" sp_isWholeG := by
  obtain ⟨f, fd, F, m, b⟩ := D.ex
  have sc := sc_is_whole
  refine ⟨f, fd, _, F.ok sc (fun _ _ _ _ ⟨_, _, e, _⟩ => by rw [e]; rfl) (fun cdv A outer s H vs Q E hr h => ?_), m, F.kp, b⟩
  obtain ⟨v, ps, rfl, ⟨p, us, rfl, hp, hus⟩, ok, q⟩ := h
  refine ⟨_, (pss_one (ps_ret (pe_and (pe_cmpR op_eq (pe_op op_mod (pe_callB (id := "sum") (r := rSum K) (cr_sum rfl) (by rfl) B.sum (by decide +kernel) (pa_cons (pe_lc (own := [("d", 1), ("r", 2)]) (g := gTup K 2 (gCons (gName 1) (gCons (gName 2) gNil))) (tt := tYes) (by rfl) sc.nd (pi_tup (pv 0)) (blkOk_by (own := [("d", 1), ("r", 2)]) (N := N_is_whole) (sc := defScope s_is_whole) (by decide +kernel)) (fun _ _ _ _ _ => (pg_tup rfl (pgs_cons (pg_name (i := 1) sc.nd rfl (Or.inl rfl) (Or.inr rfl)) (pgs_cons (pg_name (i := 2) sc.nd rfl (Or.inl rfl) (Or.inr rfl)) pgs_nil)))) (fun _ _ _ _ _ => pts_nil) (fun _ _ _ _ _ => (pv 2))) pa_nil)) pe_int) pe_int (nomark _)) (pe_one (pe_cmpR op_eq (pe_op op_mod (pe_callB (id := "sum") (r := rSum K) (cr_sum rfl) (by rfl) B.sum (by decide +kernel) (pa_cons (pe_lc (own := [("d", 1), ("r", 2)]) (g := gTup K 2 (gCons (gName 1) (gCons (gName 2) gNil))) (tt := tYes) (by rfl) sc.nd (pi_tup (pv 0)) (blkOk_by (own := [("d", 1), ("r", 2)]) (N := N_is_whole) (sc := defScope s_is_whole) (by decide +kernel)) (fun _ _ _ _ _ => (pg_tup rfl (pgs_cons (pg_name (i := 1) sc.nd rfl (Or.inl rfl) (Or.inr rfl)) (pgs_cons (pg_name (i := 2) sc.nd rfl (Or.inl rfl) (Or.inr rfl)) pgs_nil)))) (fun _ _ _ _ _ => pts_nil) (fun _ _ _ _ _ => (pe_op op_mulW (pv 1) (pv 2)))) pa_nil)) pe_int) pe_int (nomark _)))))), ?_⟩
  have lu := hus.len
  have l8 := ok.len
  refine ⟨_, rfl, p, rfl, ⟨_, .inl (hp)⟩, fun D1 hD1 => ?_⟩
  refine lc_tup (K := K) (a := p) (xs := us) (fun i H' => Same H H' ∧ H' D1 = some (.lst (((ps.take i).map (fun e => e.2)).map V.int))) ⟨Same.upd_new hD1, upd_same⟩ (fun i H' _ ⟨z, _⟩ => .inl (rds z (hp))) ?_ ?_
  · rintro i x H1 hx ⟨s1, h1⟩
    obtain ⟨e, he, t, rfl, ht⟩ := (hus).get hx
    have hem := List.mem_of_getElem? he
    have er := ok.rng e hem
    refine ⟨t, _, rfl, SqT.of (s1 _ _ ht), rfl, _, _, rfl, _, _, rfl, rfl, rfl, ?_⟩
    refine ⟨_, rfl, ?_⟩
    refine ⟨_, h1, ?_, fun b o e => ?_, ?_⟩
    · rw [List.length_map, List.length_map, List.length_take]
      exact Nat.lt_of_le_of_lt (by omega : _ ≤ 8) (by decide)
    · rw [upd_ne (ne_of_none e hD1)]
      exact s1 _ _ e
    · rw [upd_same, List.take_add_one, he, List.map_append, List.map_append]
      rfl
  rintro H1 ⟨s1, h1⟩
  rw [lu, List.take_length] at h1
  refine ⟨D1, _, rfl, SqL.of h1, ?_⟩
  refine ⟨_, _, rfl, rfl, (by show (0 : Int) < 2; decide), rfl, _, rfl, ifI (fun hw => ?_) fun nw => by
    rw [show wholeB ps = false from by unfold wholeB; rw [decide_eq_false (show ¬ sumR ps % 2 = 0 from nw)]; rfl] at q
    exact q _ s1⟩
  refine ⟨_, rfl, p, rfl, ⟨_, .inl (rds s1 hp)⟩, fun D2 hD2 => ?_⟩
  refine lc_tup (K := K) (a := p) (xs := us) (fun i H' => Same H1 H' ∧ H' D2 = some (.lst (((ps.take i).map (fun e => (e.1 : Int) * e.2)).map V.int))) ⟨Same.upd_new hD2, upd_same⟩ (fun i H' _ ⟨z, _⟩ => .inl (rds z (rds s1 hp))) ?_ ?_
  · rintro i x H2 hx ⟨s2, h2⟩
    obtain ⟨e, he, t, rfl, ht⟩ := (hus.same s1).get hx
    have hem := List.mem_of_getElem? he
    have er := ok.rng e hem
    refine ⟨t, _, rfl, SqT.of (s2 _ _ ht), rfl, _, _, rfl, _, _, rfl, rfl, rfl, ?_⟩
    refine ⟨_, rfl, _, rfl, _, _, rfl, rfl, mulE er, ?_⟩
    refine ⟨_, h2, ?_, fun b o e => ?_, ?_⟩
    · rw [List.length_map, List.length_map, List.length_take]
      exact Nat.lt_of_le_of_lt (by omega : _ ≤ 8) (by decide)
    · rw [upd_ne (ne_of_none e hD2)]
      exact s2 _ _ e
    · rw [upd_same, List.take_add_one, he, List.map_append, List.map_append]
      rfl
  rintro H2 ⟨s2, h2⟩
  rw [lu, List.take_length] at h2
  refine ⟨D2, _, rfl, SqL.of h2, ?_⟩
  refine ⟨_, _, rfl, rfl, (by show (0 : Int) < 24; decide), rfl, ?_⟩
  have e0 : decide ((fun i j : Int => V.int (i % j)) ((ps.map fun e => (e.1 : Int) * e.2).sum) 24 = V.int 0) = wholeB ps := by
    unfold wholeB
    rw [decide_eq_true (show sumR ps % 2 = 0 from hw), Bool.true_and]
    exact decide_eq_decide.mpr ⟨fun z => V.int.inj z, fun z => congrArg V.int z⟩
  rw [e0]
  exact q _ (s1.trans s2)
theorem fn_fitG {f : Addr} {fd : FuncData} (F : Fun K "does_fit" "does_fit" s_does_fit f fd) (B : Bi mg) (c_check_product : Cal P w K mg base 6 "check_product" sp_checkProd) (c_check_level : Cal P w K mg base 3 "check_level" sp_level) (c_does_all_divide : Cal P w K mg base 1 "does_all_divide" sp_allDiv) (c_is_whole : Cal P w K mg base 1 "is_whole" sp_isWholeG) : FnOk P w K mg base CX0 7 f fd ["product", "level"] sp_fitG := by
  have sc := sc_does_fit
  refine F.ok sc (fun _ _ _ _ ⟨_, _, _, e, _⟩ => by rw [e]; rfl) (fun cdv A outer s H vs Q E hr h => ?_)
  obtain ⟨v, ps, N, rfl, hv, N1, N4, ok, q⟩ := h
  refine ⟨_, (pss_cons (ps_expr (pe_c c_check_product hr (by decide) (by rfl) (pa_cons (pv 0) pa_nil)))
      (pss_cons (ps_expr (pe_c c_check_level hr (by decide) (by rfl) (pa_cons (pv 1) pa_nil)))
      (pss_cons (ps_if (PW.pt (pw_or (pt_not (pt_val (pe_c c_is_whole hr (by decide) (by rfl) (pa_cons (pv 0) pa_nil)))) (pw_or1 (pt_not (pt_val (pe_c c_does_all_divide hr (by decide) (by rfl) (pa_cons (pv 0) (pa_cons (pv 1) pa_nil))))))))
      (pss_one (ps_ret pe_bl))
      pss_nil)
      (pss_one (ps_ret (pe_cmpR op_eq (pe_op op_mod (pe_callB (id := "sum") (r := rSum K) (cr_sum rfl) (by rfl) B.sum (by decide +kernel) (pa_cons (pe_lc (own := [("d", 2), ("r", 3)]) (g := gTup K 2 (gCons (gName 2) (gCons (gName 3) gNil))) (tt := tYes) (by rfl) sc.nd (pi_tup (pv 0)) (blkOk_by (own := [("d", 2), ("r", 3)]) (N := N_does_fit) (sc := defScope s_does_fit) (by decide +kernel)) (fun _ _ _ _ _ => (pg_tup rfl (pgs_cons (pg_name (i := 2) sc.nd rfl (Or.inl rfl) (Or.inr rfl)) (pgs_cons (pg_name (i := 3) sc.nd rfl (Or.inl rfl) (Or.inr rfl)) pgs_nil)))) (fun _ _ _ _ _ => pts_nil) (fun _ _ _ _ _ => (pe_op op_mulW (pe_op op_fdivW (pv 1) (pv 2)) (pv 3)))) pa_nil)) pe_int) pe_int (nomark _))))))), ?_⟩
  refine ⟨_, rfl, v, ps, rfl, hv, ok, fun H1 s1 => ?_⟩
  refine ⟨_, rfl, N, rfl, N1, N4, ?_⟩
  refine ⟨_, rfl, v, ps, rfl, hv.same s1, ok, fun H2 s2 => ⟨wholeB ps, rfl, ?_⟩⟩
  cases hw : wholeB ps with
  | false =>
    rw [show fitB N ps = false from by unfold fitB; rw [hw]; rfl] at q
    exact iteT (q _ (s1.trans s2))
  | true =>
  refine iteF ?_
  refine ⟨_, rfl, _, rfl, v, ps, N, rfl, hv.same (s1.trans s2), ok, fun H3 s3 => ?_⟩
  refine ⟨allD N ps, rfl, ?_⟩
  cases ha : allD N ps with
  | false =>
    rw [show fitB N ps = false from by unfold fitB; rw [hw, ha]; rfl] at q
    exact iteT (q _ (s1.trans (s2.trans s3)))
  | true =>
  refine iteF ?_
  dsimp only [tNext]
  have s03 := s1.trans (s2.trans s3)
  obtain ⟨p, us, rfl, hp, hus⟩ := hv.same s03
  have lu := hus.len
  have l8 := ok.len
  refine ⟨_, rfl, p, rfl, ⟨_, .inl (hp)⟩, fun D4 hD4 => ?_⟩
  refine lc_tup (K := K) (a := p) (xs := us) (fun i H' => Same H3 H' ∧ H' D4 = some (.lst (((ps.take i).map (fun e => ((N / e.1 : Nat) : Int) * e.2)).map V.int))) ⟨Same.upd_new hD4, upd_same⟩ (fun i H' _ ⟨z, _⟩ => .inl (rds z (hp))) ?_ ?_
  · rintro i x H4 hx ⟨s4, h4⟩
    obtain ⟨e, he, t, rfl, ht⟩ := (hus).get hx
    have hem := List.mem_of_getElem? he
    have er := ok.rng e hem
    refine ⟨t, _, rfl, SqT.of (s4 _ _ ht), rfl, _, _, rfl, _, _, rfl, rfl, rfl, ?_⟩
    refine ⟨_, rfl, _, rfl, _, _, rfl, rfl, wide_div (b := 8000) (by show (0 : Int) < (e.1 : Int); omega) (Nat.lt_of_le_of_lt er.2.1 (by decide)) (by decide) (by decide), ?_⟩
    dsimp only
    rw [show (N : Int) / (e.1 : Int) = ((N / e.1 : Nat) : Int) from (Int.natCast_ediv N e.1).symm]
    refine ⟨_, rfl, _, _, rfl, rfl, mul8 (by rw [Int.natAbs_natCast]; exact Nat.lt_of_le_of_lt (Nat.le_trans (Nat.div_le_self _ _) N4) (by decide)) (Nat.lt_of_le_of_lt er.2.2.1 (by decide)), ?_⟩
    refine ⟨_, h4, ?_, fun b o e => ?_, ?_⟩
    · rw [List.length_map, List.length_map, List.length_take]
      exact Nat.lt_of_le_of_lt (by omega : _ ≤ 8) (by decide)
    · rw [upd_ne (ne_of_none e hD4)]
      exact s4 _ _ e
    · rw [upd_same, List.take_add_one, he, List.map_append, List.map_append]
      rfl
  rintro H4 ⟨s4, h4⟩
  rw [lu, List.take_length] at h4
  refine ⟨D4, _, rfl, SqL.of h4, ?_⟩
  refine ⟨_, _, rfl, rfl, (by show (0 : Int) < 24; decide), rfl, ?_⟩
  have e0 : decide ((fun i j : Int => V.int (i % j)) ((ps.map fun e => ((N / e.1 : Nat) : Int) * e.2).sum) 24 = V.int 0) = fitB N ps := by
    unfold fitB
    rw [hw, ha, Bool.true_and, Bool.true_and]
    exact decide_eq_decide.mpr ⟨fun z => V.int.inj z, fun z => congrArg V.int z⟩
  rw [e0]
  exact q _ (s03.trans s4)
theorem fn_plevelG {f : Addr} {fd : FuncData} (F : Fun K "product_level" "product_level" s_product_level f fd) (B : Bi mg) (c_check_product : Cal P w K mg base 6 "check_product" sp_checkProd) (c_is_whole : Cal P w K mg base 1 "is_whole" sp_isWholeG) (c_common_multiple : Cal P w K mg base 1 "common_multiple" sp_common) : FnOk P w K mg base CX0 7 f fd ["product"] sp_plevelG := by
  have sc := sc_product_level
  refine F.ok sc (fun _ _ _ _ ⟨_, _, e, _⟩ => by rw [e]; rfl) (fun cdv A outer s H vs Q E hr h => ?_)
  obtain ⟨v, ps, rfl, hv, ok, cp, cN, q⟩ := h
  refine ⟨_, (pss_cons (ps_expr (pe_c c_check_product hr (by decide) (by rfl) (pa_cons (pv 0) pa_nil)))
      (pss_cons (ps_if (pt_not (pt_val (pe_c c_is_whole hr (by decide) (by rfl) (pa_cons (pv 0) pa_nil))))
      (pss_one (ps_ret pe_non))
      pss_nil)
      (pss_cons (ps_set (i := 3) sc.nd rfl (Or.inr rfl) (pe_c c_common_multiple hr (by decide) (by rfl) (pa_cons (pe_lc (own := [("d", 1), ("r", 2)]) (g := gTup K 2 (gCons (gName 1) (gCons (gName 2) gNil))) (tt := tYes) (by rfl) sc.nd (pi_tup (pv 0)) (blkOk_by (own := [("d", 1), ("r", 2)]) (N := N_product_level) (sc := defScope s_product_level) (by decide +kernel)) (fun _ _ _ _ _ => (pg_tup rfl (pgs_cons (pg_name (i := 1) sc.nd rfl (Or.inl rfl) (Or.inr rfl)) (pgs_cons (pg_name (i := 2) sc.nd rfl (Or.inl rfl) (Or.inr rfl)) pgs_nil)))) (fun _ _ _ _ _ => pts_nil) (fun _ _ _ _ _ => (pv 1))) pa_nil)))
      (pss_cons (ps_set (i := 4) sc.nd rfl (Or.inl rfl) (pe_callB (id := "sum") (r := rSum K) (cr_sum rfl) (by rfl) B.sum (by decide +kernel) (pa_cons (pe_lc (own := [("d", 1), ("r", 2)]) (g := gTup K 2 (gCons (gName 1) (gCons (gName 2) gNil))) (tt := tYes) (by rfl) sc.nd (pi_tup (pv 0)) (blkOk_by (own := [("d", 1), ("r", 2)]) (N := N_product_level) (sc := defScope s_product_level) (by decide +kernel)) (fun _ _ _ _ _ => (pg_tup rfl (pgs_cons (pg_name (i := 1) sc.nd rfl (Or.inl rfl) (Or.inr rfl)) (pgs_cons (pg_name (i := 2) sc.nd rfl (Or.inl rfl) (Or.inr rfl)) pgs_nil)))) (fun _ _ _ _ _ => pts_nil) (fun _ _ _ _ _ => (pe_op op_mulW (pe_op op_fdivW (pv 3) (pv 1)) (pv 2)))) pa_nil)))
      (pss_one (ps_ret (pe_op op_mulW (pv 3) (pe_op op_fdivW pe_int (pe_callBfun cr_gcd (by rfl) B.gcd (pa_cons pe_int (pa_cons (pv 4) pa_nil))))))))))), ?_⟩
  have cB : comP ps < 2 ^ 60 := Nat.lt_of_le_of_lt cN (by unfold bigC; decide)
  have cB' : comP ps < 2 ^ 4000 := Nat.lt_trans cB (by decide)
  refine ⟨_, rfl, v, ps, rfl, hv, ok, fun H1 s1 => ?_⟩
  refine ⟨_, rfl, v, ps, rfl, hv.same s1, ok, fun H2 s2 => ⟨wholeB ps, rfl, ?_⟩⟩
  cases hw : wholeB ps with
  | false =>
    rw [hw] at q
    exact iteT (q _ (s1.trans s2))
  | true =>
  rw [hw] at q
  refine iteF ?_
  dsimp only [tNext]
  have s02 := s1.trans s2
  obtain ⟨p, us, rfl, hp, hus⟩ := hv.same s02
  have lu := hus.len
  have l8 := ok.len
  refine ⟨_, rfl, p, rfl, ⟨_, .inl (hp)⟩, fun D3 hD3 => ?_⟩
  refine lc_tup (K := K) (a := p) (xs := us) (fun i H' => Same H2 H' ∧ H' D3 = some (.lst (((ps.take i).map (fun e => ((e.1 : Nat) : Int))).map V.int))) ⟨Same.upd_new hD3, upd_same⟩ (fun i H' _ ⟨z, _⟩ => .inl (rds z (hp))) ?_ ?_
  · rintro i x H3 hx ⟨s3, h3⟩
    obtain ⟨e, he, t, rfl, ht⟩ := (hus).get hx
    have hem := List.mem_of_getElem? he
    have er := ok.rng e hem
    refine ⟨t, _, rfl, SqT.of (s3 _ _ ht), rfl, _, _, rfl, _, _, rfl, rfl, rfl, ?_⟩
    refine ⟨_, rfl, ?_⟩
    refine ⟨_, h3, ?_, fun b o e => ?_, ?_⟩
    · rw [List.length_map, List.length_map, List.length_take]
      exact Nat.lt_of_le_of_lt (by omega : _ ≤ 8) (by decide)
    · rw [upd_ne (ne_of_none e hD3)]
      exact s3 _ _ e
    · rw [upd_same, List.take_add_one, he, List.map_append, List.map_append]
      rfl
  rintro H3 ⟨s3, h3⟩
  rw [lu, List.take_length] at h3
  refine ⟨D3, ps.map (·.1), comP ps, rfl, by rw [h3, List.map_map, List.map_map]; rfl, cp, cB, fun b hb => ?_, ?_⟩
  · obtain ⟨e, he, rfl⟩ := List.mem_map.mp hb
    exact dvd_com he
  rw [show (ps.map fun x => x.1).foldl Nat.lcm 1 = comP ps from rfl]
  dsimp only [gName]
  refine ⟨_, rfl, p, rfl, ⟨_, .inl (rds s3 hp)⟩, fun D4 hD4 => ?_⟩
  refine lc_tup (K := K) (a := p) (xs := us) (fun i H' => Same H3 H' ∧ H' D4 = some (.lst (((ps.take i).map (fun e => ((comP ps / e.1 : Nat) : Int) * e.2)).map V.int))) ⟨Same.upd_new hD4, upd_same⟩ (fun i H' _ ⟨z, _⟩ => .inl (rds z (rds s3 hp))) ?_ ?_
  · rintro i x H4 hx ⟨s4, h4⟩
    obtain ⟨e, he, t, rfl, ht⟩ := (hus.same s3).get hx
    have hem := List.mem_of_getElem? he
    have er := ok.rng e hem
    refine ⟨t, _, rfl, SqT.of (s4 _ _ ht), rfl, _, _, rfl, _, _, rfl, rfl, rfl, ?_⟩
    refine ⟨_, rfl, _, rfl, _, _, rfl, rfl, wide_div (b := 8000) (by show (0 : Int) < (e.1 : Int); omega) (Nat.lt_of_le_of_lt er.2.1 (by decide)) (by decide) (by decide), ?_⟩
    dsimp only
    rw [show ((comP ps : Nat) : Int) / (e.1 : Int) = ((comP ps / e.1 : Nat) : Int) from (Int.natCast_ediv _ e.1).symm]
    refine ⟨_, rfl, _, _, rfl, rfl, mul8 (by rw [Int.natAbs_natCast]; exact Nat.lt_of_le_of_lt (Nat.div_le_self _ _) (Nat.lt_trans cB (by decide))) (Nat.lt_of_le_of_lt er.2.2.1 (by decide)), ?_⟩
    refine ⟨_, h4, ?_, fun b o e => ?_, ?_⟩
    · rw [List.length_map, List.length_map, List.length_take]
      exact Nat.lt_of_le_of_lt (by omega : _ ≤ 8) (by decide)
    · rw [upd_ne (ne_of_none e hD4)]
      exact s4 _ _ e
    · rw [upd_same, List.take_add_one, he, List.map_append, List.map_append]
      rfl
  rintro H4 ⟨s4, h4⟩
  rw [lu, List.take_length] at h4
  refine ⟨D4, _, rfl, SqL.of h4, ?_⟩
  rw [show (ps.map fun e => ((comP ps / e.1 : Nat) : Int) * e.2).sum = sumF (comP ps) ps from rfl]
  dsimp only [gName]
  refine ⟨_, rfl, _, rfl, 24, sumF (comP ps) ps, rfl, ?_⟩
  have g0 : 0 < Nat.gcd 24 (sumF (comP ps) ps).natAbs := Nat.gcd_pos_of_pos_left _ (by decide)
  have g1 : Nat.gcd 24 (sumF (comP ps) ps).natAbs ≤ 24 := Nat.le_of_dvd (by decide) (Nat.gcd_dvd_left _ _)
  rw [show Nat.gcd (24 : Int).natAbs (sumF (comP ps) ps).natAbs = Nat.gcd 24 (sumF (comP ps) ps).natAbs from rfl]
  have hl : lvP ps = comP ps * (24 / Nat.gcd 24 (sumF (comP ps) ps).natAbs) := rfl
  generalize Nat.gcd 24 (sumF (comP ps) ps).natAbs = g at g0 g1 hl
  have e24 : (24 : Int) / (g : Int) = ((24 / g : Nat) : Int) := (Int.natCast_ediv 24 g).symm
  refine ⟨_, _, rfl, rfl, wide_div (b := 8000) (by show (0 : Int) < (g : Int); omega) (Nat.lt_of_le_of_lt g1 (by decide)) (by decide) (by decide), ?_⟩
  dsimp only
  rw [e24]
  refine ⟨_, _, rfl, rfl, mul8 (by rw [Int.natAbs_natCast]; exact Nat.lt_trans cB (by decide)) (by rw [Int.natAbs_natCast]; exact Nat.lt_of_le_of_lt (Nat.div_le_self _ _) (by decide)), ?_⟩
  dsimp only
  rw [← Int.natCast_mul, ← hl]
  exact q _ (s02.trans (s3.trans s4))
theorem fn_psignX {f : Addr} {fd : FuncData} {C : Addr} (F : Fun K "product_sign" "product_sign" s_product_sign f fd) (B : Bi mg) (T : Err P w K mg base "NotWhole" C "thing") (c_check_product : Cal P w K mg base 6 "check_product" sp_checkProd) (c_is_whole : Cal P w K mg base 1 "is_whole" sp_isWholeG) (c_any_sign_of : Cal P w K mg base 2 "any_sign_of" sp_signI) : FnOk P w K mg base (L2.CX P w) 7 f fd ["product"] (sp_psignX C) := by
  have sc := sc_product_sign
  refine F.okX sc (fun _ _ _ _ ⟨_, _, e, _⟩ => by rw [e]; rfl) (fun cdv A outer s H vs Q E hr h => ?_)
  obtain ⟨v, ps, rfl, hv, ok, h144, q, qn⟩ := h
  refine ⟨_, (pss_cons (ps_expr (pe_c c_check_product hr (by decide) (by rfl) (pa_cons (pv 0) pa_nil)))
      (pss_cons (ps_if (pt_not (pt_val (pe_c c_is_whole hr (by decide) (by rfl) (pa_cons (pv 0) pa_nil))))
      (pss_one (ps_raise rfl (takes_of rfl rfl rfl rfl) (pmk_err T hr (by decide) (by rfl) (pa_cons (pv 0) pa_nil))))
      pss_nil)
      (pss_cons (ps_set (i := 3) sc.nd rfl (Or.inl rfl) (pe_op op_fdivW (pe_callB (id := "sum") (r := rSum K) (cr_sum rfl) (by rfl) B.sum (by decide +kernel) (pa_cons (pe_lc (own := [("d", 1), ("r", 2)]) (g := gTup K 2 (gCons (gName 1) (gCons (gName 2) gNil))) (tt := tYes) (by rfl) sc.nd (pi_tup (pv 0)) (blkOk_by (own := [("d", 1), ("r", 2)]) (N := N_product_sign) (sc := defScope s_product_sign) (by decide +kernel)) (fun _ _ _ _ _ => (pg_tup rfl (pgs_cons (pg_name (i := 1) sc.nd rfl (Or.inl rfl) (Or.inr rfl)) (pgs_cons (pg_name (i := 2) sc.nd rfl (Or.inl rfl) (Or.inr rfl)) pgs_nil)))) (fun _ _ _ _ _ => pts_nil) (fun _ _ _ _ _ => (pv 2))) pa_nil)) pe_int))
      (pss_cons (ps_set (i := 4) sc.nd rfl (Or.inl rfl) (pe_ifExp (pt_cmpR op_eq (pe_op op_mod (pv 3) pe_int) pe_int (nomark _)) pe_int (pe_un un_neg pe_int)))
      (pss_cons (ps_for (passes_of rfl) rfl (pi_tup (pv 0)) (pg_tup rfl (pgs_cons (pg_name (i := 1) sc.nd rfl (Or.inl rfl)) (pgs_cons (pg_name (i := 2) sc.nd rfl (Or.inl rfl)) pgs_nil)))
      (pss_one (ps_if (pt_cmpR op_eq (pe_op op_mod (pv 2) pe_int) pe_int (nomark _))
        (pss_one (ps_set (i := 4) sc.nd rfl (Or.inl rfl) (pe_op op_mulW (pv 4) (pv 1))))
        pss_nil)))
      (pss_one (ps_ret (pe_c c_any_sign_of hr (by decide) (by rfl) (pa_cons (pv 4) pa_nil))))))))), ?_⟩
  refine ⟨_, rfl, v, ps, rfl, hv, ok, fun H1 s1 => ?_⟩
  refine ⟨_, rfl, v, ps, rfl, hv.same s1, ok, fun H2 s2 => ⟨wholeB ps, rfl, ?_⟩⟩
  cases hb : wholeB ps with
  | false => exact iteT ⟨_, rfl, v, rfl, fun d hd => qn hb _ _ (s1.trans s2) hd⟩
  | true =>
  obtain ⟨hw, hs⟩ := whole_iff.mp hb
  have q := q hb
  refine iteF ?_
  dsimp only [tNext]
  have s02 := s1.trans s2
  obtain ⟨p, us, rfl, hp, hus⟩ := hv.same s02
  have lu := hus.len
  have l8 := ok.len
  refine ⟨_, rfl, p, rfl, ⟨_, .inl (hp)⟩, fun D3 hD3 => ?_⟩
  refine lc_tup (K := K) (a := p) (xs := us) (fun i H' => Same H2 H' ∧ H' D3 = some (.lst (((ps.take i).map (fun e => e.2)).map V.int))) ⟨Same.upd_new hD3, upd_same⟩ (fun i H' _ ⟨z, _⟩ => .inl (rds z (hp))) ?_ ?_
  · rintro i x H3 hx ⟨s3, h3⟩
    obtain ⟨e, he, t, rfl, ht⟩ := (hus).get hx
    have hem := List.mem_of_getElem? he
    have er := ok.rng e hem
    refine ⟨t, _, rfl, SqT.of (s3 _ _ ht), rfl, _, _, rfl, _, _, rfl, rfl, rfl, ?_⟩
    refine ⟨_, rfl, ?_⟩
    refine ⟨_, h3, ?_, fun b o e => ?_, ?_⟩
    · rw [List.length_map, List.length_map, List.length_take]
      exact Nat.lt_of_le_of_lt (by omega : _ ≤ 8) (by decide)
    · rw [upd_ne (ne_of_none e hD3)]
      exact s3 _ _ e
    · rw [upd_same, List.take_add_one, he, List.map_append, List.map_append]
      rfl
  rintro H3 ⟨s3, h3⟩
  rw [lu, List.take_length] at h3
  refine ⟨D3, _, rfl, SqL.of h3, ?_⟩
  rw [show (ps.map fun e => e.2).sum = sumR ps from rfl]
  refine ⟨_, _, rfl, rfl, wide_div (b := 8000) (by decide) (by decide) (by decide) (by decide), ?_⟩
  dsimp only [gName]
  refine tSeq_join (fun σ H' => H3 = H' ∧ σ = [some (.ref p), none, none, some (.int (sumR ps / 2)), some (.int (if (sumR ps / 2) % 2 = 0 then 1 else -1))]) (fun N hN => ?_) ?_
  · refine ⟨_, rfl, _, _, rfl, rfl, (by show (0 : Int) < 2; decide), rfl, _, rfl, ifI (fun e => ?_) fun e => ⟨_, rfl, ?_⟩⟩
    · exact hN _ _ ⟨rfl, by rw [if_pos e]; rfl⟩
    · exact hN _ _ ⟨rfl, by rw [if_neg e]; rfl⟩
  rintro _ _ ⟨rfl, rfl⟩
  have hm : mOf ps = (if (sumR ps / 2) % 2 = 0 then 1 else -1) * ((oddP ps : Nat) : Int) := rfl
  have sg1 : ((if (sumR ps / 2) % 2 = 0 then 1 else -1 : Int)).natAbs = 1 := by split <;> rfl
  generalize (if (sumR ps / 2) % 2 = 0 then (1 : Int) else -1) = sg at hm sg1
  have hp3 := rds s3 hp
  have hus3 := hus.same s3
  have rng : ∀ i, ∀ e ∈ ps.take i, 1 ≤ e.1 ∧ e.1 ≤ 400 := fun i e he => ⟨(ok.rng e (List.mem_of_mem_take he)).1, (ok.rng e (List.mem_of_mem_take he)).2.1⟩
  have bnd : ∀ i, 0 < oddP (ps.take i) ∧ oddP (ps.take i) ≤ 400 ^ 8 := fun i => by
    obtain ⟨a, b⟩ := odd_le (B := 400) (by decide) _ (ps.take i) rfl (rng i)
    exact ⟨a, Nat.le_trans b (Nat.pow_le_pow_right (by decide) (by rw [List.length_take]; omega))⟩
  refine ⟨_, rfl, p, rfl, ⟨_, .inl hp3⟩, for_it (walk_tup (K := K) (xs := us)) (fun i σ H' => H3 = H' ∧ ∃ o1 o2 : Option V, σ = [some (.ref p), o1, o2, some (.int (sumR ps / 2)), some (.int (sg * ((oddP (ps.take i) : Nat) : Int)))]) ⟨rfl, none, none, by rw [show oddP (ps.take 0) = 1 from rfl, show sg * ((1 : Nat) : Int) = sg from Int.mul_one sg]⟩ (fun i σ H' _ ⟨z, _⟩ => by rw [← z]; exact .inl hp3) ?_ ?_⟩
  · rintro i x σ _ Hx hi ⟨rfl, o1, o2, rfl⟩ ⟨rfl, hx⟩
    obtain ⟨e, he, t, rfl, ht⟩ := hus3.get hx
    have er := ok.rng e (List.mem_of_getElem? he)
    have e144 := er.2.1
    have ho := odd_snoc (ps.take i) e
    have htk : ps.take (i + 1) = ps.take i ++ [e] := by rw [List.take_add_one, he]; rfl
    rw [← htk] at ho
    obtain ⟨b1, b2⟩ := bnd i
    refine ⟨t, _, rfl, SqT.of ht, rfl, _, _, rfl, _, _, rfl, rfl, ?_⟩
    refine ⟨_, rfl, _, _, rfl, rfl, (by show (0 : Int) < 2; decide), rfl, _, rfl, ifI (fun e1 => ?_) fun e1 => ?_⟩
    · rw [if_pos e1] at ho
      refine ⟨_, rfl, _, rfl, _, _, rfl, rfl, mul8 ?_ (by rw [Int.natAbs_natCast]; exact Nat.lt_of_le_of_lt e144 (by decide)), ?_⟩
      · rw [Int.natAbs_mul, sg1, Int.natAbs_natCast, Nat.one_mul]
        exact Nat.lt_of_le_of_lt b2 (by decide)
      refine ⟨rfl, some (.int (e.1 : Int)), some (.int e.2), ?_⟩
      show [some (V.ref p), some (V.int (e.1 : Int)), some (V.int e.2), some (V.int (sumR ps / 2)), some (V.int (sg * ((oddP (ps.take i) : Nat) : Int) * (e.1 : Int)))] = _
      rw [ho, Int.natCast_mul, Int.mul_assoc]
    · rw [if_neg e1] at ho
      refine ⟨rfl, some (.int (e.1 : Int)), some (.int e.2), ?_⟩
      rw [ho]
      rfl
  rintro σ _ ⟨rfl, o1, o2, rfl⟩
  rw [lu, List.take_length, ← hm]
  have b8 := bnd ps.length
  rw [List.take_length] at b8
  have mn : (mOf ps).natAbs = oddP ps := by rw [hm, Int.natAbs_mul, sg1, Int.natAbs_natCast, Nat.one_mul]
  refine ⟨_, rfl, mOf ps, rfl, fun z => ?_, by rw [mn]; exact Nat.lt_of_le_of_lt h144 (by decide), fun b hb _ => q _ b (s02.trans s3) hb⟩
  rw [z] at mn
  have : (0 : Int).natAbs = 0 := rfl
  omega
end
end Ft

namespace Ft
open PySem L2
/-! joined products -/
def rOf (ps : List Pq) (d : Nat) : Int := (getP ps d).getD 0
def ind (d k : Nat) : Int := if k = d then 1 else 0
theorem pd_nk {ps : List Pq} (ok : PdOk ps) : Nk ps := ok.asc.imp fun z => Nat.ne_of_lt z
theorem wsum_ind (d : Nat) : ∀ {L : List Pq}, Nk L → wsum (ind d) L = rOf L d
  | [], _ => rfl
  | x :: l, h => by
    have ih := wsum_ind d (L := l) (List.pairwise_cons.mp h).2
    rw [wsum_cons, ih]
    unfold rOf ind
    rw [getP_cons]
    by_cases e : x.1 = d
    · have hno : getP l d = none := getP_none.mpr fun y hy z => (List.pairwise_cons.mp h).1 y hy (e.trans z.symm)
      rw [if_pos e, if_pos e, hno]
      show 1 * x.2 + 0 = x.2
      omega
    · rw [if_neg e, if_neg e]
      omega
theorem len_sub : ∀ {l m : List Nat}, l.Nodup → (∀ x ∈ l, x ∈ m) → l.length ≤ m.length
  | [], _, _, _ => Nat.zero_le _
  | x :: l, m, h, hs => by
    have h := List.nodup_cons.mp h
    have hx := hs x List.mem_cons_self
    have := len_sub (l := l) (m := m.erase x) h.2 fun y hy => (List.mem_erase_of_ne (fun e => h.1 (by rw [← e]; exact hy))).mpr (hs y (List.mem_cons_of_mem _ hy))
    rw [List.length_erase_of_mem hx] at this
    have := List.length_pos_of_mem hx
    rw [List.length_cons]
    omega
structure LwOk (N : Nat) (ps : List Pq) : Prop where
  fit : Fit N ps
  small : ∀ e ∈ ps, e.2.natAbs ≤ 24
theorem rOf_small {N : Nat} {ps : List Pq} (h : LwOk N ps) (d : Nat) : (rOf ps d).natAbs ≤ 24 := by
  unfold rOf
  cases e : getP ps d with
  | none => exact Nat.zero_le _
  | some r => exact h.small _ (getP_mem e)
def joinL (p1 p2 : List Pq) : List Pq := (addAll p1 p2).filter fun e => decide (e.2 ≠ 0)
structure JoinOk (N : Nat) (p1 p2 : List Pq) : Prop where
  small : ∀ e ∈ joinL p1 p2, e.2.natAbs ≤ 48
  len : (joinL p1 p2).length ≤ 8
  mem : ∀ e ∈ joinL p1 p2, N % e.1 = 0 ∧ 1 ≤ e.1 ∧ e.1 ≤ 400 ∧ e.2 ≠ 0
theorem div8 : ∀ N, N < 25 → (divL N).length ≤ 8 := by decide +kernel
theorem join_ok {N : Nat} {p1 p2 : List Pq} (N1 : 1 ≤ N) (N2 : N ≤ 24) (o1 : LwOk N p1) (o2 : LwOk N p2) : JoinOk N p1 p2 := by
  have nk1 := pd_nk o1.fit.ok
  have nk2 := pd_nk o2.fit.ok
  have nk : Nk (addAll p1 p2) := addAll_nk nk1
  have hm : ∀ e ∈ joinL p1 p2, N % e.1 = 0 ∧ 1 ≤ e.1 ∧ e.1 ≤ 400 ∧ e.2 ≠ 0 := fun e he => by
    have he := List.mem_filter.mp he
    obtain ⟨x, hx, hk⟩ := addAll_key he.1
    rw [← hk]
    rcases hx with hx | hx
    · exact ⟨o1.fit.dv x hx, (o1.fit.ok.rng x hx).1, (o1.fit.ok.rng x hx).2.1, of_decide_eq_true he.2⟩
    · exact ⟨o2.fit.dv x hx, (o2.fit.ok.rng x hx).1, (o2.fit.ok.rng x hx).2.1, of_decide_eq_true he.2⟩
  refine ⟨fun e he => ?_, ?_, hm⟩
  · have he := (List.mem_filter.mp he).1
    have h := wsum_addAll (ind e.1) (es := p2) nk1
    rw [wsum_ind _ nk, wsum_ind _ nk1, wsum_ind _ nk2] at h
    have g : rOf (addAll p1 p2) e.1 = e.2 := by unfold rOf; rw [getP_of nk he]; rfl
    have b1 := rOf_small o1 e.1
    have b2 := rOf_small o2 e.1
    omega
  · have nkJ : ((joinL p1 p2).map (·.1)).Nodup := by
      unfold List.Nodup
      rw [List.pairwise_map]
      exact List.Pairwise.filter _ nk
    have := len_sub nkJ (m := divL N) fun x hx => by
      obtain ⟨e, he, rfl⟩ := List.mem_map.mp hx
      exact divL_of N1 (hm e he).1
    rw [List.length_map] at this
    exact Nat.le_trans this (div8 N (by omega))
theorem sumR_w (ps : List Pq) : sumR ps = wsum (fun _ => 1) ps := by
  unfold sumR wsum
  congr 1
  exact List.map_congr_left fun e _ => (Int.one_mul _).symm
theorem wsum_join (w : Nat → Int) {p1 p2 qs : List Pq} (nk : Nk p1) (pm : qs.Perm (joinL p1 p2)) : wsum w qs = wsum w p1 + wsum w p2 := by
  rw [wsum_perm w pm]
  unfold joinL
  rw [wsum_filter, wsum_addAll w nk]
theorem fit_join {N : Nat} {p1 p2 qs : List Pq} (J : JoinOk N p1 p2) (f1 : Fit N p1) (f2 : Fit N p2) (pm : qs.Perm (joinL p1 p2)) (asc : qs.Pairwise fun a b => a.1 < b.1) : Fit N qs := by
  have nk := pd_nk f1.ok
  refine ⟨⟨by rw [pm.length_eq]; exact J.len, fun e he => ?_, asc⟩, fun e he => (J.mem e (pm.mem_iff.mp he)).1, ?_, ?_, ?_⟩
  · have he := pm.mem_iff.mp he
    have := J.mem e he
    exact ⟨this.2.1, this.2.2.1, J.small e he, this.2.2.2⟩
  · have a := f1.w
    have b := f2.w
    rw [sumR_w] at a b ⊢
    rw [wsum_join _ nk pm]
    omega
  · have a := f1.s
    have b := f2.s
    have := wsum_join (fun d => (d : Int)) nk pm
    have e : ∀ l : List Pq, sumD l = wsum (fun d => (d : Int)) l := fun l => rfl
    rw [e] at a b ⊢
    rw [this]
    omega
  · have a := f1.f
    have b := f2.f
    unfold sumF at a b ⊢
    rw [wsum_join _ nk pm]
    omega
def negP (ps : List Pq) : List Pq := ps.map fun e => (e.1, -e.2)
theorem fit_neg {N : Nat} {ps : List Pq} (f : Fit N ps) : Fit N (negP ps) := by
  refine ⟨⟨by unfold negP; rw [List.length_map]; exact f.ok.len, fun e he => ?_, by unfold negP; rw [List.pairwise_map]; exact f.ok.asc⟩, fun e he => ?_, ?_, ?_, ?_⟩
  · obtain ⟨x, hx, rfl⟩ := List.mem_map.mp he
    have := f.ok.rng x hx
    exact ⟨this.1, this.2.1, by rw [Int.natAbs_neg]; exact this.2.2.1, fun z => this.2.2.2 (by have : -x.2 = 0 := z; omega)⟩
  · obtain ⟨x, hx, rfl⟩ := List.mem_map.mp he
    exact f.dv x hx
  · have a := f.w
    rw [sumR_w] at a ⊢
    unfold negP
    rw [wsum_neg]
    omega
  · have a := f.s
    have e : ∀ l : List Pq, sumD l = wsum (fun d => (d : Int)) l := fun l => rfl
    rw [e] at a ⊢
    unfold negP
    rw [wsum_neg]
    omega
  · have a := f.f
    unfold sumF negP at *
    rw [wsum_neg]
    omega
theorem wsum_turn (w : Nat → Int) (N : Nat) (ps : List Pq) : wsum w (turnP N ps) = wsum (fun d => w (N / d)) ps := by
  unfold turnP
  rw [wsum_perm _ (List.reverse_perm _), wsum_map]
theorem wsum_congr {w v : Nat → Int} : ∀ {ps : List Pq}, (∀ e ∈ ps, w e.1 = v e.1) → wsum w ps = wsum v ps
  | [], _ => rfl
  | e :: l, h => by rw [wsum_cons, wsum_cons, h e List.mem_cons_self, wsum_congr fun x hx => h x (List.mem_cons_of_mem _ hx)]
theorem div_back {N d : Nat} (N1 : 1 ≤ N) (h : N % d = 0) : N / (N / d) = d := by
  obtain ⟨k, hk⟩ := Nat.dvd_of_mod_eq_zero h
  have d0 : 0 < d := Nat.pos_of_ne_zero fun e => by rw [e, Nat.zero_mul] at hk; omega
  have k0 : 0 < k := Nat.pos_of_ne_zero fun e => by rw [e, Nat.mul_zero] at hk; omega
  rw [hk, Nat.mul_div_cancel_left _ d0, Nat.mul_div_cancel _ k0]
theorem fit_turn {N : Nat} {ps : List Pq} (N1 : 1 ≤ N) (N4 : N ≤ 400) (f : Fit N ps) : Fit N (turnP N ps) := by
  refine ⟨turn_ok N1 N4 f.ok f.dv, fun e he => ?_, ?_, ?_, ?_⟩
  · obtain ⟨x, hx, rfl⟩ := List.mem_map.mp (List.mem_reverse.mp he)
    exact Nat.mod_eq_zero_of_dvd (Nat.div_dvd_of_dvd (Nat.dvd_of_mod_eq_zero (f.dv x hx)))
  · have a := f.w
    rw [sumR_w] at a ⊢
    rw [wsum_turn]
    exact a
  · have e : ∀ l : List Pq, sumD l = wsum (fun d => (d : Int)) l := fun l => rfl
    rw [e, wsum_turn]
    exact f.f
  · have a := f.s
    have e : ∀ l : List Pq, sumD l = wsum (fun d => (d : Int)) l := fun l => rfl
    unfold sumF
    rw [wsum_turn, wsum_congr (v := fun d => (d : Int)) fun x hx => by rw [div_back N1 (f.dv x hx)]]
    exact a
theorem turn_turn {N : Nat} {ps : List Pq} (N1 : 1 ≤ N) (f : Fit N ps) : turnP N (turnP N ps) = ps := by
  unfold turnP
  rw [List.map_reverse, List.reverse_reverse, List.map_map]
  have : ∀ e ∈ ps, ((fun e : Pq => (N / e.1, e.2)) ∘ fun e : Pq => (N / e.1, e.2)) e = e := fun e he => by
    show (N / (N / e.1), e.2) = e
    rw [div_back N1 (f.dv e he)]
  rw [List.map_congr_left this, List.map_id']
theorem fit_spread {N t : Nat} {ps : List Pq} (t1 : 1 ≤ t) (ht : ∀ e ∈ ps, t * e.1 ≤ 400) (f : Fit N ps) : Fit (N * t) (spP ps t) := by
  refine ⟨spP_ok f.ok t1 ht, fun e he => ?_, ?_, ?_, ?_⟩
  · obtain ⟨x, hx, rfl⟩ := List.mem_map.mp he
    refine Nat.mod_eq_zero_of_dvd ?_
    rw [Nat.mul_comm N t]
    exact Nat.mul_dvd_mul_left _ (Nat.dvd_of_mod_eq_zero (f.dv x hx))
  · have a := f.w
    rw [sumR_w] at a ⊢
    unfold spP
    rw [wsum_map _ (fun d => t * d)]
    exact a
  · have a := f.s
    have e : ∀ l : List Pq, sumD l = wsum (fun d => (d : Int)) l := fun l => rfl
    rw [e] at a ⊢
    unfold spP
    rw [wsum_map _ (fun d => t * d)]
    have := wsum_scale (fun d => ((t * d : Nat) : Int)) (fun d => (d : Int)) 1 (t : Int) ps fun x _ => by rw [Int.mul_one, Int.natCast_mul, Int.mul_comm]
    rw [Int.mul_one] at this
    rw [this]
    exact Int.emod_eq_zero_of_dvd (Int.dvd_trans (Int.dvd_of_emod_eq_zero a) (Int.dvd_mul_right _ _))
  · have a := f.f
    unfold sumF at a ⊢
    unfold spP
    rw [wsum_map _ (fun d => t * d), wsum_congr (v := fun d => ((N / d : Nat) : Int)) fun x hx => ?_]
    · exact a
    · show ((N * t / (t * x.1) : Nat) : Int) = _
      rw [Nat.mul_comm N t, Nat.mul_div_mul_left _ _ (by omega)]
/-! levels -/
theorem sumF_scale {c M : Nat} {ps : List Pq} (hc : c ∣ M) (h : ∀ e ∈ ps, 1 ≤ e.1 ∧ e.1 ∣ c) (c0 : 0 < c) : ((M / c : Nat) : Int) * sumF c ps = sumF M ps := by
  unfold sumF
  have := wsum_scale (fun d => ((M / d : Nat) : Int)) (fun d => ((c / d : Nat) : Int)) 1 ((M / c : Nat) : Int) ps fun x hx => by
    obtain ⟨x1, y, hy⟩ := h x hx
    obtain ⟨k, rfl⟩ := hc
    show ((c * k / x.1 : Nat) : Int) * 1 = ((c / x.1 : Nat) : Int) * ((c * k / c : Nat) : Int)
    rw [Int.mul_one, Nat.mul_div_cancel_left _ c0, hy, Nat.mul_assoc, Nat.mul_div_cancel_left _ x1, Nat.mul_div_cancel_left _ x1, Int.natCast_mul]
  rw [Int.mul_one, Int.mul_comm] at this
  exact this.symm
theorem lv_dvd {M : Nat} {ps : List Pq} (c0 : 0 < comP ps) (r1 : ∀ e ∈ ps, 1 ≤ e.1) (h : ∀ e ∈ ps, e.1 ∣ M) (hf : sumF M ps % 24 = 0) : lvP ps ∣ M := by
  have hc := com_dvd h
  refine lvl_dvd c0 hc ?_
  rw [sumF_scale hc (fun e he => ⟨r1 e he, dvd_com he⟩) c0]
  exact hf
theorem lv_back {M : Nat} {ps : List Pq} (c0 : 0 < comP ps) (r1 : ∀ e ∈ ps, 1 ≤ e.1) (h : lvP ps ∣ M) : (∀ e ∈ ps, e.1 ∣ M) ∧ sumF M ps % 24 = 0 := by
  obtain ⟨hc, hf⟩ := lvl_back c0 h
  refine ⟨fun e he => Nat.dvd_trans (dvd_com he) hc, ?_⟩
  rw [← sumF_scale hc (fun e he => ⟨r1 e he, dvd_com he⟩) c0]
  exact hf
theorem fit_lv {N : Nat} {ps : List Pq} (N1 : 1 ≤ N) (f : Fit N ps) : lvP ps ∣ N :=
  lv_dvd (com_pos N1 f.dv).1 (fun e he => (f.ok.rng e he).1) (fun e he => Nat.dvd_of_mod_eq_zero (f.dv e he)) f.f
theorem lv_join {N : Nat} {p1 p2 qs : List Pq} (N1 : 1 ≤ N) (f1 : Fit N p1) (f2 : Fit N p2) (fq : Fit N qs) (pm : qs.Perm (joinL p1 p2)) : lvP qs ∣ Nat.lcm (lvP p1) (lvP p2) := by
  have r1 : ∀ {ps : List Pq}, Fit N ps → ∀ e ∈ ps, 1 ≤ e.1 := fun f e he => (f.ok.rng e he).1
  obtain ⟨a1, a2⟩ := lv_back (com_pos N1 f1.dv).1 (r1 f1) (Nat.dvd_lcm_left (lvP p1) (lvP p2))
  obtain ⟨b1, b2⟩ := lv_back (com_pos N1 f2.dv).1 (r1 f2) (Nat.dvd_lcm_right (lvP p1) (lvP p2))
  refine lv_dvd (com_pos N1 fq.dv).1 (r1 fq) (fun e he => ?_) ?_
  · obtain ⟨x, hx, hk⟩ := addAll_key ((List.mem_filter.mp (pm.mem_iff.mp he)).1)
    rw [← hk]
    rcases hx with hx | hx
    · exact a1 x hx
    · exact b1 x hx
  · unfold sumF at a2 b2 ⊢
    rw [wsum_join _ (pd_nk f1.ok) pm]
    omega
theorem com_neg (ps : List Pq) : comP (negP ps) = comP ps := by
  unfold comP negP
  rw [List.map_map]
  rfl
theorem lv_neg (ps : List Pq) : lvP (negP ps) = lvP ps := by
  unfold lvP
  rw [com_neg]
  have : sumF (comP ps) (negP ps) = -sumF (comP ps) ps := by
    unfold sumF negP
    rw [wsum_neg]
  rw [this]
  unfold lvl
  rw [Int.natAbs_neg]
/-! signs -/
def oddW (e : Pq) : Nat := if e.2 % 2 = 1 then e.1 else 1
theorem odd_go : ∀ (ps : List Pq) (a : Nat), ps.foldl (fun a e => if e.2 % 2 = 1 then a * e.1 else a) a = a * oddP ps
  | [], a => (Nat.mul_one a).symm
  | e :: ps, a => by
    show ps.foldl _ (if e.2 % 2 = 1 then a * e.1 else a) = a * ps.foldl _ (if e.2 % 2 = 1 then 1 * e.1 else 1)
    rw [odd_go ps, odd_go ps]
    split
    · rw [Nat.one_mul, Nat.mul_assoc]
    · rw [Nat.one_mul]
theorem odd_cons (e : Pq) (ps : List Pq) : oddP (e :: ps) = oddW e * oddP ps := by
  show ps.foldl _ (if e.2 % 2 = 1 then 1 * e.1 else 1) = _
  rw [odd_go]
  unfold oddW
  split
  · rw [Nat.one_mul]
  · rfl
theorem odd_perm {l m : List Pq} (h : l.Perm m) : oddP l = oddP m := by
  induction h with
  | nil => rfl
  | cons x _ ih => rw [odd_cons, odd_cons, ih]
  | swap x y l => rw [odd_cons, odd_cons, odd_cons, odd_cons, Nat.mul_left_comm]
  | trans _ _ a b => exact a.trans b
theorem odd_filter : ∀ L : List Pq, oddP (L.filter fun e => decide (e.2 ≠ 0)) = oddP L
  | [] => rfl
  | e :: l => by
    have ih := odd_filter l
    by_cases h : e.2 = 0
    · rw [List.filter_cons_of_neg (by simp [h]), ih, odd_cons]
      unfold oddW
      rw [h, if_neg (by decide), Nat.one_mul]
    · rw [List.filter_cons_of_pos (by simp [h]), odd_cons, odd_cons, ih]
theorem oddW_add {d : Nat} (hd : 0 < d) (a b : Int) : SqE (oddW (d, a + b)) (oddW (d, a) * oddW (d, b)) := by
  unfold oddW
  show SqE (if (a + b) % 2 = 1 then d else 1) ((if a % 2 = 1 then d else 1) * (if b % 2 = 1 then d else 1))
  by_cases ha : a % 2 = 1 <;> by_cases hb : b % 2 = 1
  · rw [if_neg (by omega), if_pos ha, if_pos hb]
    have := (SqE.sq 1 hd).symm
    rwa [Nat.one_mul] at this
  · rw [if_pos (by omega), if_pos ha, if_neg hb, Nat.mul_one]; exact SqE.refl _
  · rw [if_pos (by omega), if_neg ha, if_pos hb, Nat.one_mul]; exact SqE.refl _
  · rw [if_neg (by omega), if_neg ha, if_neg hb]; exact SqE.refl _
theorem odd_repl {d : Nat} (hd : 0 < d) (r : Int) : ∀ {L : List Pq} {old : Int}, Nk L → getP L d = some old → SqE (oddP (L.map (repl d (old + r)))) (oddP L * oddW (d, r))
  | [], _, _, h => by cases h
  | x :: l, old, hn, h => by
    unfold getP at h
    by_cases k : x.1 = d
    · rw [if_pos k] at h
      cases h
      have hl : l.map (repl d (x.2 + r)) = l := by
        have : ∀ e ∈ l, repl d (x.2 + r) e = e := fun e he => by
          unfold repl
          rw [if_neg (fun z => (List.pairwise_cons.mp hn).1 e he (k.trans z.symm))]
        rw [List.map_congr_left this, List.map_id']
      rw [List.map_cons, odd_cons, odd_cons, hl]
      have e1 : repl d (x.2 + r) x = (d, x.2 + r) := by unfold repl; rw [if_pos k, k]
      have e2 : x = (d, x.2) := by rw [← k]
      rw [e1, Nat.mul_assoc, Nat.mul_comm (oddP l), ← Nat.mul_assoc]
      refine SqE.mul ?_ (SqE.refl _)
      have := oddW_add hd x.2 r
      rwa [← e2] at this
    · rw [if_neg k] at h
      rw [List.map_cons, odd_cons, odd_cons, Nat.mul_assoc]
      have e1 : repl d (old + r) x = x := by unfold repl; rw [if_neg k]
      rw [e1]
      exact SqE.mul (SqE.refl _) (odd_repl hd r (List.pairwise_cons.mp hn).2 h)
theorem odd_addP {L : List Pq} (hn : Nk L) {e : Pq} (he : 0 < e.1) : SqE (oddP (addP L e)) (oddP L * oddW e) := by
  unfold addP putP
  cases h : getP L e.1 with
  | none =>
    rw [if_neg (by decide)]
    have : oddP (L ++ [(e.1, (none : Option Int).getD 0 + e.2)]) = oddP L * oddW e := by
      rw [odd_perm (List.perm_append_comm), List.singleton_append, odd_cons, Nat.mul_comm]
      show oddP L * oddW (e.1, 0 + e.2) = _
      rw [Int.zero_add]
    rw [this]
    exact SqE.refl _
  | some old =>
    rw [if_pos (show (some old).isSome = true from rfl)]
    exact odd_repl he e.2 hn h
theorem odd_addAll : ∀ {es L : List Pq}, Nk L → (∀ e ∈ es, 0 < e.1) → SqE (oddP (addAll L es)) (oddP L * oddP es)
  | [], L, _, _ => by show SqE (oddP L) (oddP L * 1); rw [Nat.mul_one]; exact SqE.refl _
  | e :: es, L, h, k => by
    show SqE (oddP (addAll (addP L e) es)) _
    refine (odd_addAll (es := es) (addP_nk h) fun x hx => k x (List.mem_cons_of_mem _ hx)).trans ?_
    rw [odd_cons, ← Nat.mul_assoc]
    exact SqE.mul (odd_addP h (k e List.mem_cons_self)) (SqE.refl _)
theorem odd_join {N : Nat} {p1 p2 qs : List Pq} (f1 : Fit N p1) (f2 : Fit N p2) (pm : qs.Perm (joinL p1 p2)) : SqE (oddP qs) (oddP p1 * oddP p2) := by
  rw [odd_perm pm]
  unfold joinL
  rw [odd_filter]
  exact odd_addAll (pd_nk f1.ok) fun e he => (f2.ok.rng e he).1
def cntO (ps : List Pq) : Nat := ps.foldr (fun e n => (if e.2 % 2 = 1 then 1 else 0) + n) 0
theorem cnt_par : ∀ ps : List Pq, ((cntO ps : Nat) : Int) % 2 = sumR ps % 2
  | [] => rfl
  | e :: ps => by
    have ih := cnt_par ps
    have e1 : cntO (e :: ps) = (if e.2 % 2 = 1 then 1 else 0) + cntO ps := rfl
    have e2 : sumR (e :: ps) = e.2 + sumR ps := rfl
    rw [e1, e2]
    split <;> omega
theorem odd_scale (t : Nat) : ∀ ps : List Pq, oddP (spP ps t) = t ^ cntO ps * oddP ps
  | [] => rfl
  | e :: ps => by
    have ih := odd_scale t ps
    have e0 : spP (e :: ps) t = (t * e.1, e.2) :: spP ps t := rfl
    have e1 : cntO (e :: ps) = (if e.2 % 2 = 1 then 1 else 0) + cntO ps := rfl
    rw [e0, odd_cons, odd_cons, ih, e1]
    unfold oddW
    by_cases h : e.2 % 2 = 1
    · rw [if_pos h, if_pos h, if_pos h, Nat.pow_add, Nat.pow_one]
      simp only [Nat.mul_assoc, Nat.mul_left_comm]
    · rw [if_neg h, if_neg h, if_neg h, Nat.zero_add, Nat.one_mul, Nat.one_mul]
theorem odd_turn {N : Nat} : ∀ ps : List Pq, (∀ e ∈ ps, N % e.1 = 0) → oddP (ps.map fun e => (N / e.1, e.2)) * oddP ps = N ^ cntO ps
  | [], _ => rfl
  | e :: ps, h => by
    have ih := odd_turn ps fun x hx => h x (List.mem_cons_of_mem _ hx)
    have h0 := Nat.div_mul_cancel (Nat.dvd_of_mod_eq_zero (h e List.mem_cons_self))
    have e1 : cntO (e :: ps) = (if e.2 % 2 = 1 then 1 else 0) + cntO ps := rfl
    rw [List.map_cons, odd_cons, odd_cons, e1]
    unfold oddW
    by_cases hr : e.2 % 2 = 1
    · rw [if_pos hr, if_pos hr, if_pos hr, Nat.pow_add, Nat.pow_one, ← ih, ← h0]
      generalize oddP _ = A
      generalize oddP ps = B
      rw [h0]
      generalize hx : N / e.1 = x at h0
      show x * A * (e.1 * B) = N * (A * B)
      rw [← h0]
      simp only [Nat.mul_assoc, Nat.mul_left_comm]
    · rw [if_neg hr, if_neg hr, if_neg hr, Nat.zero_add, Nat.one_mul, Nat.one_mul]
      exact ih
theorem even_sq {N n : Nat} (N1 : 0 < N) (h : n % 2 = 0) : ∃ k, 0 < k ∧ N ^ n = k * k := by
  obtain ⟨m, rfl⟩ := Nat.dvd_of_mod_eq_zero h
  exact ⟨N ^ m, Nat.pow_pos N1, by rw [Nat.two_mul, Nat.pow_add]⟩
theorem sqe_spread {N t : Nat} {ps : List Pq} (t1 : 0 < t) (f : Fit N ps) : SqE (oddP (spP ps t)) (oddP ps) := by
  have c := cnt_par ps
  have w := f.w
  obtain ⟨k, k0, hk⟩ := even_sq (n := cntO ps) t1 (by omega)
  rw [odd_scale, hk, Nat.mul_comm]
  exact SqE.sq _ k0
theorem sqe_turn {N : Nat} {ps : List Pq} (N1 : 0 < N) (f : Fit N ps) : SqE (oddP (turnP N ps)) (oddP ps) := by
  have c := cnt_par ps
  have w := f.w
  obtain ⟨k, k0, hk⟩ := even_sq (n := cntO ps) N1 (by omega)
  have h := odd_turn ps f.dv
  rw [hk] at h
  unfold turnP
  rw [odd_perm (List.reverse_perm _)]
  have o0 : 0 < oddP ps := (odd_le (B := 400) (by decide) _ ps rfl fun e he => ⟨(f.ok.rng e he).1, (f.ok.rng e he).2.1⟩).1
  refine ⟨oddP ps, k, o0, k0, ?_⟩
  rw [← Nat.mul_assoc, h, Nat.mul_comm]
theorem odd_neg (ps : List Pq) : oddP (negP ps) = oddP ps := by
  induction ps with
  | nil => rfl
  | cons e ps ih =>
    have e0 : negP (e :: ps) = (e.1, -e.2) :: negP ps := rfl
    rw [e0, odd_cons, odd_cons, ih]
    congr 1
    unfold oddW
    show (if (-e.2) % 2 = 1 then e.1 else 1) = if e.2 % 2 = 1 then e.1 else 1
    by_cases h : e.2 % 2 = 1
    · rw [if_pos h, if_pos (by omega)]
    · rw [if_neg h, if_neg (by omega)]
theorem m_abs (ps : List Pq) : (mOf ps).natAbs = oddP ps := by
  unfold mOf
  split
  · rw [Int.one_mul, Int.natAbs_natCast]
  · rw [Int.natAbs_mul, Int.natAbs_natCast]
    exact Nat.one_mul _
theorem m_pos {ps : List Pq} (o : 0 < oddP ps) : 0 < mOf ps ↔ (sumR ps / 2) % 2 = 0 := by
  unfold mOf
  split
  · next h => exact ⟨fun _ => h, fun _ => by omega⟩
  · next h => exact ⟨fun z => by omega, fun z => absurd z h⟩
theorem odd_pos {N : Nat} {ps : List Pq} (f : Fit N ps) : 0 < oddP ps := (odd_le (B := 400) (by decide) _ ps rfl fun e he => ⟨(f.ok.rng e he).1, (f.ok.rng e he).2.1⟩).1
/-- products with the same odd part up to squares and the same half weight have one sign -/
theorem bare_same {N M : Nat} {ps qs : List Pq} (f : Fit N ps) (g : Fit M qs) {b c : Int} (hb : Bare (mOf ps) b) (hc : Bare (mOf qs) c) (e : SqE (oddP ps) (oddP qs)) (w : (sumR ps / 2) % 2 = (sumR qs / 2) % 2) : b = c :=
  bare_uniq hb hc (by rw [m_abs, m_abs]; exact e) (by rw [m_pos (odd_pos f), m_pos (odd_pos g), w])
end Ft

set_option exponentiation.threshold 9000
namespace Ft
open PySem L2
theorem mem_put {L : List Pq} {d : Nat} {r : Int} {x : Pq} (h : x ∈ putP L d r) : x = (d, r) ∨ x ∈ L := by
  unfold putP at h
  split at h
  · obtain ⟨y, hy, rfl⟩ := List.mem_map.mp h
    unfold repl
    split
    · next e => exact .inl (by rw [e])
    · exact .inr hy
  · rcases List.mem_append.mp h with h | h
    · exact .inr h
    · exact .inl (List.mem_singleton.mp h)
/-- the primes met so far, with their parities -/
structure Par (L : List Pq) : Prop where
  nk : Nk L
  pr : ∀ e ∈ L, 2 ≤ e.1 ∧ e.1 ≤ 400 ∧ NoF e.1 e.1
  v : ∀ e ∈ L, e.2 = 0 ∨ e.2 = 1
theorem Par.nil : Par [] := ⟨.nil, fun _ h => (by cases h), fun _ h => (by cases h)⟩
theorem Par.len {L : List Pq} (h : Par L) : L.length ≤ 401 := by
  have := len_sub (l := L.map fun e : Pq => e.1) (m := List.range 401) (by
    unfold List.Nodup
    rw [List.pairwise_map]
    exact h.nk) fun x hx => by
      obtain ⟨e, he, rfl⟩ := List.mem_map.mp hx
      exact List.mem_range.mpr (by have := (h.pr e he).2.1; omega)
  rwa [List.length_map, List.length_range] at this
theorem Par.cop {p : Nat} (p2 : 2 ≤ p) (hp : NoF p p) : ∀ {l : List Pq}, Par l → (∀ e ∈ l, p ≠ e.1) → Nat.Coprime p (oddP l)
  | [], _, _ => Nat.coprime_one_right _
  | e :: l, h, k => by
    have ih := Par.cop p2 hp (l := l) ⟨(List.pairwise_cons.mp h.nk).2, fun x hx => h.pr x (List.mem_cons_of_mem _ hx), fun x hx => h.v x (List.mem_cons_of_mem _ hx)⟩ fun x hx => k x (List.mem_cons_of_mem _ hx)
    rw [odd_cons]
    refine Nat.Coprime.mul_right ?_ ih
    unfold oddW
    split
    · obtain ⟨e2, _, e3⟩ := h.pr e List.mem_cons_self
      refine hp.cop p2 fun d => ?_
      have := Nat.le_of_dvd (by omega) d
      have := k e List.mem_cons_self
      exact e3 p p2 (by omega) d
    · exact Nat.coprime_one_right _
theorem Par.sqf : ∀ {L : List Pq}, Par L → Sqf (oddP L)
  | [], _ => Sqf.one
  | e :: l, h => by
    have hl : Par l := ⟨(List.pairwise_cons.mp h.nk).2, fun x hx => h.pr x (List.mem_cons_of_mem _ hx), fun x hx => h.v x (List.mem_cons_of_mem _ hx)⟩
    have ih := Par.sqf hl
    obtain ⟨e2, _, e3⟩ := h.pr e List.mem_cons_self
    rw [odd_cons]
    unfold oddW
    split
    · exact (e3.sqf e2).mul ih (Par.cop e2 e3 hl fun x hx => (List.pairwise_cons.mp h.nk).1 x hx)
    · rwa [Nat.one_mul]
theorem Par.step {L : List Pq} (h : Par L) {p : Nat} (p2 : 2 ≤ p) (p4 : p ≤ 400) (hp : NoF p p) : Par (putP L p (1 - (getP L p).getD 0)) ∧ SqE (oddP (putP L p (1 - (getP L p).getD 0))) (oddP L * p) := by
  have ho : (getP L p).getD 0 = 0 ∨ (getP L p).getD 0 = 1 := by
    cases e : getP L p with
    | none => exact .inl rfl
    | some r => exact h.v _ (getP_mem e)
  have e1 : putP L p (1 - (getP L p).getD 0) = addP L (p, 1 - 2 * (getP L p).getD 0) := by
    unfold addP
    show putP L p _ = putP L p ((getP L p).getD 0 + (1 - 2 * (getP L p).getD 0))
    rw [show (getP L p).getD 0 + (1 - 2 * (getP L p).getD 0) = 1 - (getP L p).getD 0 by omega]
  refine ⟨⟨put_nk h.nk, fun e he => ?_, fun e he => ?_⟩, ?_⟩
  · rcases mem_put he with rfl | he
    · exact ⟨p2, p4, hp⟩
    · exact h.pr e he
  · rcases mem_put he with rfl | he
    · show 1 - (getP L p).getD 0 = 0 ∨ 1 - (getP L p).getD 0 = 1
      omega
    · exact h.v e he
  · rw [e1]
    have := odd_addP h.nk (e := (p, 1 - 2 * (getP L p).getD 0)) (show 0 < p by omega)
    have w : oddW (p, 1 - 2 * (getP L p).getD 0) = p := by
      unfold oddW
      exact if_pos (by show (1 - 2 * (getP L p).getD 0) % 2 = 1; omega)
    rwa [w] at this
/-- what the law finds is the sign -/
theorem sgn_found {N : Nat} {ps L : List Pq} {s : Int} (f : Fit N ps) (h : Par L) (e : SqE (oddP L) (oddP ps)) (hs : s = if sumR ps % 4 = 0 then 1 else -1) : Bare (mOf ps) (s * ((oddP L : Nat) : Int)) := by
  have w := f.w
  have sq := h.sqf
  have p0 := sq.pos
  have ea : (s * ((oddP L : Nat) : Int)).natAbs = oddP L := by
    rw [Int.natAbs_mul, Int.natAbs_natCast, hs]
    split
    · exact Nat.one_mul _
    · exact Nat.one_mul _
  refine ⟨by rw [ea]; exact sq, by rw [ea, m_abs]; exact e.symm, ?_⟩
  rw [m_pos (odd_pos f), hs]
  split
  · rw [Int.one_mul]
    exact ⟨fun _ => by omega, fun _ => by omega⟩
  · exact ⟨fun z => by omega, fun z => by omega⟩
theorem sqe_sqf {a b : Nat} (hb : Sqf b) (h : SqE a b) : b ∣ a := by
  obtain ⟨k, j, x, y, e⟩ := h
  obtain ⟨g0, k', j', co, ek, ej⟩ : ∃ g k' j', Nat.Coprime k' j' ∧ k = k' * g ∧ j = j' * g := by
    obtain ⟨g, k', j', _, co, h1, h2⟩ := Nat.exists_coprime' (m := k) (n := j) (Nat.gcd_pos_of_pos_left _ x)
    exact ⟨g, k', j', co, h1, h2⟩
  have gp : 0 < g0 := Nat.pos_of_ne_zero fun z => by rw [z, Nat.mul_zero] at ek; omega
  have e' : a * (k' * k') = b * (j' * j') := by
    have : a * (k' * k') * (g0 * g0) = b * (j' * j') * (g0 * g0) := by
      rw [ek, ej] at e
      have e1 : a * (k' * k') * (g0 * g0) = a * (k' * g0 * (k' * g0)) := by grind
      have e2 : b * (j' * j') * (g0 * g0) = b * (j' * g0 * (j' * g0)) := by grind
      rw [e1, e2, e]
    exact Nat.eq_of_mul_eq_mul_right (Nat.mul_pos gp gp) this
  have k0 : 0 < k' := Nat.pos_of_ne_zero fun z => by rw [z, Nat.zero_mul] at ek; omega
  have c2 : Nat.Coprime (k' * k') (j' * j') := Nat.Coprime.mul_left (Nat.Coprime.mul_right co co) (Nat.Coprime.mul_right co co)
  have d1 : k' * k' ∣ b := c2.dvd_of_dvd_mul_right ⟨a, by rw [← e', Nat.mul_comm]⟩
  have k1 : k' = 1 := by
    rcases Nat.lt_or_ge 1 k' with z | z
    · exact absurd d1 (hb _ z)
    · omega
  rw [k1, Nat.mul_one] at e'
  exact ⟨_, e'⟩
theorem sqf_dvd_pow {B N : Nat} (hb : Sqf B) : ∀ {n : Nat}, B ∣ N ^ n → B ∣ N := by
  intro n d
  have p := hb.pos
  have g0 : 0 < Nat.gcd B N := Nat.gcd_pos_of_pos_left _ p
  obtain ⟨c, hc⟩ := Nat.gcd_dvd_left B N
  have gN := Nat.gcd_dvd_right B N
  have cB : c ∣ B := ⟨Nat.gcd B N, by rw [Nat.mul_comm]; exact hc⟩
  have h1 : Nat.gcd c N ∣ Nat.gcd B N := Nat.dvd_gcd (Nat.dvd_trans (Nat.gcd_dvd_left _ _) cB) (Nat.gcd_dvd_right _ _)
  have h2 : Nat.gcd c N * Nat.gcd c N ∣ B := by
    rw [hc]
    exact Nat.mul_dvd_mul h1 (Nat.gcd_dvd_left _ _)
  have c0 : 0 < c := Nat.pos_of_ne_zero fun z => by rw [z, Nat.mul_zero] at hc; omega
  have gc : 0 < Nat.gcd c N := Nat.gcd_pos_of_pos_left _ c0
  have e1 : Nat.gcd c N = 1 := by
    rcases Nat.lt_or_ge 1 (Nat.gcd c N) with z | z
    · exact absurd h2 (hb _ z)
    · omega
  have co : Nat.Coprime c (N ^ n) := Nat.Coprime.pow_right _ e1
  have c1 : c = 1 := by
    have := Nat.dvd_gcd (Nat.dvd_refl c) (Nat.dvd_trans cB d)
    rw [co] at this
    exact Nat.dvd_one.mp this
  rw [hc, c1, Nat.mul_one]
  exact gN
/-- a sign of a product that fits a small level is small -/
theorem sgn_small {N : Nat} {ps : List Pq} {b : Int} (N1 : 1 ≤ N) (N24 : N ≤ 24) (f : Fit N ps) (hb : Bare (mOf ps) b) : SgnOk (sgnOf b) := by
  refine ⟨⟨b, hb.sqf, rfl⟩, ?_⟩
  have e := hb.eqv
  rw [m_abs] at e
  have dv : ∀ ps : List Pq, (∀ e ∈ ps, N % e.1 = 0) → oddP ps ∣ N ^ ps.length := by
    intro ps
    induction ps with
    | nil => intro _; exact Nat.dvd_refl _
    | cons x l ih =>
      intro h
      rw [odd_cons, List.length_cons, Nat.pow_succ, Nat.mul_comm]
      refine Nat.mul_dvd_mul (ih fun y hy => h y (List.mem_cons_of_mem _ hy)) ?_
      unfold oddW
      split
      · exact Nat.dvd_of_mod_eq_zero (h x List.mem_cons_self)
      · exact Nat.one_dvd _
  have bd := sqf_dvd_pow hb.sqf (Nat.dvd_trans (sqe_sqf hb.sqf e) (dv ps f.dv))
  have := Nat.le_of_dvd (by omega) bd
  unfold sgnOf
  split <;> omega
end Ft

set_option exponentiation.threshold 9000
namespace Ft
open PySem PySem.Spec PyProof.Rows L2
/-- (a, b): the tuple, with what is known of it -/
def tTupD (t : TA) : TE := fun σ H Q => t σ H fun xs H1 => xs.length ≤ sizeLine ∧ ∀ p ob, Plain ob → H1 p = none → Q (.ref p) (upd H1 p (.frz ob (.tup xs)))
theorem pe_tupD {X : Cx} {es : List Expr} {t : TA} {x1 : Nat} {pos : Pos} (h : PA X es t) : PE X (.Tuple es x1 pos) (tTupD t) := by
  refine ⟨fun pins s σ H Q I hq => wpAny_Tuple_spliced (thn (h.run pos pins s σ H _ I hq) fun us s1 ⟨xs, H1, I1, r, z, q⟩ => ⟨by rw [← r.length]; exact z, ?_⟩)⟩
  have hg : (s1.heap.push { cls := Value.type "tuple", data := Data.seq us.toArray }).get? s1.heap.objs.size = some { cls := Value.type "tuple", data := Data.seq us.toArray } := by heap_get
  refine ⟨.ref s1.heap.objs.size, _, I1.laid (t' := s1.toks) (o := .frz { cls := Value.type "tuple", data := Data.seq us.toArray } (.tup xs)) (fun b u e => Heap.get?_push_of_some _ e) (Nat.le_refl _) ?_, rfl, q _ _ ⟨rfl, rfl⟩ (I1.hok.fresh (Nat.le_refl _))⟩
  simp only [ObjOk]
  exact ⟨hg, z, us, r, _, hg, rfl, 0, rfl⟩
end Ft

set_option exponentiation.threshold 9000
namespace Ft
open PySem L2
theorem dp_frs {K : PySem.W.Frag} {H : Hp} : ∀ {us : List V} {l : List Fq}, FrsAt H us l → DpAll K H us (l.map frD)
  | [], [], _ => .nil
  | [], _ :: _, h => by have := h.len; simp at this
  | _ :: _, [], h => by have := h.len; simp at this
  | u :: us, e :: l, h => .cons (dp_fr (h.at_ 0 u e rfl rfl)) (dp_frs (us := us) (l := l) ⟨by have := h.len; simpa using this, fun i v f a b => h.at_ (i + 1) v f a b⟩)
def innerL (N : Nat) : List Nat := ((divL N).drop 1).dropLast
theorem inner_split : ∀ N, N < 25 → 2 ≤ N → divL N = 1 :: (innerL N ++ [N]) := by decide +kernel
theorem cut_inner {xs : List V} (h : 1 ≤ xs.length) : cutV xs (some 1) (some (-1)) = (xs.drop 1).dropLast := by
  unfold cutV
  have e1 : HT.sIx xs.length 0 (some 1) = 1 := by
    have := HT.sIx_nat xs.length 0 1
    rw [show ((1 : Nat) : Int) = 1 from rfl] at this
    rw [this]
    omega
  have e2 : HT.sIx xs.length xs.length (some (-1)) = xs.length - 1 := by
    show (if (-1 : Int) < 0 then ((-1 : Int) + (xs.length : Int)).toNat else min (-1 : Int).toNat xs.length) = _
    rw [if_pos (by decide)]
    omega
  rw [e1, e2, List.dropLast_eq_take, List.length_drop]
/-- the pairs that may end a product -/
structure EndOk (N : Nat) (L : List Pq) (x : Fq) : Prop where
  a : x.1.natAbs ≤ 16 ∧ x.2.natAbs ≤ 16
  near : (sumD L + x.1 + (N : Int) * x.2) % 24 = 0
  far : (sumF N L + (N : Int) * x.1 + x.2) % 24 = 0
  w : (sumR L + x.1 + x.2) % 2 = 0
theorem whole_made {N : Nat} {L : List Pq} {x : Fq} (N2 : 2 ≤ N) (N24 : N ≤ 24) (hk : L.map (fun e : Pq => e.1) = innerL N) (small : ∀ e ∈ L, e.2.natAbs ≤ 5) (h : EndOk N L x) :
    LwOk N ((pickP (putP (putP L 1 x.1) N x.2) (divL N)).filter fun e => decide (e.2 ≠ 0)) ∧ ∀ d ∈ divL N, (getP (putP (putP L 1 x.1) N x.2) d).isSome = true := by
  have sp := inner_split N (by omega) N2
  have asc : (divL N).Pairwise (· < ·) := by
    unfold divL
    rw [List.pairwise_map]
    refine List.Pairwise.filter _ ?_
    exact List.pairwise_lt_range.imp fun h => by omega
  have hmem : ∀ d ∈ divL N, 1 ≤ d ∧ d ≤ N ∧ N % d = 0 := fun d hd => divL_mem hd
  rw [sp] at asc
  have as1 := List.pairwise_cons.mp asc
  have as2 := List.pairwise_append.mp as1.2
  have key : ∀ e ∈ L, e.1 ∈ innerL N := fun e he => by rw [← hk]; exact List.mem_map.mpr ⟨e, he, rfl⟩
  have n1 : getP L 1 = none := getP_none.mpr fun e he z => by
    have := as1.1 e.1 (List.mem_append_left _ (key e he))
    omega
  have e1 : putP L 1 x.1 = L ++ [(1, x.1)] := by
    unfold putP
    rw [n1, if_neg (by decide)]
  have n2 : getP (L ++ [(1, x.1)]) N = none := getP_none.mpr fun e he z => by
    rcases List.mem_append.mp he with h | h
    · have := as2.2.2 e.1 (key e h) N List.mem_cons_self
      omega
    · rw [List.mem_singleton.mp h] at z
      have : (1 : Nat) = N := z
      omega
  have e2 : putP (putP L 1 x.1) N x.2 = L ++ [(1, x.1)] ++ [(N, x.2)] := by
    rw [e1]
    unfold putP
    rw [n2, if_neg (by decide)]
  rw [e2]
  have kk : (L ++ [(1, x.1)] ++ [(N, x.2)]).map (fun e : Pq => e.1) = innerL N ++ [1] ++ [N] := by
    rw [List.map_append, List.map_append, hk]
    rfl
  have pm : (divL N).Perm ((L ++ [(1, x.1)] ++ [(N, x.2)]).map fun e : Pq => e.1) := by
    rw [kk, sp]
    refine List.Perm.trans ?_ (List.Perm.append_right [N] (List.perm_append_comm (l₁ := [1]) (l₂ := innerL N)))
    exact List.Perm.refl _
  have nk : Nk (L ++ [(1, x.1)] ++ [(N, x.2)]) := by
    have nd : ((L ++ [(1, x.1)] ++ [(N, x.2)]).map fun e : Pq => e.1).Nodup := pm.nodup (by rw [sp]; exact asc.imp fun h => Nat.ne_of_lt h)
    unfold List.Nodup at nd
    rw [List.pairwise_map] at nd
    exact nd
  have pp := pick_perm nk pm
  have asc0 : (divL N).Pairwise (· < ·) := by rw [sp]; exact asc
  generalize hM : L ++ [(1, x.1)] ++ [(N, x.2)] = M at pm nk pp ⊢
  have ws : ∀ w : Nat → Int, wsum w ((pickP M (divL N)).filter fun e => decide (e.2 ≠ 0)) = wsum w L + w 1 * x.1 + w N * x.2 := fun w => by
    rw [wsum_filter, wsum_perm w pp, ← hM, wsum_app, wsum_app]
    show wsum w L + (w 1 * x.1 + 0) + (w N * x.2 + 0) = _
    omega
  have mem : ∀ e ∈ (pickP M (divL N)).filter (fun e => decide (e.2 ≠ 0)), e.1 ∈ divL N ∧ e.2 ≠ 0 ∧ e.2.natAbs ≤ 16 := fun e he => by
    have he := List.mem_filter.mp he
    have hM2 := pp.mem_iff.mp he.1
    refine ⟨?_, of_decide_eq_true he.2, ?_⟩
    · exact pm.mem_iff.mpr (List.mem_map.mpr ⟨e, hM2, rfl⟩)
    · rw [← hM] at hM2
      rcases List.mem_append.mp hM2 with h1 | h1
      · rcases List.mem_append.mp h1 with h2 | h2
        · have := small e h2; omega
        · rw [List.mem_singleton.mp h2]; exact h.a.1
      · rw [List.mem_singleton.mp h1]; exact h.a.2
  have N0 : 0 < N := by omega
  refine ⟨⟨⟨⟨?_, fun e he => ?_, ?_⟩, fun e he => (hmem _ (mem e he).1).2.2, ?_, ?_, ?_⟩, fun e he => by have := (mem e he).2.2; omega⟩, fun d hd => ?_⟩
  · refine Nat.le_trans (List.length_filter_le _ _) ?_
    unfold pickP
    rw [List.length_map]
    exact div8 N (by omega)
  · obtain ⟨m1, m2, m3⟩ := mem e he
    have := hmem _ m1
    exact ⟨this.1, by omega, by omega, m2⟩
  · refine List.Pairwise.filter _ ?_
    unfold pickP
    rw [List.pairwise_map]
    exact asc0
  · rw [sumR_w, ws, ← sumR_w]
    have := h.w
    omega
  · have e : ∀ l : List Pq, sumD l = wsum (fun d => (d : Int)) l := fun l => rfl
    rw [e, ws, ← e]
    have := h.near
    rw [show ((1 : Nat) : Int) * x.1 = x.1 from Int.one_mul _]
    exact this
  · have e : ∀ l : List Pq, sumF N l = wsum (fun d => ((N / d : Nat) : Int)) l := fun l => rfl
    rw [e, ws, ← e, Nat.div_one, Nat.div_self N0]
    have := h.far
    rw [show ((1 : Nat) : Int) * x.2 = x.2 from Int.one_mul _]
    exact this
  · obtain ⟨e, he, rfl⟩ := List.mem_map.mp (pm.mem_iff.mp hd)
    rw [getP_of nk he]
    rfl
theorem fit_nil (N : Nat) : LwOk N [] := ⟨⟨⟨Nat.zero_le _, fun e he => absurd he List.not_mem_nil, List.Pairwise.nil⟩, fun e he => absurd he List.not_mem_nil, rfl, rfl, rfl⟩, fun e he => absurd he List.not_mem_nil⟩
theorem fit_one {r : Int} (h : r = 24 ∨ r = -24) : LwOk 1 [(1, r)] := by
  refine ⟨⟨⟨(by show 1 ≤ 8; decide), fun e he => ?_, List.pairwise_singleton _ _⟩, fun e he => ?_, ?_, ?_, ?_⟩, fun e he => ?_⟩
  · rw [List.mem_singleton.mp he]
    refine ⟨Nat.le_refl _, (by show 1 ≤ 400; decide), ?_, ?_⟩
    · show r.natAbs ≤ 48; omega
    · show r ≠ 0; omega
  · rw [List.mem_singleton.mp he]
    exact Nat.mod_one 1
  · show (r + 0) % 2 = 0; omega
  · show (((1 : Nat) : Int) * r + 0) % 24 = 0; omega
  · show (((1 / 1 : Nat) : Int) * r + 0) % 24 = 0
    rw [Nat.div_one]
    omega
  · rw [List.mem_singleton.mp he]
    show r.natAbs ≤ 24
    omega
/-! data that == takes -/
structure Shp (k : Nat) (d : PyData) : Prop where
  lay : PyData.canLay0 d = true
  depth : d.depth ≤ k
structure ShpL (k : Nat) (ds : List PyData) : Prop where
  lay : PyData.canLayAll0 ds = true
  depth : PyData.depthAll ds ≤ k
theorem ShpL.nil {k : Nat} : ShpL k [] := ⟨rfl, Nat.zero_le _⟩
theorem ShpL.cons {k : Nat} {d : PyData} {ds : List PyData} (h : Shp k d) (t : ShpL k ds) : ShpL k (d :: ds) := by
  refine ⟨?_, ?_⟩
  · show (PyData.canLay0 d && PyData.canLayAll0 ds) = true
    rw [h.lay, t.lay]
    rfl
  · show max d.depth (PyData.depthAll ds) ≤ k
    have := h.depth
    have := t.depth
    omega
theorem Shp.tup {k : Nat} {ds : List PyData} (t : ShpL k ds) : Shp (k + 1) (.tuple ds) := ⟨t.lay, by show PyData.depthAll ds + 1 ≤ k + 1; have := t.depth; omega⟩
theorem Shp.list {k : Nat} {ds : List PyData} (t : ShpL k ds) : Shp (k + 1) (.list ds) := ⟨t.lay, by show PyData.depthAll ds + 1 ≤ k + 1; have := t.depth; omega⟩
theorem shp_int {k : Nat} (i : Int) : Shp k (.int i) := ⟨rfl, Nat.zero_le _⟩
theorem shp_fr {k : Nat} (x : Fq) : Shp (k + 1) (frD x) := Shp.tup (.cons (shp_int _) (.cons (shp_int _) .nil))
theorem shp_frs {k : Nat} : ∀ l : List Fq, ShpL (k + 1) (l.map frD)
  | [] => .nil
  | x :: l => .cons (shp_fr x) (shp_frs l)
theorem Shp.shaped {k : Nat} {d : PyData} (h : Shp k d) (hk : k ≤ 64) : SeqAt.shaped d = true := by
  unfold SeqAt.shaped
  rw [h.lay, decide_eq_true (Nat.le_trans h.depth hk)]
  rfl
theorem shaped_frs (l : List Fq) : SeqAt.shaped (.list (l.map frD)) = true := (Shp.list (shp_frs (k := 0) l)).shaped (by decide)
end Ft

set_option exponentiation.threshold 9000
namespace Ft
open PySem L2
theorem pickI {K : PySem.W.Frag} {H : Hp} {d l : Addr} {xs : List Nat} {C : Nat → Prop} {M : VK} {E} (D : DeckAt H d l) (h0 : 0 < xs.length) (h1 : xs.length < 2 ^ 64) (hC : ∀ x ∈ xs, C x) (m : ∀ (H' : Hp) (z : Nat), DeckAt H' d l → But d l H H' → C z → M (.int (z : Int)) H') : ∀ p, H p = none → sp_pick K [.ref d, .ref p] (upd H p (.tup (xs.map fun n : Nat => V.int (n : Int)))) M E := fun p hp => by
  have s : Same H (upd H p (.tup (xs.map fun n : Nat => V.int (n : Int)))) := Same.upd_new hp
  refine ⟨d, l, p, _, rfl, D.same s, .inr upd_same, by rw [List.length_map]; exact h0, by rw [List.length_map]; exact h1, fun H' v D' b' hv => ?_⟩
  obtain ⟨z, hz, rfl⟩ := List.mem_map.mp hv
  exact m H' z D' ((But.of s).trans b') (hC z hz)
theorem pickZ {K : PySem.W.Frag} {H : Hp} {d l : Addr} {xs : List Int} {C : Int → Prop} {M : VK} {E} (D : DeckAt H d l) (h0 : 0 < xs.length) (h1 : xs.length < 2 ^ 64) (hC : ∀ x ∈ xs, C x) (m : ∀ (H' : Hp) (z : Int), DeckAt H' d l → But d l H H' → C z → M (.int z) H') : ∀ p, H p = none → sp_pick K [.ref d, .ref p] (upd H p (.tup (xs.map V.int))) M E := fun p hp => by
  have s : Same H (upd H p (.tup (xs.map V.int))) := Same.upd_new hp
  refine ⟨d, l, p, _, rfl, D.same s, .inr upd_same, by rw [List.length_map]; exact h0, by rw [List.length_map]; exact h1, fun H' v D' b' hv => ?_⟩
  obtain ⟨z, hz, rfl⟩ := List.mem_map.mp hv
  exact m H' z D' ((But.of s).trans b') (hC z hz)
def sp_ldiv : Sp := fun vs H Q _ => ∃ n : Nat, vs = [.int (n : Int)] ∧ n ≤ 400 ∧ ∀ H' p, Same H H' → H p = none → H' p = some (.lst ((divL n).map fun d : Nat => V.int (d : Int))) → Q (.ref p) H'
def sp_lwhole : Sp := fun vs H Q _ => ∃ (d l : Addr) (N : Nat) (lo hi : Int), vs = [.ref d, .int (N : Int), .int lo, .int hi] ∧ DeckAt H d l ∧ 1 ≤ N ∧ N ≤ 24 ∧ ∀ (H' : Hp) (r : V) (ps : List Pq), DeckAt H' d l → But d l H H' → PdX H' r ps → LwOk N ps → Q r H'
theorem keys_nk {L : List Pq} {ds : List Nat} (h : L.map (fun e : Pq => e.1) = ds) (nd : ds.Nodup) : Nk L := by
  unfold Nk
  rw [← h] at nd
  unfold List.Nodup at nd
  rw [List.pairwise_map] at nd
  exact nd
section
variable {P : Program} {w : World} {K : PySem.W.Frag} {mg : Str → Option Value} {base : Heap}
theorem ok_ldiv (D : Df K mg "_law_divisors" s__law_divisors ["_law_n"]) (B : Bi mg) : Cal P w K mg base 1 "_law_divisors" sp_ldiv := by
  obtain ⟨f, fd, F, m, b⟩ := D.ex
  have sc := sc__law_divisors
  refine ⟨f, fd, _, F.ok sc (fun _ _ _ _ ⟨_, e, _⟩ => by rw [e]; rfl) (fun cdv A outer s H vs Q E hr h => ?_), m, F.kp, b⟩
  obtain ⟨n, rfl, h2, q⟩ := h
  refine ⟨_, (pss_one (ps_ret (pe_lc (own := [("_law_d", 1)]) (g := gName 1)  (by rfl) sc.nd (pi_range2 (by rfl) B.range (pa_cons pe_int (pa_cons (pe_op op_add (pv 0) pe_int) pa_nil))) (blkOk_by (own := [("_law_d", 1)]) (N := N__law_divisors) (sc := defScope s__law_divisors) (by decide +kernel)) (fun _ _ _ _ _ => (pg_name (i := 1) sc.nd rfl (Or.inl rfl))) (fun _ _ _ _ _ => (pts_one (pt_cmpR op_eq (pe_op op_mod (pe_callTy call_int1 (by rfl) B.int_ (by decide +kernel) (pa_cons (pv 0) pa_nil)) (pv 1)) pe_int (nomark _)))) (fun _ _ _ _ _ => (pv 1))))), ?_⟩
  refine ⟨_, rfl, _, _, rfl, rfl, 1, (n : Int) + 1, rfl, ⟨by decide, by decide, by omega, by omega⟩, fun D1 hD1 => ?_⟩
  rw [show ((n : Int) + 1 - 1).toNat = n by omega]
  refine lc_range (fun i H' => Same H H' ∧ H' D1 = some (.lst (((List.range i).filter fun i => decide (n % (i + 1) = 0)).map fun i : Nat => V.int ((i + 1 : Nat) : Int)))) ⟨Same.upd_new hD1, upd_same⟩ ?_ ?_
  · rintro i H2 hi ⟨s2, h2⟩
    have ei : (1 : Int) + (i : Int) = ((i + 1 : Nat) : Int) := by omega
    dsimp only [gName]
    rw [ei]
    refine ⟨rfl, _, rfl, .inl ⟨_, rfl, _, rfl, _, _, rfl, rfl, (by omega : (0 : Int) < ((i + 1 : Nat) : Int)), rfl, _, rfl, ifI (fun e => ?_) fun e => ?_⟩⟩
    · refine ⟨_, rfl, lc_pos hD1 s2 h2 (decide_eq_true (Int.ofNat.inj e)) (by omega)⟩
    · exact lc_neg s2 h2 (decide_eq_false fun z => e (congrArg Int.ofNat z))
  rintro H2 ⟨s2, h2⟩
  refine q _ D1 s2 hD1 ?_
  rw [h2]
  unfold divL
  rw [List.map_map]
  rfl
theorem ok_lwhole (D : Df K mg "_law_whole" s__law_whole ["_law_deck_here", "_law_level_here", "_law_low", "_law_high"]) (B : Bi mg) (c__law_divisors : Cal P w K mg base 1 "_law_divisors" sp_ldiv) (c__law_pick : Cal P w K mg base 2 "_law_pick" (sp_pick K)) (c__law_draw : Cal P w K mg base 1 "_law_draw" sp_draw) : Cal P w K mg base 3 "_law_whole" sp_lwhole := by
  obtain ⟨f, fd, F, m, b⟩ := D.ex
  have sc := sc__law_whole
  refine ⟨f, fd, _, F.ok sc (fun _ _ _ _ ⟨_, _, _, _, _, e, _⟩ => by rw [e]; rfl) (fun cdv A outer s H vs Q E hr h => ?_), m, F.kp, b⟩
  obtain ⟨d, l, N, lo, top, rfl, D0, N1, N24, q⟩ := h
  have hu := hu_of hr
  have h64 : (A.deeper (PyProof.Rows.envOfC "_law_whole" (defScope s__law_whole) s.heap.objs.size f cdv)).units + 64 < cLine := by have := hr.un; omega
  refine ⟨_, (pss_cons (ps_asg (pe_tup (pa_cons (pe_c c__law_divisors hr (by decide) (by rfl) (pa_cons (pv 1) pa_nil)) (pa_cons (pe_dnewK) pa_nil))) (pg_tup rfl (pgs_cons (pg_name (i := 4) sc.nd rfl (Or.inl rfl)) (pgs_cons (pg_name (i := 5) sc.nd rfl (Or.inr rfl)) pgs_nil))))
      (pss_cons (ps_for PassesOwn.never rfl (pi_list (pe_slice sl_list (pv 4) (po_some pe_int) (po_some (pe_un un_neg pe_int)))) (pg_name (i := 6) sc.nd rfl (Or.inl rfl))
      (pss_one (ps_dput hu (pv 5) (pv 6) (pe_c c__law_pick hr (by decide) (by rfl) (pa_cons (pv 0) (pa_cons (pe_tup (pa_cons pe_int (pa_cons pe_int (pa_cons pe_int (pa_cons (pe_un un_neg pe_int) (pa_cons pe_int (pa_cons (pe_un un_neg pe_int) (pa_cons pe_int (pa_cons pe_int (pa_cons (pe_un un_neg pe_int) (pa_cons pe_int pa_nil))))))))))) pa_nil))) rfl)))
      (pss_cons (ps_asg (pe_tup (pa_cons (pe_callB (id := "sum") (r := rSum K) (cr_sum rfl) (by rfl) B.sum (by decide +kernel) (pa_cons (pe_lock <| pe_lc (own := [("_law_d", 6)]) (g := gName 6) (tt := tYes) (by rfl) sc.nd (pi_keys (pv 5)) (blkOk_by (own := [("_law_d", 6)]) (N := N__law_whole) (sc := defScope s__law_whole) (by decide +kernel)) (fun _ _ _ _ _ => (pg_name (i := 6) sc.nd rfl (Or.inl rfl))) (fun _ _ _ _ _ => pts_nil) (fun _ _ _ _ _ => (pe_dget hu (pv 5) (pv 6) (fun _ _ => rfl)))) pa_nil)) (pa_cons (pe_callB (id := "sum") (r := rSum K) (cr_sum rfl) (by rfl) B.sum (by decide +kernel) (pa_cons (pe_lock <| pe_lc (own := [("_law_d", 6)]) (g := gName 6) (tt := tYes) (by rfl) sc.nd (pi_keys (pv 5)) (blkOk_by (own := [("_law_d", 6)]) (N := N__law_whole) (sc := defScope s__law_whole) (by decide +kernel)) (fun _ _ _ _ _ => (pg_name (i := 6) sc.nd rfl (Or.inl rfl))) (fun _ _ _ _ _ => pts_nil) (fun _ _ _ _ _ => (pe_op op_mulW (pv 6) (pe_dget hu (pv 5) (pv 6) (fun _ _ => rfl))))) pa_nil)) pa_nil))) (pg_tup rfl (pgs_cons (pg_name (i := 7) sc.nd rfl (Or.inl rfl)) (pgs_cons (pg_name (i := 8) sc.nd rfl (Or.inr rfl)) pgs_nil))))
      (pss_cons (ps_par (i := 9) (j := 10) (by rfl) sc.nd rfl rfl (by decide) rfl rfl (pa_cons (pe_callB (id := "sum") (r := rSum K) (cr_sum rfl) (by rfl) B.sum (by decide +kernel) (pa_cons (pe_lock <| pe_lc (own := [("_law_d", 6)]) (g := gName 6) (tt := tYes) (by rfl) sc.nd (pi_keys (pv 5)) (blkOk_by (own := [("_law_d", 6)]) (N := N__law_whole) (sc := defScope s__law_whole) (by decide +kernel)) (fun _ _ _ _ _ => (pg_name (i := 6) sc.nd rfl (Or.inl rfl))) (fun _ _ _ _ _ => pts_nil) (fun _ _ _ _ _ => (pe_op op_mulW (pe_op op_fdivW (pv 1) (pv 6)) (pe_dget hu (pv 5) (pv 6) (fun _ _ => rfl))))) pa_nil)) (pa_cons (pe_lst pa_nil) pa_nil)) (by rfl))
      (pss_cons (ps_for PassesOwn.never rfl (pi_range2 (by rfl) B.range (pa_cons (pe_un un_neg pe_int) (pa_cons pe_int pa_nil))) (pg_name (i := 11) sc.nd rfl (Or.inr rfl))
      (pss_cons (ps_setLc (i := 13) (own := [("_law_other", 12)]) (g := gName 12)  (by rfl) sc.nd rfl rfl (sw_true rfl rfl rfl (by decide +kernel)) (pi_range2 (by rfl) B.range (pa_cons (pe_un un_neg pe_int) (pa_cons pe_int pa_nil))) (blkOk_by (own := [("_law_other", 12)]) (N := N__law_whole) (sc := defScope s__law_whole) (by decide +kernel)) (fun _ _ _ _ _ => (pg_name (i := 12) sc.nd rfl (Or.inl rfl))) (fun _ _ _ _ _ => (pts_one (pt_cmpR op_eq (pe_op op_mod (pe_callTy call_int1 (by rfl) B.int_ (by decide +kernel) (pa_cons (pe_op op_add (pe_op op_add (pv 8) (pv 11)) (pe_op op_mulW (pv 1) (pv 12))) pa_nil)) pe_int) pe_int (nomark _)))) (fun _ _ _ _ _ => (pv 12)))
        (pss_one (ps_for PassesOwn.never rfl (pi_list (pv 13)) (pg_name (i := 12) sc.nd rfl (Or.inl rfl))
        (pss_cons (ps_set (i := 14) sc.nd rfl (Or.inl rfl) (pe_op op_add (pe_op op_add (pv 7) (pv 11)) (pv 12)))
          (pss_one (ps_if (PW.pt (pw_and (pt_cmpR op_eq (pe_op op_mod (pe_callTy call_int1 (by rfl) B.int_ (by decide +kernel) (pa_cons (pe_op op_add (pe_op op_add (pv 9) (pe_op op_mulW (pv 1) (pv 11))) (pv 12)) pa_nil)) pe_int) pe_int (nomark _)) (pw_and (pt_cmpR op_eq (pe_op op_mod (pe_callTy call_int1 (by rfl) B.int_ (by decide +kernel) (pa_cons (pv 14) pa_nil)) pe_int) pe_int (nomark _)) (pw_and1 (pt_chain op_le op_le (pv 2) (pe_op op_fdivW (pv 14) pe_int) (pv 3))))))
          (pss_one (ps_expr (pe_bm PySem.F.plainAttrs_list PySem.F.slot_list_append PySem.F.type_list_append mt_append (pv 10) (pa_cons (pe_tup (pa_cons (pv 11) (pa_cons (pv 12) pa_nil))) pa_nil))))
          pss_nil)))))))
      (pss_cons (ps_if (PW.pt (pw_or (pt_cmpR op_eq (pv 1) pe_int (nomark _)) (pw_or1 (pt_cmpR (op_eqD h64) (pv 10) (pe_lst pa_nil) (nomark _)))))
      (pss_one (ps_ret (pe_ifExp (pt_cmpR op_eq (pv 1) pe_int (nomark _)) (pe_tupD (pa_cons (pe_tup (pa_cons pe_int (pa_cons (pe_op op_mulW pe_int (pe_op op_sub pe_int (pe_op op_mulW pe_int (pe_c c__law_draw hr (by decide) (by rfl) (pa_cons (pv 0) (pa_cons pe_int pa_nil)))))) pa_nil))) pa_nil)) (pe_tupD pa_nil))))
      pss_nil)
      (pss_cons (ps_asg (pe_c c__law_pick hr (by decide) (by rfl) (pa_cons (pv 0) (pa_cons (pv 10) pa_nil))) (pg_tup rfl (pgs_cons (pg_sub (pv 5) pe_int (set_dict hu)) (pgs_cons (pg_sub (pv 5) (pv 1) (set_dict hu)) pgs_nil))))
      (pss_one (ps_ret (pe_callTy call_tupF (by rfl) B.tuple (by decide +kernel) (pa_cons (pe_lc (own := [("_law_d", 6)]) (g := gName 6)  (by rfl) sc.nd (pi_list (pv 4)) (blkOk_by (own := [("_law_d", 6)]) (N := N__law_whole) (sc := defScope s__law_whole) (by decide +kernel)) (fun _ _ _ _ _ => (pg_name (i := 6) sc.nd rfl (Or.inl rfl))) (fun _ _ _ _ _ => (pts_one (pt_cmpR op_ne (pe_dget hu (pv 5) (pv 6) (fun _ _ => rfl)) pe_int (nomark _)))) (fun _ _ _ _ _ => (pe_tup (pa_cons (pv 6) (pa_cons (pe_dget hu (pv 5) (pv 6) (fun _ _ => rfl)) pa_nil))))) pa_nil))))))))))), ?_⟩
  have hmem : ∀ d ∈ divL N, 1 ≤ d ∧ d ≤ N ∧ N % d = 0 := fun d hd => divL_mem hd
  have l8 := div8 N (by omega)
  have l1 : 1 ≤ (divL N).length := List.length_pos_of_mem (divL_of N1 (Nat.mod_self N))
  have inm : ∀ x ∈ innerL N, x ∈ divL N := fun x hx => List.mem_of_mem_drop ((List.dropLast_sublist _).subset hx)
  have ind : (innerL N).Nodup := by
    have asc : (divL N).Pairwise (· < ·) := by
      unfold divL
      rw [List.pairwise_map]
      refine List.Pairwise.filter _ ?_
      exact List.pairwise_lt_range.imp fun h => by omega
    have : (divL N).Nodup := asc.imp fun h => Nat.ne_of_lt h
    exact (this.sublist (List.drop_sublist _ _)).sublist (List.dropLast_sublist _)
  have inl : (innerL N).length ≤ 8 := by
    unfold innerL
    rw [List.length_dropLast, List.length_drop]
    omega
  refine ⟨_, rfl, N, rfl, by omega, fun H1 p1 s1 np1 h1 => ?_⟩
  have D1 := D0.same s1
  have n1 := D0.new np1
  intro md hmd
  have nmd := D1.new hmd
  have s2 : Same H1 (upd H1 md (.dK [])) := Same.upd_new hmd
  have m2 : (upd H1 md (.dK [])) md = some (.dK (kvL [])) := upd_same
  have hmd0 : H md = none := s1.free hmd
  have h2 := s2 _ _ h1
  have D2 := D1.same s2
  have s02 := s1.trans s2
  have npm : p1 ≠ md := fun e => by rw [e, hmd] at h1; cases h1
  generalize upd H1 md (.dK []) = H2 at s2 m2 h2 D2 s02
  refine ⟨(by show (2 : Nat) ≤ sizeLine; decide), fun t ht => ?_⟩
  have s3 : Same H2 (upd H2 t (.tup [V.ref p1, V.ref md])) := Same.upd_new ht
  have h3 : (upd H2 t (.tup [V.ref p1, V.ref md])) t = some (.tup [V.ref p1, V.ref md]) := upd_same
  have D3 := D2.same s3
  have m3 := s3 _ _ m2
  have k3 := s3 _ _ h2
  have b03 := But.of (d := d) (l := l) (s02.trans s3)
  generalize upd H2 t (.tup [V.ref p1, V.ref md]) = H3 at s3 h3 D3 m3 k3 b03
  refine ⟨t, _, rfl, SqT.of h3, rfl, _, _, rfl, _, _, rfl, rfl, ?_⟩
  dsimp only [gName]
  -- the inner divisors
  refine ⟨_, rfl, 1, rfl, _, rfl, -1, rfl, p1, _, rfl, SqL.of k3, fun C0 hC0 => ?_⟩
  rw [cut_inner (by rw [List.length_map]; exact l1), ← List.map_drop, ← List.map_dropLast, show ((divL N).drop 1).dropLast = innerL N from rfl]
  have nC0 := D3.new hC0
  have nCm : C0 ≠ md := fun e => by rw [e, m3] at hC0; cases hC0
  have s4 : Same H3 (upd H3 C0 (.lst ((innerL N).map fun d : Nat => V.int (d : Int)))) := Same.upd_new hC0
  have h4 : (upd H3 C0 (.lst ((innerL N).map fun d : Nat => V.int (d : Int)))) C0 = some (.lst ((innerL N).map fun d : Nat => V.int (d : Int))) := upd_same
  have D4 := D3.same s4
  have m4 := s4 _ _ m3
  have k4 := s4 _ _ k3
  have b04 := b03.trans (But.of (d := d) (l := l) s4)
  generalize upd H3 C0 (.lst ((innerL N).map fun d : Nat => V.int (d : Int))) = H4 at s4 h4 D4 m4 k4 b04
  refine ⟨C0, rfl, ⟨_, SqL.of h4⟩, for_list (K := K) (a := C0) (xs := (innerL N).map fun d : Nat => V.int (d : Int)) (fun i σ H' => DeckAt H' d l ∧ But d l H H' ∧ H' p1 = some (.lst ((divL N).map fun d : Nat => V.int (d : Int))) ∧ H' C0 = some (.lst ((innerL N).map fun d : Nat => V.int (d : Int))) ∧ ∃ (L : List Pq) (o6 : Option V), σ = [some (.ref d), some (.int (N : Int)), some (.int lo), some (.int top), some (.ref p1), some (.ref md), o6, none, none, none, none, none, none, none, none] ∧ H' md = some (.dK (kvL L)) ∧ L.map (fun e : Pq => e.1) = (innerL N).take i ∧ ∀ e ∈ L, e.2.natAbs ≤ 5) ⟨D4, b04, k4, h4, [], none, rfl, m4, rfl, fun e he => by cases he⟩ (fun i σ H' _ ⟨_, _, _, z, _⟩ => SqL.of z) ?_ ?_⟩
  · rintro i x σ H5 hx ⟨D5, b5, k5, c5, L, o6, rfl, m5, hk, rng⟩
    obtain ⟨c, hc, rfl⟩ : ∃ c, (innerL N)[i]? = some c ∧ x = V.int (c : Int) := by
      rw [List.getElem?_map] at hx
      cases e : (innerL N)[i]? with
      | none => rw [e] at hx; cases hx
      | some z => rw [e] at hx; exact ⟨z, rfl, (Option.some.inj hx).symm⟩
    have htk : (innerL N).take (i + 1) = (innerL N).take i ++ [c] := by rw [List.take_add_one, hc]; rfl
    dsimp only [gName]
    refine ⟨_, rfl, _, rfl, _, rfl, _, rfl, (by show (10 : Nat) ≤ sizeLine; decide), pickZ (K := K) (E := E0) (xs := [0, 0, 1, -1, 2, -2, 3, 0, -4, 5]) (C := fun z => z.natAbs ≤ 5) D5 (by decide) (by decide) (by decide) fun H6 r D6 b6 cr => ?_⟩
    have m6 := b6 _ _ m5 nmd.1 nmd.2
    have lL : L.length ≤ 8 := by
      have := congrArg List.length hk
      rw [List.length_map, List.length_take] at this
      omega
    have lk : (kvL L).length ≤ 100 := by unfold kvL; rw [List.length_map]; omega
    refine ⟨_, rfl, _, rfl, md, _, rfl, DPut.k (k := Sum.inl (c : Int)) m6 (Nat.lt_of_le_of_lt lk (by decide)), ?_⟩
    rw [putK_kvL]
    have hno : getP L c = none := getP_none.mpr fun e he z => by
      have hp : ((innerL N).take (i + 1)).Nodup := ind.sublist (List.take_sublist _ _)
      rw [htk] at hp
      have m1 : e.1 ∈ (innerL N).take i := by rw [← hk]; exact List.mem_map.mpr ⟨e, he, rfl⟩
      exact (List.nodup_append.mp hp).2.2 e.1 m1 c List.mem_cons_self z
    have hput : putP L c r = L ++ [(c, r)] := by
      unfold putP
      rw [hno, if_neg (by decide)]
    rw [hput]
    refine ⟨?_, fun b o h n1 n2 => ?_, ?_, ?_, L ++ [(c, r)], _, rfl, upd_same, ?_, fun e he => ?_⟩
    · obtain ⟨mx, dr, cs, e1, e2, e3⟩ := D6
      exact ⟨mx, dr, cs, by rw [upd_ne nmd.1.symm]; exact e1, by rw [upd_ne nmd.2.symm]; exact e2, e3⟩
    · rw [upd_ne (ne_of_none h hmd0)]
      exact (b5.trans b6) _ _ h n1 n2
    · rw [upd_ne npm]
      exact b6 _ _ k5 n1.1 n1.2
    · rw [upd_ne nCm]
      exact b6 _ _ c5 nC0.1 nC0.2
    · rw [List.map_append, hk, htk]
      rfl
    · rcases List.mem_append.mp he with h | h
      · exact rng e h
      · rw [List.mem_singleton.mp h]
        exact cr
  rintro σ H5 ⟨D5, b5, k5, _, L, o6, rfl, m5, hk, rng⟩
  rw [List.length_map, List.take_length] at hk
  have nk := keys_nk hk ind
  have lL : L.length ≤ 8 := by
    have := congrArg List.length hk
    rw [List.length_map] at this
    omega
  have kin : ∀ e ∈ L, e.1 ∈ divL N := fun e he => inm _ (by rw [← hk]; exact List.mem_map.mpr ⟨e, he, rfl⟩)
  have rngE : ∀ e ∈ L, 1 ≤ e.1 ∧ e.1 ≤ 400 ∧ e.2.natAbs ≤ 48 := fun e he => by
    have := hmem _ (kin e he)
    have := rng e he
    omega
  have mulL : ∀ e ∈ L, CMulW (e.1 : Int) e.2 := fun e he => mul8 (by rw [Int.natAbs_natCast]; exact Nat.lt_of_le_of_lt (rngE e he).2.1 (by decide)) (Nat.lt_of_le_of_lt (rngE e he).2.2 (by decide))
  refine ⟨md, .dK (kvL L), m5, trivial, fun od => ?_⟩
  have ma : (upd H5 md (.frz od (.dK (kvL L)))) md = some (.frz od (.dK (kvL L))) := upd_same
  have ka : ∀ b o, H5 b = some o → b ≠ md → (upd H5 md (.frz od (.dK (kvL L)))) b = some o := fun b o h n => by rw [upd_ne n]; exact h
  generalize upd H5 md (.frz od (.dK (kvL L))) = Ha at ma ka
  refine ⟨_, rfl, md, od, rfl, .inl ⟨kvL L, ma, fun D6 hD6 => ?_⟩⟩
  refine lc_it (walk_keys (o := od) (kvs := kvL L)) (fun i H' => Same Ha H' ∧ H' D6 = some (.lst (((L.take i).map (fun e => e.2)).map V.int))) ⟨Same.upd_new hD6, upd_same⟩ (fun i H' _ ⟨z, _⟩ => z _ _ ma) ?_ ?_
  · rintro i x _ Hb hi ⟨sb, hb⟩ ⟨rfl, kk, vv, hkv, rfl⟩
    obtain ⟨e, he, y1, y2⟩ : ∃ e, L[i]? = some e ∧ kk = Sum.inl (e.1 : Int) ∧ vv = V.int e.2 := by
      unfold kvL at hkv
      rw [List.getElem?_map] at hkv
      cases z : L[i]? with
      | none => rw [z] at hkv; cases hkv
      | some e => rw [z] at hkv; cases hkv; exact ⟨e, rfl, rfl, rfl⟩
    subst y1
    subst y2
    have hem := List.mem_of_getElem? he
    have hv : valV (kvL L) (.inl (e.1 : Int)) = some (V.int e.2) := by rw [valV_kvL, getP_of nk hem]; rfl
    have dg : DGet Hb md (kV (Sum.inl (e.1 : Int))) (some (V.int e.2)) := by rw [← hv]; exact .inl ⟨kvL L, .inl (e.1 : Int), .inr ⟨od, sb _ _ ma⟩, rfl, rfl⟩
    refine ⟨rfl, ?_⟩
    refine ⟨_, rfl, _, rfl, md, _, rfl, dg, ?_⟩
    refine ⟨_, hb, ?_, fun b o e => ?_, ?_⟩
    · rw [List.length_map, List.length_map, List.length_take]
      exact Nat.lt_of_le_of_lt (by omega : _ ≤ 8) (by decide)
    · rw [upd_ne (ne_of_none e hD6)]
      exact sb _ _ e
    · rw [upd_same, List.take_add_one, he, List.map_append, List.map_append]
      rfl
  rintro Hb ⟨sb, hb⟩
  rw [show (kvL L).length = L.length from List.length_map .., List.take_length] at hb
  refine ⟨sb _ _ ma, ?_⟩
  have nD6 : D6 ≠ md := fun e => by rw [e, ma] at hD6; cases hD6
  have h6 : (upd Hb md (.dK (kvL L))) D6 = some (.lst ((L.map (fun e => e.2)).map V.int)) := by rw [upd_ne nD6]; exact hb
  have s6 : Same H5 (upd Hb md (.dK (kvL L))) := fun b o h => by
    by_cases e : b = md
    · rw [e, upd_same, ← h, e]
      exact (m5).symm
    · rw [upd_ne e]
      exact sb _ _ (ka _ _ h e)
  have m6 : (upd Hb md (.dK (kvL L))) md = some (.dK (kvL L)) := upd_same
  generalize upd Hb md (.dK (kvL L)) = H6 at h6 s6 m6
  clear sb hb ka ma
  refine ⟨D6, _, rfl, SqL.of h6, ?_⟩
  refine ⟨md, .dK (kvL L), m6, trivial, fun od => ?_⟩
  have ma : (upd H6 md (.frz od (.dK (kvL L)))) md = some (.frz od (.dK (kvL L))) := upd_same
  have ka : ∀ b o, H6 b = some o → b ≠ md → (upd H6 md (.frz od (.dK (kvL L)))) b = some o := fun b o h n => by rw [upd_ne n]; exact h
  generalize upd H6 md (.frz od (.dK (kvL L))) = Ha at ma ka
  refine ⟨_, rfl, md, od, rfl, .inl ⟨kvL L, ma, fun D7 hD7 => ?_⟩⟩
  refine lc_it (walk_keys (o := od) (kvs := kvL L)) (fun i H' => Same Ha H' ∧ H' D7 = some (.lst (((L.take i).map (fun e => (e.1 : Int) * e.2)).map V.int))) ⟨Same.upd_new hD7, upd_same⟩ (fun i H' _ ⟨z, _⟩ => z _ _ ma) ?_ ?_
  · rintro i x _ Hb hi ⟨sb, hb⟩ ⟨rfl, kk, vv, hkv, rfl⟩
    obtain ⟨e, he, y1, y2⟩ : ∃ e, L[i]? = some e ∧ kk = Sum.inl (e.1 : Int) ∧ vv = V.int e.2 := by
      unfold kvL at hkv
      rw [List.getElem?_map] at hkv
      cases z : L[i]? with
      | none => rw [z] at hkv; cases hkv
      | some e => rw [z] at hkv; cases hkv; exact ⟨e, rfl, rfl, rfl⟩
    subst y1
    subst y2
    have hem := List.mem_of_getElem? he
    have hv : valV (kvL L) (.inl (e.1 : Int)) = some (V.int e.2) := by rw [valV_kvL, getP_of nk hem]; rfl
    have dg : DGet Hb md (kV (Sum.inl (e.1 : Int))) (some (V.int e.2)) := by rw [← hv]; exact .inl ⟨kvL L, .inl (e.1 : Int), .inr ⟨od, sb _ _ ma⟩, rfl, rfl⟩
    refine ⟨rfl, ?_⟩
    refine ⟨_, rfl, _, rfl, _, rfl, md, _, rfl, dg, _, _, rfl, rfl, mulL e hem, ?_⟩
    refine ⟨_, hb, ?_, fun b o e => ?_, ?_⟩
    · rw [List.length_map, List.length_map, List.length_take]
      exact Nat.lt_of_le_of_lt (by omega : _ ≤ 8) (by decide)
    · rw [upd_ne (ne_of_none e hD7)]
      exact sb _ _ e
    · rw [upd_same, List.take_add_one, he, List.map_append, List.map_append]
      rfl
  rintro Hb ⟨sb, hb⟩
  rw [show (kvL L).length = L.length from List.length_map .., List.take_length] at hb
  refine ⟨sb _ _ ma, ?_⟩
  have nD7 : D7 ≠ md := fun e => by rw [e, ma] at hD7; cases hD7
  have h7 : (upd Hb md (.dK (kvL L))) D7 = some (.lst ((L.map (fun e => (e.1 : Int) * e.2)).map V.int)) := by rw [upd_ne nD7]; exact hb
  have s7 : Same H6 (upd Hb md (.dK (kvL L))) := fun b o h => by
    by_cases e : b = md
    · rw [e, upd_same, ← h, e]
      exact (m6).symm
    · rw [upd_ne e]
      exact sb _ _ (ka _ _ h e)
  have m7 : (upd Hb md (.dK (kvL L))) md = some (.dK (kvL L)) := upd_same
  generalize upd Hb md (.dK (kvL L)) = H7 at h7 s7 m7
  clear sb hb ka ma
  refine ⟨D7, _, rfl, SqL.of h7, ?_⟩
  rw [show (L.map fun e => e.2).sum = sumR L from rfl, show (L.map fun e => (e.1 : Int) * e.2).sum = sumD L from rfl]
  refine ⟨(by show (2 : Nat) ≤ sizeLine; decide), fun t2 ht2 => ?_⟩
  have s8 : Same H7 (upd H7 t2 (.tup [V.int (sumR L), V.int (sumD L)])) := Same.upd_new ht2
  have h8 : (upd H7 t2 (.tup [V.int (sumR L), V.int (sumD L)])) t2 = some (.tup [V.int (sumR L), V.int (sumD L)]) := upd_same
  have m8 := s8 _ _ m7
  generalize upd H7 t2 (.tup [V.int (sumR L), V.int (sumD L)]) = H8 at s8 h8 m8
  refine ⟨t2, _, rfl, SqT.of h8, rfl, _, _, rfl, _, _, rfl, rfl, ?_⟩
  dsimp only [gName]
  refine ⟨md, .dK (kvL L), m8, trivial, fun od => ?_⟩
  have ma : (upd H8 md (.frz od (.dK (kvL L)))) md = some (.frz od (.dK (kvL L))) := upd_same
  have ka : ∀ b o, H8 b = some o → b ≠ md → (upd H8 md (.frz od (.dK (kvL L)))) b = some o := fun b o h n => by rw [upd_ne n]; exact h
  generalize upd H8 md (.frz od (.dK (kvL L))) = Ha at ma ka
  refine ⟨_, rfl, md, od, rfl, .inl ⟨kvL L, ma, fun D9 hD9 => ?_⟩⟩
  refine lc_it (walk_keys (o := od) (kvs := kvL L)) (fun i H' => Same Ha H' ∧ H' D9 = some (.lst (((L.take i).map (fun e => ((N / e.1 : Nat) : Int) * e.2)).map V.int))) ⟨Same.upd_new hD9, upd_same⟩ (fun i H' _ ⟨z, _⟩ => z _ _ ma) ?_ ?_
  · rintro i x _ Hb hi ⟨sb, hb⟩ ⟨rfl, kk, vv, hkv, rfl⟩
    obtain ⟨e, he, y1, y2⟩ : ∃ e, L[i]? = some e ∧ kk = Sum.inl (e.1 : Int) ∧ vv = V.int e.2 := by
      unfold kvL at hkv
      rw [List.getElem?_map] at hkv
      cases z : L[i]? with
      | none => rw [z] at hkv; cases hkv
      | some e => rw [z] at hkv; cases hkv; exact ⟨e, rfl, rfl, rfl⟩
    subst y1
    subst y2
    have hem := List.mem_of_getElem? he
    have hv : valV (kvL L) (.inl (e.1 : Int)) = some (V.int e.2) := by rw [valV_kvL, getP_of nk hem]; rfl
    have dg : DGet Hb md (kV (Sum.inl (e.1 : Int))) (some (V.int e.2)) := by rw [← hv]; exact .inl ⟨kvL L, .inl (e.1 : Int), .inr ⟨od, sb _ _ ma⟩, rfl, rfl⟩
    refine ⟨rfl, ?_⟩
    refine ⟨_, rfl, _, rfl, _, _, rfl, rfl, wide_div (b := 8000) (by show (0 : Int) < (e.1 : Int); have := rngE e hem; omega) (Nat.lt_of_le_of_lt (rngE e hem).2.1 (by decide)) (by decide) (by decide), ?_⟩
    dsimp only
    rw [show (N : Int) / (e.1 : Int) = ((N / e.1 : Nat) : Int) from (Int.natCast_ediv N e.1).symm]
    refine ⟨_, rfl, _, rfl, md, _, rfl, dg, _, _, rfl, rfl, mul8 (by rw [Int.natAbs_natCast]; exact Nat.lt_of_le_of_lt (Nat.le_trans (Nat.div_le_self _ _) N24) (by decide)) (Nat.lt_of_le_of_lt (rngE e hem).2.2 (by decide)), ?_⟩
    refine ⟨_, hb, ?_, fun b o e => ?_, ?_⟩
    · rw [List.length_map, List.length_map, List.length_take]
      exact Nat.lt_of_le_of_lt (by omega : _ ≤ 8) (by decide)
    · rw [upd_ne (ne_of_none e hD9)]
      exact sb _ _ e
    · rw [upd_same, List.take_add_one, he, List.map_append, List.map_append]
      rfl
  rintro Hb ⟨sb, hb⟩
  rw [show (kvL L).length = L.length from List.length_map .., List.take_length] at hb
  refine ⟨sb _ _ ma, ?_⟩
  have nD9 : D9 ≠ md := fun e => by rw [e, ma] at hD9; cases hD9
  have h9 : (upd Hb md (.dK (kvL L))) D9 = some (.lst ((L.map (fun e => ((N / e.1 : Nat) : Int) * e.2)).map V.int)) := by rw [upd_ne nD9]; exact hb
  have s9 : Same H8 (upd Hb md (.dK (kvL L))) := fun b o h => by
    by_cases e : b = md
    · rw [e, upd_same, ← h, e]
      exact (m8).symm
    · rw [upd_ne e]
      exact sb _ _ (ka _ _ h e)
  have m9 : (upd Hb md (.dK (kvL L))) md = some (.dK (kvL L)) := upd_same
  generalize upd Hb md (.dK (kvL L)) = H9 at h9 s9 m9
  clear sb hb ka ma
  refine ⟨D9, _, rfl, SqL.of h9, ?_⟩
  rw [show (L.map fun e => ((N / e.1 : Nat) : Int) * e.2).sum = sumF N L from rfl]
  have s59 := s6.trans (s7.trans (s8.trans s9))
  refine ⟨Nat.zero_le _, fun S hS => ?_⟩
  have hS0 := hS
  have nS := (D5.same s59).new hS
  have sS : Same H9 (upd H9 S (.lst [])) := Same.upd_new hS
  have hS1 : (upd H9 S (.lst [])) S = some (.lst []) := upd_same
  generalize upd H9 S (.lst []) = H10 at sS hS1
  refine ⟨_, _, rfl, ?_⟩
  have cN : ∀ z : Int, -16 ≤ z → z ≤ 16 → CMulW (N : Int) z := fun z a b => mul8 (by rw [Int.natAbs_natCast]; exact Nat.lt_of_le_of_lt N24 (by decide)) (Nat.lt_of_le_of_lt (by omega : z.natAbs ≤ 16) (by decide))
  refine ⟨_, rfl, -16, 17, rfl, ⟨by decide, by decide, by decide, by decide⟩, for_range (lo := -16) (n := 33) (fun i σ H' => Same H9 H' ∧ ∃ (us : List V) (xl : List Fq) (o11 o12 o13 o14 : Option V), σ = [some (.ref d), some (.int (N : Int)), some (.int lo), some (.int top), some (.ref p1), some (.ref md), o6, some (.int (sumR L)), some (.int (sumD L)), some (.int (sumF N L)), some (.ref S), o11, o12, o13, o14] ∧ H' S = some (.lst us) ∧ FrsAt H' us xl ∧ (∀ x ∈ xl, EndOk N L x) ∧ us.length ≤ 33 * i) ⟨sS, [], [], none, none, none, none, rfl, hS1, ⟨rfl, fun i u e a => by cases a⟩, fun x hx => absurd hx List.not_mem_nil, Nat.zero_le _⟩ ?_ ?_⟩
  · rintro i σ H11 hi ⟨s11, us, xl, o11, o12, o13, o14, rfl, hS11, tus, hx, lus⟩
    obtain ⟨one, ho, o1, o2⟩ : ∃ z : Int, (-16 : Int) + (i : Int) = z ∧ -16 ≤ z ∧ z ≤ 16 := ⟨_, rfl, by omega, by omega⟩
    dsimp only [gName]
    rw [ho]
    refine ⟨_, rfl, -16, 17, rfl, ⟨by decide, by decide, by decide, by decide⟩, fun C hC => ?_⟩
    refine lc_range (lo := -16) (n := 33) (fun j H' => Same H11 H' ∧ ∃ zs : List Int, H' C = some (.lst (zs.map V.int)) ∧ zs.length ≤ j ∧ ∀ z ∈ zs, -16 ≤ z ∧ z ≤ 16 ∧ (sumD L + one + (N : Int) * z) % 24 = 0) ⟨Same.upd_new hC, [], upd_same, Nat.le_refl _, fun z hz => by cases hz⟩ ?_ ?_
    · rintro j H12 hj ⟨s12, zs, hzs, lzs, cz⟩
      obtain ⟨oth, hoth, t1, t2⟩ : ∃ z : Int, (-16 : Int) + (j : Int) = z ∧ -16 ≤ z ∧ z ≤ 16 := ⟨_, rfl, by omega, by omega⟩
      dsimp only [gName]
      rw [hoth]
      refine ⟨rfl, _, rfl, _, rfl, _, _, rfl, rfl, _, rfl, _, rfl, _, _, rfl, rfl, cN oth t1 t2, _, _, rfl, rfl, .inl ⟨_, rfl, _, _, rfl, rfl, (by show (0 : Int) < 24; decide), rfl, _, rfl, ifI (fun e => ?_) fun e => ?_⟩⟩
      · refine ⟨_, rfl, _, hzs, ?_, fun b o e => ?_, zs ++ [oth], ?_, ?_, fun z hz => ?_⟩
        · rw [List.length_map]
          exact Nat.lt_of_le_of_lt (by omega : _ ≤ 33) (by decide)
        · rw [upd_ne (ne_of_none e hC)]
          exact s12 _ _ e
        · rw [upd_same, List.map_append]
          rfl
        · rw [List.length_append]
          show zs.length + 1 ≤ j + 1
          omega
        · rcases List.mem_append.mp hz with h | h
          · exact cz z h
          · rw [List.mem_singleton.mp h]
            exact ⟨t1, t2, e⟩
      · exact ⟨s12, zs, hzs, by omega, cz⟩
    rintro H12 ⟨s12, zs, hzs, lzs, cz⟩
    dsimp only [gName]
    have nCS : C ≠ S := fun e => by rw [e, hS11] at hC; cases hC
    have hS12 := s12 _ _ hS11
    refine ⟨_, rfl, C, rfl, ⟨_, SqL.of hzs⟩, for_list (K := K) (a := C) (xs := zs.map V.int) (fun j σ H' => Same H9 H' ∧ H' C = some (.lst (zs.map V.int)) ∧ ∃ (us : List V) (xl : List Fq) (o12 o14 : Option V), σ = [some (.ref d), some (.int (N : Int)), some (.int lo), some (.int top), some (.ref p1), some (.ref md), o6, some (.int (sumR L)), some (.int (sumD L)), some (.int (sumF N L)), some (.ref S), some (.int one), o12, some (.ref C), o14] ∧ H' S = some (.lst us) ∧ FrsAt H' us xl ∧ (∀ x ∈ xl, EndOk N L x) ∧ us.length ≤ 33 * i + j) ⟨s11.trans s12, hzs, us, xl, _, _, rfl, hS12, tus.same s12, hx, lus⟩ (fun j σ H' _ ⟨_, z, _⟩ => SqL.of z) ?_ ?_⟩
    · rintro j x σ H13 hxj ⟨s13, hzs13, us, xl, o12, o14, rfl, hS13, tus, hx, lus⟩
      obtain ⟨oth, rfl, hz⟩ := int_at hxj
      obtain ⟨t1, t2, t3⟩ := cz oth (List.mem_of_getElem? hz)
      have hjl := (List.getElem?_eq_some_iff.mp hz).1
      dsimp only [gName]
      refine ⟨_, rfl, _, rfl, _, _, rfl, rfl, _, rfl, _, _, rfl, rfl, ?_⟩
      dsimp only [gName]
      have keep : Same H9 H13 ∧ H13 C = some (.lst (zs.map V.int)) ∧ ∃ (us' : List V) (xl : List Fq) (o12 o14 : Option V), [some (V.ref d), some (V.int (N : Int)), some (V.int lo), some (V.int top), some (V.ref p1), some (V.ref md), o6, some (V.int (sumR L)), some (V.int (sumD L)), some (V.int (sumF N L)), some (V.ref S), some (V.int one), some (V.int oth), some (V.ref C), some (V.int (sumR L + one + oth))] = [some (V.ref d), some (V.int (N : Int)), some (V.int lo), some (V.int top), some (V.ref p1), some (V.ref md), o6, some (V.int (sumR L)), some (V.int (sumD L)), some (V.int (sumF N L)), some (V.ref S), some (V.int one), o12, some (V.ref C), o14] ∧ H13 S = some (.lst us') ∧ FrsAt H13 us' xl ∧ (∀ x ∈ xl, EndOk N L x) ∧ us'.length ≤ 33 * i + (j + 1) := ⟨s13, hzs13, us, xl, _, _, rfl, hS13, tus, hx, by omega⟩
      refine ⟨_, rfl, _, rfl, _, rfl, _, _, rfl, rfl, cN one o1 o2, _, _, rfl, rfl, _, rfl, _, _, rfl, rfl, .inl ⟨_, rfl, _, _, rfl, rfl, (by show (0 : Int) < 24; decide), rfl, _, rfl, ifI (fun e1 => ?_) fun _ => keep⟩⟩
      refine ⟨_, rfl, .inl ⟨_, rfl, _, _, rfl, rfl, (by show (0 : Int) < 2; decide), rfl, _, rfl, ifI (fun e2 => ?_) fun _ => keep⟩⟩
      refine ⟨_, rfl, _, rfl, _, _, rfl, rfl, wide_div (b := 8000) (by decide) (by decide) (by decide) (by decide), ?_⟩
      refine ⟨_, _, rfl, rfl, _, rfl, ifD (fun _ => ⟨_, rfl, _, _, rfl, rfl, _, rfl, ifD (fun _ => ?_) fun _ => keep⟩) fun _ => ⟨_, rfl, iteF keep⟩⟩
      have eo : EndOk N L (one, oth) := by
        refine ⟨⟨by show one.natAbs ≤ 16; omega, by show oth.natAbs ≤ 16; omega⟩, t3, e1, e2⟩
      refine ⟨_, rfl, .inl ⟨rfl, _, SqL.of hS13⟩, _, rfl, _, rfl, (by show (2 : Nat) ≤ sizeLine; decide), fun T hT => ?_⟩
      have s14 : Same H13 (upd H13 T (.tup [V.int one, V.int oth])) := Same.upd_new hT
      have hS14 := s14 _ _ hS13
      refine ⟨S, _, _, rfl, rfl, hS14, Nat.lt_of_le_of_lt (by omega : us.length ≤ 2000) (by decide), ?_⟩
      refine ⟨fun b o e => ?_, ?_, us ++ [.ref T], xl ++ [(one, oth)], _, _, rfl, upd_same, ?_, fun x h => ?_, ?_⟩
      · rw [upd_ne (ne_of_none e hS0)]
        exact s14 _ _ (s13 _ _ e)
      · rw [upd_ne nCS]
        exact s14 _ _ hzs13
      · exact FrsAt.snoc ((tus.same s14).upd hS14) (Fr.upd hS14 ⟨T, rfl, upd_same⟩)
      · rcases List.mem_append.mp h with h | h
        · exact hx x h
        · rw [List.mem_singleton.mp h]
          exact eo
      · rw [List.length_append]
        show us.length + 1 ≤ _
        omega
    · rintro σ H13 ⟨s13, _, us, xl, o12, o14, rfl, hS13, tus, hx, lus⟩
      rw [List.length_map] at lus
      exact ⟨s13, us, xl, _, _, _, _, rfl, hS13, tus, hx, by omega⟩
  rintro σ H11 ⟨s11, us, xl, o11, o12, o13, o14, rfl, hS11, tus, hx, lus⟩
  have D11 := D5.same (s59.trans s11)
  have b11 := b5.trans (But.of (d := d) (l := l) (s59.trans s11))
  have m11 := s11 _ _ m9
  have k11 := (s59.trans s11) _ _ k5
  have lxl : us.length = xl.length := tus.len
  have fin0 : us = [] → 2 ≤ N → True := fun _ _ => trivial
  refine ⟨_, rfl, rfl, _, rfl, ifI (fun e => ?_) fun e => ?_⟩
  · -- the level 1
    have eN : N = 1 := Int.ofNat.inj e
    subst eN
    refine ⟨_, rfl, rfl, _, rfl, ifI (fun _ => ?_) fun e' => absurd e e'⟩
    refine ⟨_, rfl, d, l, 2, rfl, D11, by decide, by decide, fun H12 r D12 b12 r0 r1 => ?_⟩
    have r2 : r = 0 ∨ r = 1 := by omega
    obtain ⟨v, hv, hv2⟩ : ∃ v : Int, 24 * (1 - 2 * r) = v ∧ (v = 24 ∨ v = -24) := ⟨_, rfl, by omega⟩
    refine ⟨_, _, rfl, rfl, mul8 (by decide) (Nat.lt_of_le_of_lt (by omega : r.natAbs ≤ 1) (by decide)), _, _, rfl, rfl, _, _, rfl, rfl, mul8 (by decide) (Nat.lt_of_le_of_lt (by omega : (1 - 2 * r).natAbs ≤ 3) (by decide)), ?_⟩
    dsimp only
    rw [hv]
    refine ⟨(by show (2 : Nat) ≤ sizeLine; decide), fun T hT => ?_⟩
    have s13 : Same H12 (upd H12 T (.tup [V.int 1, V.int v])) := Same.upd_new hT
    have h13 : (upd H12 T (.tup [V.int 1, V.int v])) T = some (.tup [V.int 1, V.int v]) := upd_same
    generalize upd H12 T (.tup [V.int 1, V.int v]) = H13 at s13 h13
    refine ⟨(by show (1 : Nat) ≤ sizeLine; decide), fun p ob pl hp => ?_⟩
    have s14 : Same H13 (upd H13 p (.frz ob (.tup [V.ref T]))) := Same.upd_new hp
    refine q _ _ [(1, v)] (D12.same (s13.trans s14)) ((b11.trans b12).trans (But.of (s13.trans s14))) ⟨p, ob, _, rfl, upd_same, pl, ?_⟩ (fit_one hv2)
    exact PrsAt.snoc (us := []) (l := []) ⟨rfl, fun i u e a => by cases a⟩ ⟨T, rfl, s14 _ _ h13⟩
  have N2 : 2 ≤ N := by
    have : N ≠ 1 := fun z => e (by rw [z]; rfl)
    omega
  refine ⟨_, rfl, Nat.zero_le _, fun E0l hE0 => ?_⟩
  have s12 : Same H11 (upd H11 E0l (.lst [])) := Same.upd_new hE0
  have h12 : (upd H11 E0l (.lst [])) E0l = some (.lst []) := upd_same
  generalize upd H11 E0l (.lst []) = H12 at s12 h12
  have D12 := D11.same s12
  have m12 := s12 _ _ m11
  have k12 := s12 _ _ k11
  have b12 := b11.trans (But.of (d := d) (l := l) s12)
  have hS12 := s12 _ _ hS11
  have tus12 := tus.same s12
  refine ⟨_, _, .lst (SqL.of hS12) (dp_frs tus12), .lst (SqL.of h12) .nil, shaped_frs xl, by decide, ?_⟩
  rw [eqv_nil]
  refine ⟨_, rfl, ?_⟩
  cases hxl : xl with
  | nil =>
    refine iteT ?_
    refine ⟨_, rfl, rfl, _, rfl, ifI (fun e' => absurd e' e) fun _ => ?_⟩
    refine ⟨Nat.zero_le _, fun p ob pl hp => ?_⟩
    have s14 : Same H12 (upd H12 p (.frz ob (.tup []))) := Same.upd_new hp
    exact q _ _ [] (D12.same s14) (b12.trans (But.of s14)) ⟨p, ob, _, rfl, upd_same, pl, rfl, fun i u e a => by cases a⟩ (fit_nil N)
  | cons x0 xr =>
    refine iteF ?_
    dsimp only [tNext]
    have lus2 : 0 < us.length := by rw [lxl, hxl, List.length_cons]; omega
    refine ⟨_, rfl, _, rfl, d, l, S, us, rfl, D12, .inl ⟨hS12, nS.2⟩, lus2, Nat.lt_of_le_of_lt lus (by decide), fun H13 v D13 b13 hv => ?_⟩
    obtain ⟨iv, hiv⟩ := List.mem_iff_getElem?.mp hv
    obtain ⟨x, hx2, T, rfl, hT⟩ := tus12.get hiv
    have hxe := hx x (List.mem_of_getElem? hx2)
    obtain ⟨mx, dr, cs, dd1, dd2, _⟩ := id D12
    have hT13 := b13 _ _ hT (ne_of hT dd1 (by intro z; cases z)) (ne_of hT dd2 (by intro z; cases z))
    have m13 := b13 _ _ m12 nmd.1 nmd.2
    have k13 := b13 _ _ k12 n1.1 n1.2
    have lkL : (kvL L).length ≤ 8 := by unfold kvL; rw [List.length_map]; exact lL
    obtain ⟨lw, hsome⟩ := whole_made N2 N24 hk rng hxe
    have e1 : putK (kvL L) (.inl 1) (V.int x.1) = kvL (putP L 1 x.1) := putK_kvL L 1 x.1
    have m14 : (upd H13 md (.dK (putK (kvL L) (.inl 1) (V.int x.1)))) md = some (.dK (kvL (putP L 1 x.1))) := by rw [upd_same, e1]
    have lk2 : (kvL (putP L 1 x.1)).length ≤ 9 := by
      unfold kvL
      rw [List.length_map]
      exact Nat.le_trans (put_len _ _ _) (by omega)
    refine ⟨T, _, rfl, SqT.of hT13, rfl, _, _, rfl, _, rfl, md, _, rfl, DPut.k (k := Sum.inl 1) m13 (Nat.lt_of_le_of_lt lkL (by decide)), _, _, rfl, _, rfl, _, rfl, md, _, rfl, DPut.k (k := Sum.inl (N : Int)) m14 (Nat.lt_of_le_of_lt lk2 (by decide)), rfl, ?_⟩
    rw [putK_kvL]
    have m15 : (upd (upd H13 md (.dK (putK (kvL L) (.inl 1) (V.int x.1)))) md (.dK (kvL (putP (putP L 1 x.1) N x.2)))) md = some (.dK (kvL (putP (putP L 1 x.1) N x.2))) := upd_same
    have o15 : ∀ b o, H13 b = some o → b ≠ md → (upd (upd H13 md (.dK (putK (kvL L) (.inl 1) (V.int x.1)))) md (.dK (kvL (putP (putP L 1 x.1) N x.2)))) b = some o := fun b o h n => by rw [upd_ne n, upd_ne n]; exact h
    generalize upd (upd H13 md (.dK (putK (kvL L) (.inl 1) (V.int x.1)))) md (.dK (kvL (putP (putP L 1 x.1) N x.2))) = H15 at m15 o15
    have k15 := o15 _ _ k13 npm
    have D15 : DeckAt H15 d l := by
      obtain ⟨mx, dr, cs, y1, y2, y3⟩ := id D13
      exact ⟨mx, dr, cs, o15 _ _ y1 (Ne.symm nmd.1), o15 _ _ y2 (Ne.symm nmd.2), y3⟩
    have b15 : But d l H H15 := fun b o h z1 z2 => o15 _ _ ((b12.trans b13) _ _ h z1 z2) (ne_of_none h hmd0)
    generalize putP (putP L 1 x.1) N x.2 = M at m15 lw hsome
    refine ⟨_, rfl, p1, rfl, ⟨_, SqL.of k15⟩, fun C1 hC1 => ?_⟩
    refine lc_list (K := K) (a := p1) (xs := (divL N).map fun d : Nat => V.int (d : Int)) (fun i H' => Same H15 H' ∧ ∃ ws : List V, H' C1 = some (.lst ws) ∧ PrsAt H' ws ((pickP M ((divL N).take i)).filter fun e => decide (e.2 ≠ 0))) ⟨Same.upd_new hC1, [], upd_same, rfl, fun i u e a => by cases a⟩ (fun i H' _ ⟨z, _⟩ => SqL.of (z _ _ k15)) ?_ ?_
    · rintro i y H16 hy ⟨s16, ws, hws, tws⟩
      obtain ⟨k, hkd, rfl⟩ : ∃ k, (divL N)[i]? = some k ∧ y = V.int (k : Int) := by
        rw [List.getElem?_map] at hy
        cases e : (divL N)[i]? with
        | none => rw [e] at hy; cases hy
        | some z => rw [e] at hy; exact ⟨z, rfl, (Option.some.inj hy).symm⟩
      obtain ⟨r, hr0⟩ := Option.isSome_iff_exists.mp (hsome k (List.mem_of_getElem? hkd))
      have hv : valV (kvL M) (.inl (k : Int)) = some (V.int r) := by rw [valV_kvL, hr0]; rfl
      have htk : pickP M ((divL N).take (i + 1)) = pickP M ((divL N).take i) ++ [(k, r)] := by
        unfold pickP
        rw [List.take_add_one, hkd, List.map_append]
        show _ ++ [(k, (getP M k).getD 0)] = _
        rw [hr0]
        rfl
      have lws : ws.length ≤ 8 := by
        rw [tws.len]
        refine Nat.le_trans (List.length_filter_le _ _) ?_
        unfold pickP
        rw [List.length_map, List.length_take]
        omega
      have m16 := s16 _ _ m15
      dsimp only [gName]
      have dg : DGet H16 md (kV (Sum.inl (k : Int))) (some (V.int r)) := by rw [← hv]; exact DGet.k m16
      refine ⟨rfl, _, rfl, _, rfl, md, _, rfl, dg, rfl, _, rfl, ifNI (fun ne => ?_) fun eq => ?_⟩
      · refine ⟨_, rfl, _, rfl, _, rfl, md, _, rfl, dg, (by show (2 : Nat) ≤ sizeLine; decide), fun T2 hT2 => ?_⟩
        have s17 : Same H16 (upd H16 T2 (.tup [V.int (k : Int), V.int r])) := Same.upd_new hT2
        have hws17 := s17 _ _ hws
        refine ⟨ws, hws17, Nat.lt_of_le_of_lt lws (by decide), fun b o e => ?_, _, upd_same, ?_⟩
        · rw [upd_ne (ne_of_none e hC1)]
          exact s17 _ _ (s16 _ _ e)
        · rw [htk, List.filter_append, show [((k, r) : Pq)].filter (fun e => decide (e.2 ≠ 0)) = [(k, r)] by simp [ne]]
          exact PrsAt.snoc ((tws.same s17).upd hws17) (PrA.upd hws17 ⟨T2, rfl, upd_same⟩)
      · refine ⟨s16, ws, hws, ?_⟩
        rw [htk, List.filter_append, show [((k, r) : Pq)].filter (fun e => decide (e.2 ≠ 0)) = [] by simp [eq], List.append_nil]
        exact tws
    · rintro H16 ⟨s16, ws, hws, tws⟩
      rw [List.length_map, List.take_length] at tws
      refine ⟨C1, ws, rfl, hws, fun T2 ob pl hT2 => ?_⟩
      have s17 := s16.trans (Same.upd_new (o := .frz ob (.tup ws)) hT2)
      exact q _ _ _ (D15.same s17) (b15.trans (But.of s17)) ⟨T2, ob, ws, rfl, upd_same, pl, tws.same (Same.upd_new hT2)⟩ lw
end
end Ft

set_option exponentiation.threshold 9000
namespace Ft
open PySem L2
def sp_llevel : Sp := fun vs H Q _ => ∃ v ps N, vs = [v] ∧ Pd H v ps ∧ 1 ≤ N ∧ N ≤ 400 ∧ Fit N ps ∧ ∀ H', Same H H' → Q (.int ((lvP ps : Nat) : Int)) H'
theorem com_take {N : Nat} {ps : List Pq} (N1 : 1 ≤ N) (dv : ∀ e ∈ ps, N % e.1 = 0) (i : Nat) : 0 < comP (ps.take i) ∧ comP (ps.take i) ≤ N := com_pos N1 fun e he => dv e (List.mem_of_mem_take he)
theorem com_snoc {ps : List Pq} {i : Nat} {e : Pq} (he : ps[i]? = some e) : comP (ps.take (i + 1)) = comP (ps.take i) / Nat.gcd (comP (ps.take i)) e.1 * e.1 := by
  have h : comP (ps.take (i + 1)) = Nat.lcm (comP (ps.take i)) e.1 := by
    unfold comP
    rw [List.take_add_one, he, List.map_append, List.foldl_append]
    rfl
  rw [h, Nat.div_mul_right_comm (Nat.gcd_dvd_left _ _)]
  rfl
section
variable {P : Program} {w : World} {K : PySem.W.Frag} {mg : Str → Option Value} {base : Heap}
theorem ok_llevel (D : Df K mg "_law_level" s__law_level ["_law_product_here"]) (B : Bi mg) (c__law_divisor : Cal P w K mg base 1 "_law_divisor" sp_gcdZ) : Cal P w K mg base 2 "_law_level" sp_llevel := by
  obtain ⟨f, fd, F, m, b⟩ := D.ex
  have sc := sc__law_level
  refine ⟨f, fd, _, F.ok sc (fun _ _ _ _ ⟨_, _, _, e, _⟩ => by rw [e]; rfl) (fun cdv A outer s H vs Q E hr h => ?_), m, F.kp, b⟩
  obtain ⟨v, ps, N, rfl, ⟨p, us, rfl, hp, hus⟩, N1, N4, hf, q⟩ := h
  refine ⟨_, (pss_cons (ps_set (i := 1) sc.nd rfl (Or.inr rfl) pe_int)
      (pss_cons (ps_for PassesOwn.never rfl (pi_tup (pv 0)) (pg_tup rfl (pgs_cons (pg_name (i := 2) sc.nd rfl (Or.inl rfl)) (pgs_cons (pg_name (i := 3) sc.nd rfl (Or.inl rfl)) pgs_nil)))
      (pss_one (ps_set (i := 1) sc.nd rfl (Or.inr rfl) (pe_op op_mulW (pe_op op_fdivW (pv 1) (pe_c c__law_divisor hr (by decide) (by rfl) (pa_cons (pv 1) (pa_cons (pv 2) pa_nil)))) (pv 2)))))
      (pss_cons (ps_if (PW.pt (pw_or (pt_cmpR op_ne (pe_op op_mod (pe_callTy call_int1 (by rfl) B.int_ (by decide +kernel) (pa_cons (pe_callB (id := "sum") (r := rSum K) (cr_sum rfl) (by rfl) B.sum (by decide +kernel) (pa_cons (pe_lc (own := [("_law_d", 2), ("_law_r", 3)]) (g := gTup K 2 (gCons (gName 2) (gCons (gName 3) gNil))) (tt := tYes) (by rfl) sc.nd (pi_tup (pv 0)) (blkOk_by (own := [("_law_d", 2), ("_law_r", 3)]) (N := N__law_level) (sc := defScope s__law_level) (by decide +kernel)) (fun _ _ _ _ _ => (pg_tup rfl (pgs_cons (pg_name (i := 2) sc.nd rfl (Or.inl rfl) (Or.inr rfl)) (pgs_cons (pg_name (i := 3) sc.nd rfl (Or.inl rfl) (Or.inr rfl)) pgs_nil)))) (fun _ _ _ _ _ => pts_nil) (fun _ _ _ _ _ => (pv 3))) pa_nil)) pa_nil)) pe_int) pe_int (nomark _)) (pw_or1 (pt_cmpR op_ne (pe_op op_mod (pe_callTy call_int1 (by rfl) B.int_ (by decide +kernel) (pa_cons (pe_callB (id := "sum") (r := rSum K) (cr_sum rfl) (by rfl) B.sum (by decide +kernel) (pa_cons (pe_lc (own := [("_law_d", 2), ("_law_r", 3)]) (g := gTup K 2 (gCons (gName 2) (gCons (gName 3) gNil))) (tt := tYes) (by rfl) sc.nd (pi_tup (pv 0)) (blkOk_by (own := [("_law_d", 2), ("_law_r", 3)]) (N := N__law_level) (sc := defScope s__law_level) (by decide +kernel)) (fun _ _ _ _ _ => (pg_tup rfl (pgs_cons (pg_name (i := 2) sc.nd rfl (Or.inl rfl) (Or.inr rfl)) (pgs_cons (pg_name (i := 3) sc.nd rfl (Or.inl rfl) (Or.inr rfl)) pgs_nil)))) (fun _ _ _ _ _ => pts_nil) (fun _ _ _ _ _ => (pe_op op_mulW (pv 2) (pv 3)))) pa_nil)) pa_nil)) pe_int) pe_int (nomark _)))))
      (pss_one (ps_ret pe_non))
      pss_nil)
      (pss_one (ps_ret (pe_op op_fdivW (pe_op op_mulW (pv 1) pe_int) (pe_c c__law_divisor hr (by decide) (by rfl) (pa_cons pe_int (pa_cons (pe_callB (id := "sum") (r := rSum K) (cr_sum rfl) (by rfl) B.sum (by decide +kernel) (pa_cons (pe_lc (own := [("_law_d", 2), ("_law_r", 3)]) (g := gTup K 2 (gCons (gName 2) (gCons (gName 3) gNil))) (tt := tYes) (by rfl) sc.nd (pi_tup (pv 0)) (blkOk_by (own := [("_law_d", 2), ("_law_r", 3)]) (N := N__law_level) (sc := defScope s__law_level) (by decide +kernel)) (fun _ _ _ _ _ => (pg_tup rfl (pgs_cons (pg_name (i := 2) sc.nd rfl (Or.inl rfl) (Or.inr rfl)) (pgs_cons (pg_name (i := 3) sc.nd rfl (Or.inl rfl) (Or.inr rfl)) pgs_nil)))) (fun _ _ _ _ _ => pts_nil) (fun _ _ _ _ _ => (pe_op op_mulW (pe_op op_fdivW (pv 1) (pv 2)) (pv 3)))) pa_nil)) pa_nil))))))))), ?_⟩
  have ok := hf.ok
  have lu := hus.len
  have l8 := ok.len
  dsimp only [gName]
  refine ⟨_, rfl, p, rfl, ⟨_, .inl hp⟩, for_it (walk_tup (K := K) (xs := us)) (fun i σ H' => H = H' ∧ ∃ o2 o3 : Option V, σ = [some (.ref p), some (.int ((comP (ps.take i) : Nat) : Int)), o2, o3]) ⟨rfl, none, none, rfl⟩ (fun i σ H' _ ⟨z, _⟩ => .inl (by rw [← z]; exact hp)) ?_ ?_⟩
  · rintro i x σ _ _ hi ⟨rfl, o2, o3, rfl⟩ ⟨rfl, hx⟩
    obtain ⟨e, he, t2, rfl, ht2⟩ := hus.get hx
    have er := ok.rng e (List.mem_of_getElem? he)
    obtain ⟨c0, cN⟩ := com_take N1 hf.dv i
    refine ⟨t2, _, rfl, SqT.of ht2, rfl, _, _, rfl, _, _, rfl, rfl, ?_⟩
    dsimp only [gName]
    refine ⟨_, rfl, _, rfl, _, rfl, _, _, rfl, ?_⟩
    rw [Int.natAbs_natCast, Int.natAbs_natCast, com_snoc he]
    generalize comP (ps.take i) = a at c0 cN
    have g0 : 0 < Nat.gcd a e.1 := Nat.gcd_pos_of_pos_left _ c0
    have g1 : Nat.gcd a e.1 ≤ a := Nat.le_of_dvd c0 (Nat.gcd_dvd_left _ _)
    generalize Nat.gcd a e.1 = g at g0 g1
    refine ⟨_, _, rfl, rfl, wide_div (b := 8000) (by show (0 : Int) < (g : Int); omega) (Nat.lt_of_le_of_lt (by omega : g ≤ 400) (by decide)) (by decide) (by decide), ?_⟩
    dsimp only
    rw [show (a : Int) / (g : Int) = ((a / g : Nat) : Int) from (Int.natCast_ediv _ _).symm]
    refine ⟨_, rfl, _, _, rfl, rfl, mul8 (by rw [Int.natAbs_natCast]; exact Nat.lt_of_le_of_lt (Nat.le_trans (Nat.div_le_self _ _) (Nat.le_trans cN N4)) (by decide)) (by rw [Int.natAbs_natCast]; exact Nat.lt_of_le_of_lt er.2.1 (by decide)), ?_⟩
    refine ⟨rfl, some (.int (e.1 : Int)), some (.int e.2), ?_⟩
    rw [Int.natCast_mul]
    rfl
  rintro σ _ ⟨rfl, o2, o3, rfl⟩
  rw [lu, List.take_length]
  obtain ⟨c0, cN⟩ := com_pos N1 hf.dv
  refine ⟨_, rfl, p, rfl, ⟨_, .inl (hp)⟩, fun D1 hD1 => ?_⟩
  refine lc_tup (K := K) (a := p) (xs := us) (fun i H' => Same H H' ∧ H' D1 = some (.lst (((ps.take i).map (fun e => e.2)).map V.int))) ⟨Same.upd_new hD1, upd_same⟩ (fun i H' _ ⟨z, _⟩ => .inl (rds z (hp))) ?_ ?_
  · rintro i x H1 hx ⟨s1, h1⟩
    obtain ⟨e, he, t, rfl, ht⟩ := (hus).get hx
    have hem := List.mem_of_getElem? he
    have er := ok.rng e hem
    refine ⟨t, _, rfl, SqT.of (s1 _ _ ht), rfl, _, _, rfl, _, _, rfl, rfl, rfl, ?_⟩
    refine ⟨_, rfl, ?_⟩
    refine ⟨_, h1, ?_, fun b o e => ?_, ?_⟩
    · rw [List.length_map, List.length_map, List.length_take]
      exact Nat.lt_of_le_of_lt (by omega : _ ≤ 8) (by decide)
    · rw [upd_ne (ne_of_none e hD1)]
      exact s1 _ _ e
    · rw [upd_same, List.take_add_one, he, List.map_append, List.map_append]
      rfl
  rintro H1 ⟨s1, h1⟩
  rw [lu, List.take_length] at h1
  refine ⟨D1, _, rfl, SqL.of h1, ?_⟩
  refine .inl ⟨_, rfl, _, _, rfl, rfl, (by show (0 : Int) < 2; decide), rfl, _, rfl, ifNI (fun ne => absurd hf.w ne) fun _ => ?_⟩
  refine ⟨_, rfl, p, rfl, ⟨_, .inl (rds s1 hp)⟩, fun D2 hD2 => ?_⟩
  refine lc_tup (K := K) (a := p) (xs := us) (fun i H' => Same H1 H' ∧ H' D2 = some (.lst (((ps.take i).map (fun e => (e.1 : Int) * e.2)).map V.int))) ⟨Same.upd_new hD2, upd_same⟩ (fun i H' _ ⟨z, _⟩ => .inl (rds z (rds s1 hp))) ?_ ?_
  · rintro i x H2 hx ⟨s2, h2⟩
    obtain ⟨e, he, t, rfl, ht⟩ := (hus.same s1).get hx
    have hem := List.mem_of_getElem? he
    have er := ok.rng e hem
    refine ⟨t, _, rfl, SqT.of (s2 _ _ ht), rfl, _, _, rfl, _, _, rfl, rfl, rfl, ?_⟩
    refine ⟨_, rfl, _, rfl, _, _, rfl, rfl, mulE er, ?_⟩
    refine ⟨_, h2, ?_, fun b o e => ?_, ?_⟩
    · rw [List.length_map, List.length_map, List.length_take]
      exact Nat.lt_of_le_of_lt (by omega : _ ≤ 8) (by decide)
    · rw [upd_ne (ne_of_none e hD2)]
      exact s2 _ _ e
    · rw [upd_same, List.take_add_one, he, List.map_append, List.map_append]
      rfl
  rintro H2 ⟨s2, h2⟩
  rw [lu, List.take_length] at h2
  refine ⟨D2, _, rfl, SqL.of h2, ?_⟩
  refine .inl ⟨_, rfl, _, _, rfl, rfl, (by show (0 : Int) < 24; decide), rfl, _, rfl, ifNI (fun ne => absurd hf.s ne) fun _ => ?_⟩
  dsimp only [tNext]
  refine ⟨_, rfl, _, _, rfl, rfl, mul8 (by rw [Int.natAbs_natCast]; exact Nat.lt_of_le_of_lt (Nat.le_trans cN N4) (by decide)) (by decide), ?_⟩
  refine ⟨_, rfl, p, rfl, ⟨_, .inl (rds (s1.trans s2) hp)⟩, fun D3 hD3 => ?_⟩
  refine lc_tup (K := K) (a := p) (xs := us) (fun i H' => Same H2 H' ∧ H' D3 = some (.lst (((ps.take i).map (fun e => ((comP ps / e.1 : Nat) : Int) * e.2)).map V.int))) ⟨Same.upd_new hD3, upd_same⟩ (fun i H' _ ⟨z, _⟩ => .inl (rds z (rds (s1.trans s2) hp))) ?_ ?_
  · rintro i x H3 hx ⟨s3, h3⟩
    obtain ⟨e, he, t, rfl, ht⟩ := (hus.same (s1.trans s2)).get hx
    have hem := List.mem_of_getElem? he
    have er := ok.rng e hem
    refine ⟨t, _, rfl, SqT.of (s3 _ _ ht), rfl, _, _, rfl, _, _, rfl, rfl, rfl, ?_⟩
    refine ⟨_, rfl, _, rfl, _, _, rfl, rfl, wide_div (b := 8000) (by show (0 : Int) < (e.1 : Int); omega) (Nat.lt_of_le_of_lt er.2.1 (by decide)) (by decide) (by decide), ?_⟩
    dsimp only
    rw [show ((comP ps : Nat) : Int) / (e.1 : Int) = ((comP ps / e.1 : Nat) : Int) from (Int.natCast_ediv _ e.1).symm]
    refine ⟨_, rfl, _, _, rfl, rfl, mul8 (by rw [Int.natAbs_natCast]; exact Nat.lt_of_le_of_lt (Nat.le_trans (Nat.div_le_self _ _) (Nat.le_trans cN N4)) (by decide)) (Nat.lt_of_le_of_lt er.2.2.1 (by decide)), ?_⟩
    refine ⟨_, h3, ?_, fun b o e => ?_, ?_⟩
    · rw [List.length_map, List.length_map, List.length_take]
      exact Nat.lt_of_le_of_lt (by omega : _ ≤ 8) (by decide)
    · rw [upd_ne (ne_of_none e hD3)]
      exact s3 _ _ e
    · rw [upd_same, List.take_add_one, he, List.map_append, List.map_append]
      rfl
  rintro H3 ⟨s3, h3⟩
  rw [lu, List.take_length] at h3
  refine ⟨D3, _, rfl, SqL.of h3, ?_⟩
  rw [show (ps.map fun e => ((comP ps / e.1 : Nat) : Int) * e.2).sum = sumF (comP ps) ps from rfl]
  refine ⟨24, sumF (comP ps) ps, rfl, ?_⟩
  rw [show Nat.gcd (24 : Int).natAbs (sumF (comP ps) ps).natAbs = Nat.gcd 24 (sumF (comP ps) ps).natAbs from rfl]
  have g0 : 0 < Nat.gcd 24 (sumF (comP ps) ps).natAbs := Nat.gcd_pos_of_pos_left _ (by decide)
  have g1 : Nat.gcd 24 (sumF (comP ps) ps).natAbs ≤ 24 := Nat.le_of_dvd (by decide) (Nat.gcd_dvd_left _ _)
  have gd := Nat.gcd_dvd_left 24 (sumF (comP ps) ps).natAbs
  have hl : lvP ps = comP ps * (24 / Nat.gcd 24 (sumF (comP ps) ps).natAbs) := rfl
  generalize Nat.gcd 24 (sumF (comP ps) ps).natAbs = g at g0 g1 gd hl
  refine ⟨_, _, rfl, rfl, wide_div (b := 8000) (by show (0 : Int) < (g : Int); omega) (Nat.lt_of_le_of_lt g1 (by decide)) (by decide) (by decide), ?_⟩
  dsimp only
  rw [show ((comP ps : Nat) : Int) * 24 / (g : Int) = ((lvP ps : Nat) : Int) by
    rw [hl, ← Nat.mul_div_assoc _ gd, Int.natCast_ediv, Int.natCast_mul]
    rfl]
  exact q _ (s1.trans (s2.trans s3))
end
end Ft

set_option exponentiation.threshold 9000
namespace Ft
open PySem L2
def sp_llevelG : Sp := fun vs H Q _ => ∃ v ps, vs = [v] ∧ Pd H v ps ∧ PdOk ps ∧ 0 < comP ps ∧ comP ps ≤ bigC ∧ ∀ H', Same H H' → Q (if wholeB ps then .int ((lvP ps : Nat) : Int) else .non) H'
theorem com_takeG {ps : List Pq} (h : 0 < comP ps) (i : Nat) : 0 < comP (ps.take i) ∧ comP (ps.take i) ≤ comP ps := by
  have d : comP (ps.take i) ∣ comP ps := com_dvd fun e he => dvd_com (List.mem_of_mem_take he)
  exact ⟨Nat.pos_of_dvd_of_pos d h, Nat.le_of_dvd h d⟩
section
variable {P : Program} {w : World} {K : PySem.W.Frag} {mg : Str → Option Value} {base : Heap}
theorem ok_llevelG (D : Df K mg "_law_level" s__law_level ["_law_product_here"]) (B : Bi mg) (c__law_divisor : Cal P w K mg base 1 "_law_divisor" sp_gcdZ) : Cal P w K mg base 2 "_law_level" sp_llevelG := by
  obtain ⟨f, fd, F, m, b⟩ := D.ex
  have sc := sc__law_level
  refine ⟨f, fd, _, F.ok sc (fun _ _ _ _ ⟨_, _, e, _⟩ => by rw [e]; rfl) (fun cdv A outer s H vs Q E hr h => ?_), m, F.kp, b⟩
  obtain ⟨v, ps, rfl, ⟨p, us, rfl, hp, hus⟩, ok, c0, cN, q⟩ := h
  have cB : comP ps < 2 ^ 60 := Nat.lt_of_le_of_lt cN (by unfold bigC; decide)
  refine ⟨_, (pss_cons (ps_set (i := 1) sc.nd rfl (Or.inr rfl) pe_int)
      (pss_cons (ps_for PassesOwn.never rfl (pi_tup (pv 0)) (pg_tup rfl (pgs_cons (pg_name (i := 2) sc.nd rfl (Or.inl rfl)) (pgs_cons (pg_name (i := 3) sc.nd rfl (Or.inl rfl)) pgs_nil)))
      (pss_one (ps_set (i := 1) sc.nd rfl (Or.inr rfl) (pe_op op_mulW (pe_op op_fdivW (pv 1) (pe_c c__law_divisor hr (by decide) (by rfl) (pa_cons (pv 1) (pa_cons (pv 2) pa_nil)))) (pv 2)))))
      (pss_cons (ps_if (PW.pt (pw_or (pt_cmpR op_ne (pe_op op_mod (pe_callTy call_int1 (by rfl) B.int_ (by decide +kernel) (pa_cons (pe_callB (id := "sum") (r := rSum K) (cr_sum rfl) (by rfl) B.sum (by decide +kernel) (pa_cons (pe_lc (own := [("_law_d", 2), ("_law_r", 3)]) (g := gTup K 2 (gCons (gName 2) (gCons (gName 3) gNil))) (tt := tYes) (by rfl) sc.nd (pi_tup (pv 0)) (blkOk_by (own := [("_law_d", 2), ("_law_r", 3)]) (N := N__law_level) (sc := defScope s__law_level) (by decide +kernel)) (fun _ _ _ _ _ => (pg_tup rfl (pgs_cons (pg_name (i := 2) sc.nd rfl (Or.inl rfl) (Or.inr rfl)) (pgs_cons (pg_name (i := 3) sc.nd rfl (Or.inl rfl) (Or.inr rfl)) pgs_nil)))) (fun _ _ _ _ _ => pts_nil) (fun _ _ _ _ _ => (pv 3))) pa_nil)) pa_nil)) pe_int) pe_int (nomark _)) (pw_or1 (pt_cmpR op_ne (pe_op op_mod (pe_callTy call_int1 (by rfl) B.int_ (by decide +kernel) (pa_cons (pe_callB (id := "sum") (r := rSum K) (cr_sum rfl) (by rfl) B.sum (by decide +kernel) (pa_cons (pe_lc (own := [("_law_d", 2), ("_law_r", 3)]) (g := gTup K 2 (gCons (gName 2) (gCons (gName 3) gNil))) (tt := tYes) (by rfl) sc.nd (pi_tup (pv 0)) (blkOk_by (own := [("_law_d", 2), ("_law_r", 3)]) (N := N__law_level) (sc := defScope s__law_level) (by decide +kernel)) (fun _ _ _ _ _ => (pg_tup rfl (pgs_cons (pg_name (i := 2) sc.nd rfl (Or.inl rfl) (Or.inr rfl)) (pgs_cons (pg_name (i := 3) sc.nd rfl (Or.inl rfl) (Or.inr rfl)) pgs_nil)))) (fun _ _ _ _ _ => pts_nil) (fun _ _ _ _ _ => (pe_op op_mulW (pv 2) (pv 3)))) pa_nil)) pa_nil)) pe_int) pe_int (nomark _)))))
      (pss_one (ps_ret pe_non))
      pss_nil)
      (pss_one (ps_ret (pe_op op_fdivW (pe_op op_mulW (pv 1) pe_int) (pe_c c__law_divisor hr (by decide) (by rfl) (pa_cons pe_int (pa_cons (pe_callB (id := "sum") (r := rSum K) (cr_sum rfl) (by rfl) B.sum (by decide +kernel) (pa_cons (pe_lc (own := [("_law_d", 2), ("_law_r", 3)]) (g := gTup K 2 (gCons (gName 2) (gCons (gName 3) gNil))) (tt := tYes) (by rfl) sc.nd (pi_tup (pv 0)) (blkOk_by (own := [("_law_d", 2), ("_law_r", 3)]) (N := N__law_level) (sc := defScope s__law_level) (by decide +kernel)) (fun _ _ _ _ _ => (pg_tup rfl (pgs_cons (pg_name (i := 2) sc.nd rfl (Or.inl rfl) (Or.inr rfl)) (pgs_cons (pg_name (i := 3) sc.nd rfl (Or.inl rfl) (Or.inr rfl)) pgs_nil)))) (fun _ _ _ _ _ => pts_nil) (fun _ _ _ _ _ => (pe_op op_mulW (pe_op op_fdivW (pv 1) (pv 2)) (pv 3)))) pa_nil)) pa_nil))))))))), ?_⟩
  have lu := hus.len
  have l8 := ok.len
  dsimp only [gName]
  refine ⟨_, rfl, p, rfl, ⟨_, .inl hp⟩, for_it (walk_tup (K := K) (xs := us)) (fun i σ H' => H = H' ∧ ∃ o2 o3 : Option V, σ = [some (.ref p), some (.int ((comP (ps.take i) : Nat) : Int)), o2, o3]) ⟨rfl, none, none, rfl⟩ (fun i σ H' _ ⟨z, _⟩ => .inl (by rw [← z]; exact hp)) ?_ ?_⟩
  · rintro i x σ _ _ hi ⟨rfl, o2, o3, rfl⟩ ⟨rfl, hx⟩
    obtain ⟨e, he, t2, rfl, ht2⟩ := hus.get hx
    have er := ok.rng e (List.mem_of_getElem? he)
    obtain ⟨c0, cN⟩ := com_takeG c0 i
    have cN := Nat.lt_of_le_of_lt cN cB
    refine ⟨t2, _, rfl, SqT.of ht2, rfl, _, _, rfl, _, _, rfl, rfl, ?_⟩
    dsimp only [gName]
    refine ⟨_, rfl, _, rfl, _, rfl, _, _, rfl, ?_⟩
    rw [Int.natAbs_natCast, Int.natAbs_natCast, com_snoc he]
    generalize comP (ps.take i) = a at c0 cN
    have g0 : 0 < Nat.gcd a e.1 := Nat.gcd_pos_of_pos_left _ c0
    have g1 : Nat.gcd a e.1 ≤ a := Nat.le_of_dvd c0 (Nat.gcd_dvd_left _ _)
    generalize Nat.gcd a e.1 = g at g0 g1
    refine ⟨_, _, rfl, rfl, wide_div (b := 8000) (by show (0 : Int) < (g : Int); omega) (Nat.lt_of_le_of_lt (by omega : g ≤ 2 ^ 60) (by decide)) (by decide) (by decide), ?_⟩
    dsimp only
    rw [show (a : Int) / (g : Int) = ((a / g : Nat) : Int) from (Int.natCast_ediv _ _).symm]
    refine ⟨_, rfl, _, _, rfl, rfl, mul8 (by rw [Int.natAbs_natCast]; exact Nat.lt_of_le_of_lt (Nat.div_le_self _ _) (Nat.lt_trans (by omega) (by decide : 2 ^ 60 < 2 ^ 8000))) (by rw [Int.natAbs_natCast]; exact Nat.lt_of_le_of_lt er.2.1 (by decide)), ?_⟩
    refine ⟨rfl, some (.int (e.1 : Int)), some (.int e.2), ?_⟩
    rw [Int.natCast_mul]
    rfl
  rintro σ _ ⟨rfl, o2, o3, rfl⟩
  rw [lu, List.take_length]
  refine ⟨_, rfl, p, rfl, ⟨_, .inl (hp)⟩, fun D1 hD1 => ?_⟩
  refine lc_tup (K := K) (a := p) (xs := us) (fun i H' => Same H H' ∧ H' D1 = some (.lst (((ps.take i).map (fun e => e.2)).map V.int))) ⟨Same.upd_new hD1, upd_same⟩ (fun i H' _ ⟨z, _⟩ => .inl (rds z (hp))) ?_ ?_
  · rintro i x H1 hx ⟨s1, h1⟩
    obtain ⟨e, he, t, rfl, ht⟩ := (hus).get hx
    have hem := List.mem_of_getElem? he
    have er := ok.rng e hem
    refine ⟨t, _, rfl, SqT.of (s1 _ _ ht), rfl, _, _, rfl, _, _, rfl, rfl, rfl, ?_⟩
    refine ⟨_, rfl, ?_⟩
    refine ⟨_, h1, ?_, fun b o e => ?_, ?_⟩
    · rw [List.length_map, List.length_map, List.length_take]
      exact Nat.lt_of_le_of_lt (by omega : _ ≤ 8) (by decide)
    · rw [upd_ne (ne_of_none e hD1)]
      exact s1 _ _ e
    · rw [upd_same, List.take_add_one, he, List.map_append, List.map_append]
      rfl
  rintro H1 ⟨s1, h1⟩
  rw [lu, List.take_length] at h1
  refine ⟨D1, _, rfl, SqL.of h1, ?_⟩
  refine .inl ⟨_, rfl, _, _, rfl, rfl, (by show (0 : Int) < 2; decide), rfl, _, rfl, ifNI (fun nw => ?W1) fun hw => ?_⟩
  case W1 =>
    rw [show wholeB ps = false from by unfold wholeB; rw [decide_eq_false (show ¬ sumR ps % 2 = 0 from nw)]; rfl] at q
    exact q _ s1
  refine ⟨_, rfl, p, rfl, ⟨_, .inl (rds s1 hp)⟩, fun D2 hD2 => ?_⟩
  refine lc_tup (K := K) (a := p) (xs := us) (fun i H' => Same H1 H' ∧ H' D2 = some (.lst (((ps.take i).map (fun e => (e.1 : Int) * e.2)).map V.int))) ⟨Same.upd_new hD2, upd_same⟩ (fun i H' _ ⟨z, _⟩ => .inl (rds z (rds s1 hp))) ?_ ?_
  · rintro i x H2 hx ⟨s2, h2⟩
    obtain ⟨e, he, t, rfl, ht⟩ := (hus.same s1).get hx
    have hem := List.mem_of_getElem? he
    have er := ok.rng e hem
    refine ⟨t, _, rfl, SqT.of (s2 _ _ ht), rfl, _, _, rfl, _, _, rfl, rfl, rfl, ?_⟩
    refine ⟨_, rfl, _, rfl, _, _, rfl, rfl, mulE er, ?_⟩
    refine ⟨_, h2, ?_, fun b o e => ?_, ?_⟩
    · rw [List.length_map, List.length_map, List.length_take]
      exact Nat.lt_of_le_of_lt (by omega : _ ≤ 8) (by decide)
    · rw [upd_ne (ne_of_none e hD2)]
      exact s2 _ _ e
    · rw [upd_same, List.take_add_one, he, List.map_append, List.map_append]
      rfl
  rintro H2 ⟨s2, h2⟩
  rw [lu, List.take_length] at h2
  refine ⟨D2, _, rfl, SqL.of h2, ?_⟩
  refine .inl ⟨_, rfl, _, _, rfl, rfl, (by show (0 : Int) < 24; decide), rfl, _, rfl, ifNI (fun ns => ?W2) fun hs => ?_⟩
  case W2 =>
    rw [show wholeB ps = false from by unfold wholeB; rw [decide_eq_false (show ¬ sumD ps % 24 = 0 from ns), Bool.and_false]] at q
    exact q _ (s1.trans s2)
  rw [whole_iff.mpr ⟨hw, hs⟩] at q
  dsimp only [tNext]
  refine ⟨_, rfl, _, _, rfl, rfl, mul8 (by rw [Int.natAbs_natCast]; exact Nat.lt_trans cB (by decide)) (by decide), ?_⟩
  refine ⟨_, rfl, p, rfl, ⟨_, .inl (rds (s1.trans s2) hp)⟩, fun D3 hD3 => ?_⟩
  refine lc_tup (K := K) (a := p) (xs := us) (fun i H' => Same H2 H' ∧ H' D3 = some (.lst (((ps.take i).map (fun e => ((comP ps / e.1 : Nat) : Int) * e.2)).map V.int))) ⟨Same.upd_new hD3, upd_same⟩ (fun i H' _ ⟨z, _⟩ => .inl (rds z (rds (s1.trans s2) hp))) ?_ ?_
  · rintro i x H3 hx ⟨s3, h3⟩
    obtain ⟨e, he, t, rfl, ht⟩ := (hus.same (s1.trans s2)).get hx
    have hem := List.mem_of_getElem? he
    have er := ok.rng e hem
    refine ⟨t, _, rfl, SqT.of (s3 _ _ ht), rfl, _, _, rfl, _, _, rfl, rfl, rfl, ?_⟩
    refine ⟨_, rfl, _, rfl, _, _, rfl, rfl, wide_div (b := 8000) (by show (0 : Int) < (e.1 : Int); omega) (Nat.lt_of_le_of_lt er.2.1 (by decide)) (by decide) (by decide), ?_⟩
    dsimp only
    rw [show ((comP ps : Nat) : Int) / (e.1 : Int) = ((comP ps / e.1 : Nat) : Int) from (Int.natCast_ediv _ e.1).symm]
    refine ⟨_, rfl, _, _, rfl, rfl, mul8 (by rw [Int.natAbs_natCast]; exact Nat.lt_of_le_of_lt (Nat.div_le_self _ _) (Nat.lt_trans (by omega) (by decide : 2 ^ 60 < 2 ^ 8000))) (Nat.lt_of_le_of_lt er.2.2.1 (by decide)), ?_⟩
    refine ⟨_, h3, ?_, fun b o e => ?_, ?_⟩
    · rw [List.length_map, List.length_map, List.length_take]
      exact Nat.lt_of_le_of_lt (by omega : _ ≤ 8) (by decide)
    · rw [upd_ne (ne_of_none e hD3)]
      exact s3 _ _ e
    · rw [upd_same, List.take_add_one, he, List.map_append, List.map_append]
      rfl
  rintro H3 ⟨s3, h3⟩
  rw [lu, List.take_length] at h3
  refine ⟨D3, _, rfl, SqL.of h3, ?_⟩
  rw [show (ps.map fun e => ((comP ps / e.1 : Nat) : Int) * e.2).sum = sumF (comP ps) ps from rfl]
  refine ⟨24, sumF (comP ps) ps, rfl, ?_⟩
  rw [show Nat.gcd (24 : Int).natAbs (sumF (comP ps) ps).natAbs = Nat.gcd 24 (sumF (comP ps) ps).natAbs from rfl]
  have g0 : 0 < Nat.gcd 24 (sumF (comP ps) ps).natAbs := Nat.gcd_pos_of_pos_left _ (by decide)
  have g1 : Nat.gcd 24 (sumF (comP ps) ps).natAbs ≤ 24 := Nat.le_of_dvd (by decide) (Nat.gcd_dvd_left _ _)
  have gd := Nat.gcd_dvd_left 24 (sumF (comP ps) ps).natAbs
  have hl : lvP ps = comP ps * (24 / Nat.gcd 24 (sumF (comP ps) ps).natAbs) := rfl
  generalize Nat.gcd 24 (sumF (comP ps) ps).natAbs = g at g0 g1 gd hl
  refine ⟨_, _, rfl, rfl, wide_div (b := 8000) (by show (0 : Int) < (g : Int); omega) (Nat.lt_of_le_of_lt g1 (by decide)) (by decide) (by decide), ?_⟩
  dsimp only
  rw [show ((comP ps : Nat) : Int) * 24 / (g : Int) = ((lvP ps : Nat) : Int) by
    rw [hl, ← Nat.mul_div_assoc _ gd, Int.natCast_ediv, Int.natCast_mul]
    rfl]
  exact q _ (s1.trans (s2.trans s3))
end
end Ft

set_option exponentiation.threshold 9000
namespace Ft
open PySem L2
def sp_lpsign : Sp := fun vs H Q _ => ∃ v ps N, vs = [v] ∧ Pd H v ps ∧ Fit N ps ∧ ∀ H' b, Same H H' → Bare (mOf ps) b → Q (.int (sgnOf b)) H'
theorem odd_dvdW {ps : List Pq} {i : Nat} {e : Pq} (he : ps[i]? = some e) : oddP (ps.take (i + 1)) = oddP (ps.take i) * oddW e := by
  rw [List.take_add_one, he]
  show oddP (_ ++ [e]) = _
  rw [odd_snoc]
  unfold oddW
  split
  · rfl
  · rw [Nat.mul_one]
section
variable {P : Program} {w : World} {K : PySem.W.Frag} {mg : Str → Option Value} {base : Heap}
theorem ok_lpsign (D : Df K mg "_law_product_sign" s__law_product_sign ["_law_product_here"]) (B : Bi mg) : Cal P w K mg base 1 "_law_product_sign" sp_lpsign := by
  obtain ⟨f, fd, F, m, b⟩ := D.ex
  have sc := sc__law_product_sign
  refine ⟨f, fd, _, F.ok sc (fun _ _ _ _ ⟨_, _, _, e, _⟩ => by rw [e]; rfl) (fun cdv A outer s H vs Q E hr h => ?_), m, F.kp, b⟩
  obtain ⟨v, ps, N, rfl, ⟨p, us, rfl, hp, hus⟩, hf, q⟩ := h
  have hu := hu_of hr
  refine ⟨_, (pss_cons (ps_par (i := 3) (j := 4) (by rfl) sc.nd rfl rfl (by decide) rfl rfl (pa_cons (pe_dnewK) (pa_cons (pe_ifExp (pt_cmpR op_eq (pe_op op_mod (pe_callTy call_int1 (by rfl) B.int_ (by decide +kernel) (pa_cons (pe_callB (id := "sum") (r := rSum K) (cr_sum rfl) (by rfl) B.sum (by decide +kernel) (pa_cons (pe_lc (own := [("_law_d", 1), ("_law_r", 2)]) (g := gTup K 2 (gCons (gName 1) (gCons (gName 2) gNil))) (tt := tYes) (by rfl) sc.nd (pi_tup (pv 0)) (blkOk_by (own := [("_law_d", 1), ("_law_r", 2)]) (N := N__law_product_sign) (sc := defScope s__law_product_sign) (by decide +kernel)) (fun _ _ _ _ _ => (pg_tup rfl (pgs_cons (pg_name (i := 1) sc.nd rfl (Or.inl rfl) (Or.inr rfl)) (pgs_cons (pg_name (i := 2) sc.nd rfl (Or.inl rfl) (Or.inr rfl)) pgs_nil)))) (fun _ _ _ _ _ => pts_nil) (fun _ _ _ _ _ => (pv 2))) pa_nil)) pa_nil)) pe_int) pe_int (nomark _)) pe_int (pe_un un_neg pe_int)) pa_nil)) (by rfl))
      (pss_cons (ps_for PassesOwn.never rfl (pi_tup (pv 0)) (pg_tup rfl (pgs_cons (pg_name (i := 1) sc.nd rfl (Or.inl rfl)) (pgs_cons (pg_name (i := 2) sc.nd rfl (Or.inl rfl)) pgs_nil)))
      (pss_cons (ps_par (i := 5) (j := 6) (by rfl) sc.nd rfl rfl (by decide) rfl rfl (pa_cons (pe_op op_add (pe_op op_mulW (pv 1) (pe_callTy call_int1 (by rfl) B.int_ (by decide +kernel) (pa_cons (pe_op op_mod (pe_callTy call_int1 (by rfl) B.int_ (by decide +kernel) (pa_cons (pv 2) pa_nil)) pe_int) pa_nil))) (pe_callTy call_int1 (by rfl) B.int_ (by decide +kernel) (pa_cons (pe_cmpR op_eq (pe_op op_mod (pe_callTy call_int1 (by rfl) B.int_ (by decide +kernel) (pa_cons (pv 2) pa_nil)) pe_int) pe_int (nomark _)) pa_nil))) (pa_cons pe_int pa_nil)) (by rfl))
        (pss_one (ps_while PassesOwn.never (pt_cmpR op_gt (pv 5) pe_int (nomark _))
        (pss_one (ps_if (pt_cmpR op_eq (pe_op op_mod (pe_callTy call_int1 (by rfl) B.int_ (by decide +kernel) (pa_cons (pv 5) pa_nil)) (pv 6)) pe_int (nomark _))
          (pss_cons (ps_set (i := 5) sc.nd rfl (Or.inl rfl) (pe_op op_fdivW (pv 5) (pv 6)))
            (pss_one (ps_dput hu (pv 3) (pv 6) (pe_op op_sub pe_int (pe_dget2 hu (pv 3) (pv 6) pe_int ⟨by rfl, by rfl, by rfl, by rfl⟩)) rfl)))
          (pss_one (ps_set (i := 6) sc.nd rfl (Or.inl rfl) (pe_op op_add (pv 6) pe_int)))))))))
      (pss_cons (ps_lock (ps_for PassesOwn.never rfl (pi_keys (pv 3)) (pg_name (i := 6) sc.nd rfl (Or.inl rfl))
      (pss_one (ps_set (i := 4) sc.nd rfl (Or.inl rfl) (pe_op op_mulW (pv 4) (pe_ifExp (pt_cmpR op_eq (pe_dget hu (pv 3) (pv 6) (fun _ _ => rfl)) pe_int (nomark _)) (pv 6) pe_int))))))
      (pss_one (ps_ret (pe_ifExp (pt_cmpR op_eq (pe_op op_mod (pe_callTy call_int1 (by rfl) B.int_ (by decide +kernel) (pa_cons (pv 4) pa_nil)) pe_int) pe_int (nomark _)) (pv 4) (pe_op op_mulW pe_int (pv 4)))))))), ?_⟩
  have ok := hf.ok
  have lu := hus.len
  have l8 := ok.len
  intro md hmd
  have s0 : Same H (upd H md (.dK [])) := Same.upd_new hmd
  have m0' : (upd H md (.dK [])) md = some (.dK (kvL [])) := upd_same
  generalize upd H md (.dK []) = H0 at s0 m0'
  refine ⟨_, rfl, p, rfl, ⟨_, .inl (rds s0 hp)⟩, fun D1 hD1 => ?_⟩
  refine lc_tup (K := K) (a := p) (xs := us) (fun i H' => Same H0 H' ∧ H' D1 = some (.lst (((ps.take i).map (fun e => e.2)).map V.int))) ⟨Same.upd_new hD1, upd_same⟩ (fun i H' _ ⟨z, _⟩ => .inl (rds z (rds s0 hp))) ?_ ?_
  · rintro i x H1 hx ⟨s1, h1⟩
    obtain ⟨e, he, t, rfl, ht⟩ := (hus.same s0).get hx
    have hem := List.mem_of_getElem? he
    have er := ok.rng e hem
    refine ⟨t, _, rfl, SqT.of (s1 _ _ ht), rfl, _, _, rfl, _, _, rfl, rfl, rfl, ?_⟩
    refine ⟨_, rfl, ?_⟩
    refine ⟨_, h1, ?_, fun b o e => ?_, ?_⟩
    · rw [List.length_map, List.length_map, List.length_take]
      exact Nat.lt_of_le_of_lt (by omega : _ ≤ 8) (by decide)
    · rw [upd_ne (ne_of_none e hD1)]
      exact s1 _ _ e
    · rw [upd_same, List.take_add_one, he, List.map_append, List.map_append]
      rfl
  rintro H1 ⟨s1, h1⟩
  rw [lu, List.take_length] at h1
  refine ⟨D1, _, rfl, SqL.of h1, ?_⟩
  have m1 := s1 _ _ m0'
  have s01 := s0.trans s1
  rw [show (ps.map fun e => e.2).sum = sumR ps from rfl]
  refine .inl ⟨_, rfl, _, _, rfl, rfl, (by show (0 : Int) < 4; decide), rfl, _, rfl, ifI (fun e => ?_) fun e => ?_⟩
  all_goals
    first
    | obtain ⟨sg, h1, hs, ha⟩ : ∃ sg : Int, sg = 1 ∧ (sg = if sumR ps % 4 = 0 then 1 else -1) ∧ sg.natAbs = 1 := ⟨1, rfl, (if_pos e).symm, rfl⟩
    | obtain ⟨sg, h1, hs, ha⟩ : ∃ sg : Int, sg = -1 ∧ (sg = if sumR ps % 4 = 0 then 1 else -1) ∧ sg.natAbs = 1 := ⟨-1, rfl, (if_neg e).symm, rfl⟩
    first
    | refine ⟨_, rfl, _, _, rfl, ?_⟩
    | refine ⟨_, _, rfl, ?_⟩
    refine ⟨_, rfl, p, rfl, ⟨_, .inl (rds s01 hp)⟩, for_it (walk_tup (K := K) (xs := us)) (fun i σ H' => Same H H' ∧ ∃ (L : List Pq) (o1 o2 o5 o6 : Option V), σ = [some (.ref p), o1, o2, some (.ref md), some (.int sg), o5, o6] ∧ H' md = some (.dK (kvL L)) ∧ Par L ∧ SqE (oddP L) (oddP (ps.take i))) ⟨s01, [], none, none, none, none, (by rw [h1]; rfl), m1, Par.nil, SqE.refl _⟩ (fun i σ H' _ ⟨z, _⟩ => .inl (rds z hp)) ?_ ?_⟩
    · rintro i x σ _ H3 hi ⟨s3, L, o1, o2, o5, o6, rfl, m3, PL, sq⟩ ⟨rfl, hx⟩
      obtain ⟨e', he, t2, rfl, ht2⟩ := hus.get hx
      have er := ok.rng e' (List.mem_of_getElem? he)
      refine ⟨t2, _, rfl, SqT.of (s3 _ _ ht2), rfl, _, _, rfl, _, _, rfl, rfl, ?_⟩
      refine ⟨_, rfl, _, rfl, .inl ⟨_, rfl, _, _, rfl, rfl, (by show (0 : Int) < 2; decide), .inl ⟨_, rfl, _, _, rfl, rfl, mul8 (by rw [Int.natAbs_natCast]; exact Nat.lt_of_le_of_lt er.2.1 (by decide)) (Nat.lt_of_le_of_lt (by omega : (e'.2 % 2).natAbs ≤ 2) (by decide)), _, rfl, .inl ⟨_, rfl, _, _, rfl, rfl, (by show (0 : Int) < 2; decide), rfl, .inr ⟨_, rfl, _, _, rfl, rfl, _, _, rfl, ?_⟩⟩⟩⟩⟩
      have hw : (e'.1 : Int) * (e'.2 % 2) + (if decide (V.int (e'.2 % 2) = V.int 0) = true then 1 else 0) = ((oddW e' : Nat) : Int) := by
        unfold oddW
        by_cases z : e'.2 % 2 = 1
        · rw [if_pos z, z, if_neg (by decide)]
          omega
        · have z0 : e'.2 % 2 = 0 := by omega
          rw [if_neg z, z0, if_pos (by decide)]
          rfl
      dsimp only
      rw [hw]
      have w1 : 1 ≤ oddW e' ∧ oddW e' ≤ 400 := by
        unfold oddW
        split <;> omega
      have sq' : SqE (oddP L * oddW e') (oddP (ps.take (i + 1))) := by
        rw [odd_dvdW he]
        exact SqE.mul sq (SqE.refl _)
      generalize oddW e' = r0 at w1 sq'
      refine while_go (fun σ H' => Same H H' ∧ ∃ (L : List Pq) (rest pp : Nat), σ = [some (.ref p), some (.int (e'.1 : Int)), some (.int e'.2), some (.ref md), some (.int sg), some (.int (rest : Int)), some (.int (pp : Int))] ∧ H' md = some (.dK (kvL L)) ∧ Par L ∧ SqE (oddP L * rest) (oddP (ps.take (i + 1))) ∧ 1 ≤ rest ∧ rest ≤ 400 ∧ 2 ≤ pp ∧ pp ≤ 400 ∧ NoF pp rest) (fun σ _ => m0 5 σ * 1000 + (1000 - m0 6 σ)) ⟨s3, L, r0, 2, rfl, m3, PL, sq', w1.1, w1.2, by decide, by decide, fun q h1 h2 => by omega⟩ ?_
      rintro σ H4 ⟨s4, L, rest, pp, rfl, m4, PL, sq, r1, r4, p2, p4, nf⟩
      refine ⟨_, rfl, _, _, rfl, rfl, _, rfl, ifD (fun e => ?_) fun e => ?_⟩
      · have pr : pp ≤ rest := by
          rcases Nat.lt_or_ge rest pp with z | z
          · exact absurd (Nat.dvd_refl rest) (nf rest (by omega) z)
          · exact z
        refine ⟨fun σ' H' => Same H H' ∧ ∃ (L : List Pq) (rest' pp' : Nat), σ' = [some (.ref p), some (.int (e'.1 : Int)), some (.int e'.2), some (.ref md), some (.int sg), some (.int (rest' : Int)), some (.int (pp' : Int))] ∧ H' md = some (.dK (kvL L)) ∧ Par L ∧ SqE (oddP L * rest') (oddP (ps.take (i + 1))) ∧ 1 ≤ rest' ∧ rest' ≤ 400 ∧ 2 ≤ pp' ∧ pp' ≤ 400 ∧ NoF pp' rest' ∧ rest' * 1000 + (1000 - pp') < rest * 1000 + (1000 - pp), ?_, ?_⟩
        · rintro σ' H' ⟨s', L', r', p', rfl, y1, y2, y3, y4, y5, y6, y7, y8, y9⟩
          exact ⟨_, y9, rfl, s', L', r', p', rfl, y1, y2, y3, y4, y5, y6, y7, y8⟩
        refine ⟨_, rfl, .inl ⟨_, rfl, _, rfl, _, _, rfl, rfl, (by show (0 : Int) < (pp : Int); omega), rfl, _, rfl, ifI (fun ez => ?_) fun ez => ?_⟩⟩
        · have dp : pp ∣ rest := Nat.dvd_of_mod_eq_zero (Int.ofNat.inj ez)
          obtain ⟨k, hk⟩ := dp
          have dp : pp ∣ rest := ⟨k, hk⟩
          have ek : rest / pp = k := by rw [hk, Nat.mul_div_cancel_left _ (by omega)]
          have k0 : 0 < k := Nat.pos_of_ne_zero fun z => by rw [z, Nat.mul_zero] at hk; omega
          have k2 : 2 * k ≤ rest := by rw [hk]; exact Nat.mul_le_mul_right _ p2
          obtain ⟨PL', sq2⟩ := PL.step p2 p4 (nf.prime dp)
          refine ⟨_, rfl, _, rfl, _, _, rfl, rfl, wide_div (b := 8000) (by show (0 : Int) < (pp : Int); omega) (Nat.lt_of_le_of_lt p4 (by decide)) (by decide) (by decide), ?_⟩
          dsimp only [gName]
          refine ⟨_, rfl, md, rfl, .inl ⟨_, .inl m4⟩, _, rfl, _, DGet.k (k := Sum.inl (pp : Int)) m4, ?_⟩
          rw [getV]
          have lk : (kvL L).length ≤ 401 := by
            unfold kvL
            rw [List.length_map]
            exact PL.len
          refine ⟨_, _, rfl, rfl, _, rfl, _, rfl, md, _, rfl, DPut.k (k := Sum.inl (pp : Int)) m4 (Nat.lt_of_le_of_lt lk (by decide)), ?_⟩
          dsimp only
          rw [putK_kvL]
          refine ⟨fun b o h => ?_, _, k, pp, ?_, upd_same, PL', ?_, by omega, by omega, p2, p4, nf.dvd ⟨pp, by rw [hk, Nat.mul_comm]⟩, by omega⟩
          · rw [upd_ne (ne_of_none h hmd)]
            exact s4 _ _ h
          · show [some (V.ref p), some (V.int (e'.1 : Int)), some (V.int e'.2), some (V.ref md), some (V.int sg), some (V.int ((rest : Int) / (pp : Int))), some (V.int (pp : Int))] = _
            rw [show (rest : Int) / (pp : Int) = ((rest / pp : Nat) : Int) from (Int.natCast_ediv _ _).symm, ek]
          · refine SqE.trans (SqE.mul sq2 (SqE.refl k)) ?_
            rw [Nat.mul_assoc, ← hk]
            exact sq
        · have ez' : ¬ pp ∣ rest := fun z => ez (congrArg Int.ofNat (Nat.mod_eq_zero_of_dvd z))
          have pn : pp ≠ rest := fun z => ez' (by rw [z]; exact Nat.dvd_refl _)
          refine ⟨_, rfl, _, _, rfl, rfl, ?_⟩
          exact ⟨s4, L, rest, pp + 1, rfl, m4, PL, sq, r1, r4, by omega, by omega, nf.succ ez', by omega⟩
      · have e1 : rest = 1 := by
          have e : ¬ (1 : Int) < (rest : Int) := e
          omega
        rw [e1, Nat.mul_one] at sq
        exact ⟨s4, L, _, _, _, _, rfl, m4, PL, sq⟩
    rintro σ H3 ⟨s3, L, o1, o2, o5, o6, rfl, m3, PL, sq⟩
    rw [lu, List.take_length] at sq
    refine ⟨md, .dK (kvL L), m3, trivial, fun od => ?_⟩
    have ma : (upd H3 md (.frz od (.dK (kvL L)))) md = some (.frz od (.dK (kvL L))) := upd_same
    have ka : ∀ b o, H b = some o → (upd H3 md (.frz od (.dK (kvL L)))) b = some o := fun b o h => by rw [upd_ne (ne_of_none h hmd)]; exact s3 _ _ h
    generalize upd H3 md (.frz od (.dK (kvL L))) = Ha at ma ka
    have kl : (kvL L).length = L.length := List.length_map ..
    have Ll := PL.len
    have bd : ∀ i, (oddP (L.take i)) < 2 ^ 4000 := fun i => by
      have h := (odd_le (B := 400) (by decide) _ (L.take i) rfl fun x hx => by
        have := PL.pr x (List.mem_of_mem_take hx)
        omega).2
      refine Nat.lt_of_le_of_lt (Nat.le_trans h (Nat.pow_le_pow_right (by decide) (by rw [List.length_take]; omega : (L.take i).length ≤ 401))) (by decide)
    refine ⟨_, rfl, md, od, rfl, .inl ⟨kvL L, ma, for_it (walk_keys (o := od) (kvs := kvL L)) (fun i σ H' => Ha = H' ∧ ∃ o6 : Option V, σ = [some (.ref p), o1, o2, some (.ref md), some (.int (sg * ((oddP (L.take i) : Nat) : Int))), o5, o6]) ⟨rfl, _, (by rw [List.take_zero]; show _ = [some (V.ref p), o1, o2, some (V.ref md), some (V.int (sg * 1)), o5, _]; rw [Int.mul_one])⟩ (fun i σ H' _ ⟨z, _⟩ => by rw [← z]; exact ma) ?_ ?_⟩⟩
    · rintro i x σ _ Hb hi ⟨rfl, o6, rfl⟩ ⟨rfl, kk, vv, hkv, rfl⟩
      obtain ⟨e', he, y1, y2⟩ : ∃ e, L[i]? = some e ∧ kk = Sum.inl (e.1 : Int) ∧ vv = V.int e.2 := by
        unfold kvL at hkv
        rw [List.getElem?_map] at hkv
        cases z : L[i]? with
        | none => rw [z] at hkv; cases hkv
        | some e => rw [z] at hkv; cases hkv; exact ⟨e, rfl, rfl, rfl⟩
      subst y1
      subst y2
      have hem := List.mem_of_getElem? he
      obtain ⟨q2, q4, _⟩ := PL.pr e' hem
      have hv : valV (kvL L) (.inl (e'.1 : Int)) = some (V.int e'.2) := by rw [valV_kvL, getP_of PL.nk hem]; rfl
      have dg : DGet Hb md (kV (Sum.inl (e'.1 : Int))) (some (V.int e'.2)) := by rw [← hv]; exact .inl ⟨kvL L, .inl (e'.1 : Int), .inr ⟨od, ma⟩, rfl, rfl⟩
      have b8 : (sg * ((oddP (L.take i) : Nat) : Int)).natAbs < 2 ^ 8000 := by
        rw [Int.natAbs_mul, ha, Int.natAbs_natCast, Nat.one_mul]
        exact Nat.lt_trans (bd i) (Nat.pow_lt_pow_right (by decide) (by decide))
      rw [odd_dvdW he]
      dsimp only [gName]
      refine ⟨_, rfl, _, rfl, _, rfl, md, _, rfl, dg, rfl, _, rfl, ifI (fun z => ?_) fun z => ?_⟩
      · refine ⟨_, rfl, _, _, rfl, rfl, mul8 b8 (by rw [Int.natAbs_natCast]; exact Nat.lt_of_le_of_lt q4 (by decide)), rfl, some (.int (e'.1 : Int)), ?_⟩
        have w1 : oddW e' = e'.1 := by
          unfold oddW
          rw [if_pos (by rw [z]; rfl)]
        rw [w1, Int.natCast_mul, ← Int.mul_assoc]
        rfl
      · refine ⟨_, _, rfl, rfl, mul8 b8 (by decide), rfl, some (.int (e'.1 : Int)), ?_⟩
        have w1 : oddW e' = 1 := by
          unfold oddW
          rw [if_neg (by rcases PL.v e' hem with k | k <;> omega)]
        rw [w1, Nat.mul_one]
        show [some (V.ref p), o1, o2, some (V.ref md), some (V.int (sg * ((oddP (L.take i) : Nat) : Int) * 1)), o5, _] = _
        rw [Int.mul_one]
        rfl
    · rintro σ _ ⟨rfl, o6, rfl⟩
      rw [kl, List.take_length]
      have hb := sgn_found hf PL sq hs
      have sL : Same H (upd Ha md (.dK (kvL L))) := fun b o h => by rw [upd_ne (ne_of_none h hmd)]; exact ka _ _ h
      have hq := q _ _ sL hb
      have b4 := bd L.length
      rw [List.take_length] at b4
      have b8 : (sg * ((oddP L : Nat) : Int)).natAbs < 2 ^ 8000 := by
        rw [Int.natAbs_mul, ha, Int.natAbs_natCast, Nat.one_mul]
        exact Nat.lt_trans b4 (Nat.pow_lt_pow_right (by decide) (by decide))
      unfold sgnOf at hq
      generalize sg * ((oddP L : Nat) : Int) = z at hq b8
      refine ⟨ma, ?_⟩
      refine ⟨_, rfl, .inl ⟨_, rfl, _, _, rfl, rfl, (by show (0 : Int) < 4; decide), rfl, _, rfl, ifI (fun e => ?_) fun e => ?_⟩⟩
      · rw [if_pos e] at hq
        exact ⟨_, rfl, hq⟩
      · rw [if_neg e] at hq
        exact ⟨_, rfl, _, _, rfl, rfl, mul8 (by decide) b8, hq⟩
end
end Ft

set_option exponentiation.threshold 9000
namespace Ft
open PySem L2
/-! ### the law's lambdas: product_sign, by place and by name -/
section
variable {X : Cx} {k j : Nat} {f : Addr} {fd : FuncData} {ps ks : List Str} {sp : Sp} {x : Str} {g : List Value → List Value → List Value} {gV : List V → List V → List V} {p pos : Pos} {kws : List Keyword} {tk : TA} {CX : CXT} {E : XK}
/-- a def that may raise, by names alone -/
theorem pe_kx (F : FnOk X.prog X.w X.K X.mg X.base CX k f fd ps sp) (hr : Room k X.A) (hg : Gl X x) (hm : X.mg x = some (.ref f)) (kp : PySem.W.keepIn X.K (.ref f) = true) (hb : KBinds X.K fd ps ks g gV) (hx : Passes CX X E) (hkw : PK X kws tk)
    (hall : (backToKw pos (keywordEach kws X.env)).all (·.1.isSome) = true := by rfl) (hks : (backToKw pos (keywordEach kws X.env)).filterMap (·.1) = ks := by rfl) (hdb : (x == ("__debug__" : Str)) = false := by decide)
    (hpl : ((backTo pos (starEach [] X.env)).any (·.1) || (backToKw pos (keywordEach kws X.env)).any (·.1.isNone)) = false := by rfl) :
    PE X (.Call (.Name x p) [] kws pos) (tCallK sp gV E tNil tk) :=
  ⟨fun pins s σ H Q I h => wpAny_Call_Name_kw (ld_glob I hg hm (PySem.W.callWith_KW0 (h₀ := X.base) I.ok.mod.kin kp hall (thn (hkw.run pos pins s σ H _ I h) fun ws s2 ⟨zs, H2, I2, rz, q2⟩ => ⟨I2.kIn, by rw [hks]; exact run_fnk F hr hb hx I2 .nil rz q2⟩) hpl) hdb)⟩
end
def oneV : List V → List V → List V := fun us zs => match us, zs with
  | [], [a] => [a]
  | _, _ => []
def oneU : List Value → List Value → List Value := fun us zs => match us, zs with
  | [], [a] => [a]
  | _, _ => []
theorem one_rel : ∀ {vs : List V} {us : List Value} {zs : List V} {ws : List Value}, Vals vs us → Vals zs ws → Vals (oneV vs zs) (oneU us ws)
  | _, _, _, _, .nil, .nil => .nil
  | _, _, _, _, .nil, .cons a .nil => .cons a .nil
  | _, _, _, _, .nil, .cons _ (.cons _ _) => .nil
  | _, _, _, _, .cons _ _, _ => .nil
/-- product_sign, as it may be called where errors are let out -/
structure PsX (P : Program) (w : World) (K : PySem.W.Frag) (mg : Str → Option Value) (base : Heap) (C : Addr) : Prop where
  ex : ∃ (f : Addr) (fd : FuncData), FnOk P w K mg base (L2.CX P w) 7 f fd ["product"] (sp_psignX C) ∧ mg "product_sign" = some (.ref f) ∧ PySem.W.keepIn K (.ref f) = true ∧ Binds K fd ["product"] [] ∧ KBinds K fd ["product"] ["product"] oneU oneV
/-- what the law's lambdas stand on: the error's class, TermError, _law_refused, the code object of the def that makes them and its table -/
structure LamT (P : Program) (w : World) (K : PySem.W.Frag) (mg : Str → Option Value) (base : Heap) (C CT c Pt : Addr) : Prop where
  e : ErrC K C "thing"
  gN : mg "NotWhole" = some (.ref C)
  gT : mg "TermError" = some (.ref CT)
  m : PySem.W.exmOne K (.ref C) (.ref C) = some true
  r : Df K mg "_law_refused" s__law_refused ["_law_call"]
  t : LamX.TabB base mg c Pt
  s : PsX P w K mg base C
abbrev tabL (Pt : Addr) : List (Addr × Str) := [(Pt, (("_law_is_sign_right" : Str) ++ (".<locals>." : Str)) ++ ("<lambda>" : Str))]
theorem tab_mem {Pt : Addr} {q : Str} (h : q = ("_law_is_sign_right" : Str) ++ (".<locals>." : Str)) : (Pt, q ++ ("<lambda>" : Str)) ∈ tabL Pt := by
  subst h
  exact List.mem_cons_self
theorem tab_all {Pt : Addr} {q : Str} (h : q = ("_law_is_sign_right" : Str) ++ (".<locals>." : Str)) : ∀ p ∈ tabL Pt, p.1 = Pt → p.2 = q ++ ("<lambda>" : Str) := by
  subst h
  intro p hp _
  rw [List.mem_singleton.mp hp]
theorem rd_ext {H H' : Hp} {p : Addr} {us : List V} (e : LamX.ExtN H H') (h : Rd H p (.tup us)) : Rd H' p (.tup us) := by
  rcases h with h | ⟨o, h⟩
  · exact .inl (e _ _ h (fun ps z => by cases z))
  · exact .inr ⟨o, e _ _ h (fun ps z => by cases z)⟩
theorem Pd.ext {H H' : Hp} {v : V} {ps : List Pq} (h : Pd H v ps) (e : LamX.ExtN H H') : Pd H' v ps := by
  obtain ⟨p, us, ev, a, b⟩ := h
  refine ⟨p, us, ev, rd_ext e a, b.len, fun i u q h1 h2 => ?_⟩
  obtain ⟨t, e1, e2⟩ := b.at_ i u q h1 h2
  exact ⟨t, e1, e _ _ e2 (fun ps z => by cases z)⟩
theorem tabs_put {T : List (Addr × Str)} {H : Hp} {l : Addr} {xs : List V} {o : HO} (t : LamX.Tabs T H) (e : H l = some (.lst xs)) : LamX.Tabs T (upd H l o) := fun p hp => by
  obtain ⟨ps, h1, h2, h3⟩ := t p hp
  refine ⟨ps, by rw [upd_ne (ne_of h1 e (by intro z; cases z))]; exact h1, h2, fun pos cv hc => ?_⟩
  obtain ⟨c, e1, e2⟩ := h3 pos cv hc
  exact ⟨c, e1, by rw [upd_ne (ne_of e2 e (by intro z; unfold LamX.CodeO at z; cases z))]; exact e2⟩
/-- what _law_refused(lambda: product_sign(v)) gives -/
theorem ref_use {C Pt : Addr} {H : Hp} {Q : VK} {v : V} {ps : List Pq} {t : XK → TE} {σ : L2.St} (ht : ∀ E1 H1 Q1, sp_psignX C [v] H1 Q1 E1 → t E1 σ H1 Q1) (hv : Pd H v ps) (ok : PdOk ps) (ho : oddP ps ≤ 400 ^ 6) (hT : LamX.Tabs (tabL Pt) H)
    (q1 : wholeB ps = true → ∀ H' p b, LamX.ExtN H H' → LamX.Tabs (tabL Pt) H' → Bare (mOf ps) b → H' p = some (.tup [.str "told", .int (sgnOf b)]) → Q (.ref p) H')
    (q2 : wholeB ps = false → ∀ H' p, LamX.ExtN H H' → LamX.Tabs (tabL Pt) H' → H' p = some (.tup [.str "whole", v]) → Q (.ref p) H') : LamX.tLam (tabL Pt) (TTref C) t σ H Q := by
  refine ⟨hT, fun H1 x1 t1 E1 Q1 hE hQ => ht _ _ _ ⟨v, ps, rfl, hv.ext x1, ok, ho, fun w H' b s B => hQ _ _ fun p hp => ?_, fun w H' d s hd => hE d v _ upd_same fun p hp => ?_⟩⟩
  · have s' := s.trans (Same.upd_new (o := .tup [.str "told", .int (sgnOf b)]) hp)
    exact q1 w _ p b (x1.trans (.of s')) (t1.ext s') B upd_same
  · have s1 := s.trans (Same.upd_new (o := .xd [("thing", v)]) hd)
    have s' := s1.trans (Same.upd_new (o := .tup [.str "whole", v]) hp)
    exact q2 w _ p (x1.trans (.of s')) (t1.ext s') upd_same
theorem sm_whole {k : Nat} : Sm k 40 (.str "whole") := ⟨by decide +kernel, by decide +kernel, Nat.zero_le k, by decide +kernel, by decide +kernel⟩
theorem sm_told {k : Nat} : Sm k 40 (.str "told") := ⟨by decide +kernel, by decide +kernel, Nat.zero_le k, by decide +kernel, by decide +kernel⟩
/-- what is told of a call, twice -/
def twoD (x : Str) (d : PyData) : PyData := .list [.tuple [.str x, d], .tuple [.str x, d]]
theorem dp_two {K : PySem.W.Frag} {H : Hp} {l p q : Addr} {x : Str} {v : V} {d : PyData} (a : H l = some (.lst [.ref p, .ref q])) (b : H p = some (.tup [.str x, v])) (c : H q = some (.tup [.str x, v])) (h : Dp K H v d) : Dp K H (.ref l) (twoD x d) :=
  .lst (SqL.of a) (.cons (.tup (SqT.of b) (.cons (.str _) (.cons h .nil))) (.cons (.tup (SqT.of c) (.cons (.str _) (.cons h .nil))) .nil))
theorem rep_two1 {x : Str} {d : PyData} (hx : Sm 2 40 (.str x)) (h : Sm 2 400 d) : RepOk (twoD x d) := by
  have a : Sm 3 446 (.tuple [.str x, d]) := (Sm.tup (SmL.cons hx (SmL.cons h .nil))).mono (Nat.le_refl _) (by omega)
  exact ((Sm.list (SmL.cons a (SmL.cons a .nil))).mono (Nat.le_refl _) (by omega : _ ≤ 2000)).rep (by decide) (by decide)
end Ft

set_option exponentiation.threshold 9000
namespace Ft
open PySem L2
def sp_signOf : Sp := fun vs H Q _ => ∃ m : Int, vs = [.int m] ∧ m ≠ 0 ∧ m.natAbs ≤ 100000 ∧ ∀ b, Bare m b → Q (.int (sgnOf b)) H
def sp_sameI : Sp := fun vs H Q _ => ∃ i : Int, vs = [.int i, .int i] ∧ i.natAbs < 2 ^ 1900 ∧ Q (.bl true) H
section
variable {P : Program} {w : World} {K : PySem.W.Frag} {mg : Str → Option Value} {base : Heap}
theorem ok_signof (D : Df K mg "sign_of" s_sign_of ["m"]) (B : Bi mg) (c_is_integer : Cal P w K mg base 1 "is_integer" sp_is_integer) (c_any_sign_of : Cal P w K mg base 2 "any_sign_of" sp_signI) : Cal P w K mg base 3 "sign_of" sp_signOf := by
  obtain ⟨f, fd, F, m, b⟩ := D.ex
  have sc := sc_sign_of
  refine ⟨f, fd, _, F.ok sc (fun _ _ _ _ ⟨_, e, _⟩ => by rw [e]; rfl) (fun cdv A outer s H vs Q E hr h => ?_), m, F.kp, b⟩
  obtain ⟨m, rfl, m0, m1, q⟩ := h
  refine ⟨_, (pss_cons (ps_if (PW.pt (pw_or (pt_not (pt_val (pe_c c_is_integer hr (by decide) (by rfl) (pa_cons (pv 0) pa_nil)))) (pw_or (pt_cmpR op_eq (pv 0) pe_int (nomark _)) (pw_or1 (pt_cmpR op_gt (pe_callB call_abs (by rfl) B.abs (by decide +kernel) (pa_cons (pv 0) pa_nil)) pe_int (nomark _))))))
      (pss_one ps_never)
      pss_nil)
      (pss_one (ps_ret (pe_c c_any_sign_of hr (by decide) (by rfl) (pa_cons (pv 0) pa_nil))))), ?_⟩
  refine ⟨_, rfl, m, rfl, trivial, true, rfl, iteF ?_⟩
  refine ⟨_, rfl, rfl, _, rfl, ifI (fun e => absurd e m0) fun _ => ?_⟩
  have ea : (if m < 0 then -m else m) = ((m.natAbs : Nat) : Int) := by split <;> omega
  refine ⟨_, rfl, m, rfl, ?_⟩
  rw [ea]
  refine ⟨_, _, rfl, rfl, _, rfl, ifD (fun e => absurd e (by omega)) fun _ => ?_⟩
  dsimp only [tNext]
  exact ⟨_, rfl, m, rfl, m0, Nat.lt_of_le_of_lt m1 (by decide), fun b B _ => q b B⟩
theorem fn_sameI {f : Addr} {fd : FuncData} (F : Fun K "_law_same" "_law_same" s__law_same f fd) (B : Bi mg) : FnG P w K mg base 1 f fd ["_law_told", "_law_due"] sp_sameI := by
  have sc := sc__law_same
  refine fun_g F sc (fun _ _ _ _ ⟨_, e, _⟩ => by rw [e]; rfl) (fun cdv A outer s H vs Q E hgd hr h => ?_)
  obtain ⟨i, rfl, hi, q⟩ := h
  refine ⟨_, (pss_one (ps_ret (pe_cmpR op_eq (pe_callB SkE.call_repr_int (by rfl) B.repr (by decide +kernel) (pa_cons (pv 0) pa_nil)) (pe_callB SkE.call_repr_int (by rfl) B.repr (by decide +kernel) (pa_cons (pv 1) pa_nil)) (nomark _)))), ?_⟩
  have hl : i.natAbs.log2 < 1920 := Nat.lt_of_le_of_lt (Nat.le_of_lt_succ (Nat.lt_of_not_le fun z => by
    have h0 : i.natAbs ≠ 0 := fun w => by rw [w] at z; simp at z
    have := (Nat.le_log2 h0).mp z
    exact absurd (Nat.lt_of_lt_of_le hi (Nat.pow_le_pow_right (by decide) (by decide : 1900 ≤ 1901))) (Nat.not_lt.mpr this) : i.natAbs.log2 < 1901)) (by decide)
  refine ⟨_, rfl, i, rfl, hl, _, rfl, i, rfl, hl, rfl, ?_⟩
  have e : decide (V.str (Str.ofString (toString i)) = V.str (Str.ofString (toString i))) = true := decide_eq_true rfl
  rw [e]
  exact q
end
end Ft

set_option exponentiation.threshold 9000
namespace Ft
open PySem L2
theorem dp_of {K : PySem.W.Frag} {Hx : Hp} {v : V} {ps : List Pq} : Pd Hx v ps → Dp K Hx v (pdD ps) := fun ⟨p, us, e, a, b⟩ => by rw [e]; exact dp_pd a b
theorem sqf_le {ps : List Pq} {b : Int} (o : 0 < oddP ps) (h : Bare (mOf ps) b) : b.natAbs ≤ oddP ps := by
  have e := h.eqv
  rw [m_abs] at e
  exact Nat.le_of_dvd o (sqe_sqf h.sqf e)
structure BigOk (ps : List Pq) : Prop where
  ok : PdOk ps
  c0 : 0 < comP ps
  c1 : comP ps ≤ bigC
  o : oddP ps ≤ 400 ^ 5
theorem fit_own {ps : List Pq} (h : BigOk ps) (w : wholeB ps = true) : Fit (lvP ps) ps := by
  obtain ⟨a, b⟩ := whole_iff.mp w
  obtain ⟨c, d⟩ := lv_back h.c0 (fun e he => (h.ok.rng e he).1) (Nat.dvd_refl (lvP ps))
  exact ⟨h.ok, fun e he => Nat.mod_eq_zero_of_dvd (c e he), a, b, d⟩
def lvV (ps : List Pq) : V := if wholeB ps then .int ((lvP ps : Nat) : Int) else .non
def sp_sright (Pt : Addr) : Sp := fun vs H Q _ => ∃ v ps, vs = [v, lvV ps] ∧ Pd H v ps ∧ BigOk ps ∧ LamX.Tabs (tabL Pt) H ∧ ∀ H', LamX.ExtN H H' → LamX.Tabs (tabL Pt) H' → Q (.bl true) H'
section
variable {P : Program} {w : World} {K : PySem.W.Frag} {mg : Str → Option Value} {base : Heap}
theorem fn_sright {f : Addr} {fd : FuncData} {C CT c Pt : Addr} (F : Fun K "_law_is_sign_right" "_law_is_sign_right" s__law_is_sign_right f fd) (hc : fd.code = .ref c) (B : Bi mg) (L : LamT P w K mg base C CT c Pt) (g_same : CalG P w K mg base 1 "_law_same" (sp_same K)) (g_sameI : CalG P w K mg base 1 "_law_same" sp_sameI)
    (c__law_product_sign : Cal P w K mg base 1 "_law_product_sign" sp_lpsign) (c_sign_of : Cal P w K mg base 3 "sign_of" sp_signOf) (c_is_sign : Cal P w K mg base 3 "is_sign" sp_isSignI) : FnG P w K mg base 11 f fd ["_law_product_here", "_law_level_here"] (sp_sright Pt) := by
  have sc := sc__law_is_sign_right
  obtain ⟨fS, fdS, FS, hmS, kpS, bS, kS⟩ := L.s.ex
  refine fun_gC F sc (fun _ _ _ _ ⟨_, _, e, _⟩ => by rw [e]; rfl) (fun cdv ec A outer s H vs Q E hgd hr h => ?_)
  obtain rfl : cdv = .ref c := ec.symm.trans hc
  obtain ⟨v, ps, rfl, hv, big, hT, q⟩ := h
  have hu := hu_of hr
  refine ⟨_, (pss_cons (ps_set (i := 2) sc.nd rfl (Or.inl rfl) (pe_lst (pa_cons (pe_lamR (k := 7) (T := tabL Pt) (t := fun E => tCall (sp_psignX C) [] E (tCons (tVar 0) tNil)) (by rfl) L.r L.e L.gN L.gT L.m L.t rfl (tab_mem rfl) (tab_all rfl) hr (by decide) (LamX.lamS_by (sc := defScope s__law_is_sign_right) (by decide +kernel)) rfl (fun _ _ _ _ _ => rfl) (fun A outer s H E f' c' hr2 => pe_call FS hr2 (by rfl) hmS kpS bS .nil passL (pa_cons (pv 0) pa_nil))) pa_nil)))
      (pss_cons (ps_expr (pe_bm PySem.F.plainAttrs_list PySem.F.slot_list_append PySem.F.type_list_append mt_append (pv 2) (pa_cons (pe_lamR (k := 7) (T := tabL Pt) (t := fun E => tCallK (sp_psignX C) oneV E tNil (tCons (tVar 0) tNil)) (by rfl) L.r L.e L.gN L.gT L.m L.t rfl (tab_mem rfl) (tab_all rfl) hr (by decide) (LamX.lamS_by (sc := defScope s__law_is_sign_right) (by decide +kernel)) rfl (fun _ _ _ _ _ => rfl) (fun A outer s H E f' c' hr2 => pe_kx FS hr2 (by rfl) hmS kpS kS passL (pk_cons (pv 0) pk_nil))) pa_nil)))
      (pss_cons (ps_if (pt_cmpR op_isN (pv 1) pe_non (nomark _))
      (pss_one (ps_ret (pe_g g_same hgd hr (by decide) (by rfl) (pa_cons (pv 2) (pa_cons (pe_op op_rep (pe_lst (pa_cons (pe_tup (pa_cons pe_str (pa_cons (pv 0) pa_nil))) pa_nil)) pe_int) pa_nil)))))
      pss_nil)
      (pss_cons (ps_set (i := 3) sc.nd rfl (Or.inl rfl) (pe_c c__law_product_sign hr (by decide) (by rfl) (pa_cons (pv 0) pa_nil)))
      (pss_cons (ps_if (pt_not (pt_val (pe_g g_same hgd hr (by decide) (by rfl) (pa_cons (pv 2) (pa_cons (pe_op op_rep (pe_lst (pa_cons (pe_tup (pa_cons pe_str (pa_cons (pv 3) pa_nil))) pa_nil)) pe_int) pa_nil)))))
      (pss_one (ps_ret pe_bl))
      pss_nil)
      (pss_cons (ps_set (i := 6) sc.nd rfl (Or.inl rfl) (pe_ifExp (pt_cmpR op_eq (pe_op op_mod (pe_callTy call_int1 (by rfl) B.int_ (by decide +kernel) (pa_cons (pe_callB (id := "sum") (r := rSum K) (cr_sum rfl) (by rfl) B.sum (by decide +kernel) (pa_cons (pe_lc (own := [("_law_d", 4), ("_law_r", 5)]) (g := gTup K 2 (gCons (gName 4) (gCons (gName 5) gNil))) (tt := tYes) (by rfl) sc.nd (pi_tup (pv 0)) (blkOk_by (own := [("_law_d", 4), ("_law_r", 5)]) (N := N__law_is_sign_right) (sc := defScope s__law_is_sign_right) (by decide +kernel)) (fun _ _ _ _ _ => (pg_tup rfl (pgs_cons (pg_name (i := 4) sc.nd rfl (Or.inl rfl) (Or.inr rfl)) (pgs_cons (pg_name (i := 5) sc.nd rfl (Or.inl rfl) (Or.inr rfl)) pgs_nil)))) (fun _ _ _ _ _ => pts_nil) (fun _ _ _ _ _ => (pv 5))) pa_nil)) pa_nil)) pe_int) pe_int (nomark _)) pe_int (pe_un un_neg pe_int)))
      (pss_cons (ps_for PassesOwn.never rfl (pi_tup (pv 0)) (pg_tup rfl (pgs_cons (pg_name (i := 4) sc.nd rfl (Or.inl rfl)) (pgs_cons (pg_name (i := 5) sc.nd rfl (Or.inl rfl)) pgs_nil)))
      (pss_one (ps_set (i := 6) sc.nd rfl (Or.inl rfl) (pe_op op_mulW (pv 6) (pe_ifExp (pt_cmpR op_eq (pe_op op_mod (pe_callTy call_int1 (by rfl) B.int_ (by decide +kernel) (pa_cons (pv 5) pa_nil)) pe_int) pe_int (nomark _)) (pv 4) pe_int)))))
      (pss_cons (ps_if (PW.pt (pw_and (pt_cmpR op_le (pe_callB call_abs (by rfl) B.abs (by decide +kernel) (pa_cons (pv 6) pa_nil)) pe_int (nomark _)) (pw_and1 (pt_not (pt_val (pe_g g_sameI hgd hr (by decide) (by rfl) (pa_cons (pe_c c_sign_of hr (by decide) (by rfl) (pa_cons (pv 6) pa_nil)) (pa_cons (pv 3) pa_nil))))))))
      (pss_one (ps_ret pe_bl))
      pss_nil)
      (pss_one (ps_ret (pe_or (pe_cmpR op_gt (pe_callB call_abs (by rfl) B.abs (by decide +kernel) (pa_cons (pv 3) pa_nil)) pe_int (nomark _)) (pe_one (pe_cmpR op_isBl (pe_c c_is_sign hr (by decide) (by rfl) (pa_cons (pv 3) pa_nil)) pe_bl (nomark _)))))))))))))), ?_⟩
  have o6 : oddP ps ≤ 400 ^ 6 := Nat.le_trans big.o (by decide)
  cases hw : wholeB ps with
  | false =>
    have hlv : lvV ps = .non := by unfold lvV; rw [hw]; rfl
    rw [hlv]
    refine ref_use (fun E1 H1 Q1 h => ⟨v, rfl, h⟩) hv big.ok o6 hT (fun w => by rw [hw] at w; cases w) fun _ H1 p1 x1 t1 e1 => ?_
    refine ⟨(by show (1 : Nat) ≤ sizeLine; decide), fun l hl => ?_⟩
    have s2 := Same.upd_new (o := .lst [V.ref p1]) hl
    have l2 : (upd H1 l (.lst [V.ref p1])) l = some (.lst [V.ref p1]) := upd_same
    generalize upd H1 l (.lst [V.ref p1]) = H2 at s2 l2
    have x2 := x1.trans (.of s2)
    dsimp only [gName]
    refine ⟨_, rfl, .inl ⟨rfl, _, .inl (.inl l2)⟩, ?_⟩
    refine ref_use (fun E1 H1 Q1 h => ⟨v, rfl, h⟩) (hv.ext x2) big.ok o6 (t1.ext s2) (fun w => by rw [hw] at w; cases w) fun _ H3 p3 x3 t3 e3 => ?_
    have l3 := x3 _ _ l2 (by intro ps z; cases z)
    refine ⟨l, _, _, rfl, rfl, l3, (by show (1 : Nat) < sizeLine; decide), ?_⟩
    have e13 := x3 _ _ (s2 _ _ e1) (by intro ps z; cases z)
    have x4 : LamX.ExtN H (upd H3 l (.lst ([V.ref p1] ++ [V.ref p3]))) := fun b o h n => by
      have h1 := x1 b o h n
      rw [upd_ne (ne_of_none h1 hl)]
      exact x3 b o (s2 b o h1) n
    have t4 := tabs_put (o := .lst ([V.ref p1] ++ [V.ref p3])) t3 l3
    have l4 : (upd H3 l (.lst ([V.ref p1] ++ [V.ref p3]))) l = some (.lst [V.ref p1, V.ref p3]) := upd_same
    have e14 : (upd H3 l (.lst ([V.ref p1] ++ [V.ref p3]))) p1 = some (.tup [.str "whole", v]) := by rw [upd_ne (ne_of e13 l3 (by intro z; cases z))]; exact e13
    have e34 : (upd H3 l (.lst ([V.ref p1] ++ [V.ref p3]))) p3 = some (.tup [.str "whole", v]) := by rw [upd_ne (ne_of e3 l3 (by intro z; cases z))]; exact e3
    generalize upd H3 l (.lst ([V.ref p1] ++ [V.ref p3])) = H4 at x4 t4 l4 e14 e34
    refine ⟨_, rfl, rfl, _, rfl, ?_⟩
    rw [show decide (V.non = V.non) = true from decide_eq_true rfl]
    refine iteT ⟨_, rfl, _, rfl, (by show (2 : Nat) ≤ sizeLine; decide), fun p5 h5 => ⟨(by show (1 : Nat) ≤ sizeLine; decide), fun l6 h6 => ?_⟩⟩
    have s5 := Same.upd_new (o := .tup [.str "whole", v]) h5
    have e5 : (upd H4 p5 (.tup [.str "whole", v])) p5 = some (.tup [.str "whole", v]) := upd_same
    generalize upd H4 p5 (.tup [.str "whole", v]) = H5 at s5 e5 h6
    have s6 := Same.upd_new (o := .lst [V.ref p5]) h6
    have e6 : (upd H5 l6 (.lst [V.ref p5])) l6 = some (.lst [V.ref p5]) := upd_same
    have e56 := s6 _ _ e5
    generalize upd H5 l6 (.lst [V.ref p5]) = H6 at s6 e6 e56
    refine ⟨l6, 2, _, rfl, rfl, e6, by decide, by decide, (by show (1 * 2 : Nat) ≤ sizeLine; decide), fun l7 h7 => ?_⟩
    have s7 := Same.upd_new (o := .lst (List.replicate (2 : Int).toNat [V.ref p5]).flatten) h7
    have e7 : (upd H6 l7 (.lst (List.replicate (2 : Int).toNat [V.ref p5]).flatten)) l7 = some (.lst [V.ref p5, V.ref p5]) := upd_same
    generalize upd H6 l7 (.lst (List.replicate (2 : Int).toNat [V.ref p5]).flatten) = H7 at s7 e7
    have s47 := s5.trans (s6.trans s7)
    have x7 := x4.trans (.of s47)
    have dv := dp_of (K := K) (hv.ext x7)
    exact ⟨l, l7, _, rfl, dp_two (s47 _ _ l4) (s47 _ _ e14) (s47 _ _ e34) dv, dp_two e7 (s7 _ _ e56) (s7 _ _ e56) dv, rep_two1 sm_whole ((sm_pd (fun e he => ⟨(big.ok.rng e he).2.1, Nat.le_trans (big.ok.rng e he).2.2.1 (by decide)⟩) (Nat.le_trans big.ok.len (by decide))).mono (Nat.le_refl _) (by decide)), q _ x7 (t4.ext s47)⟩
  | true =>
    have hlv : lvV ps = .int ((lvP ps : Nat) : Int) := by unfold lvV; rw [hw]; rfl
    rw [hlv]
    have ok := big.ok
    have l8 := ok.len
    have o1 : 0 < oddP ps := (odd_le (B := 400) (by decide) _ ps rfl fun e he => ⟨(ok.rng e he).1, (ok.rng e he).2.1⟩).1
    obtain ⟨w2, w24⟩ := whole_iff.mp hw
    refine ref_use (fun E1 H1 Q1 h => ⟨v, rfl, h⟩) hv big.ok o6 hT (fun _ H1 p1 b1 x1 t1 B1 e1 => ?_) fun w => by rw [hw] at w; cases w
    refine ⟨(by show (1 : Nat) ≤ sizeLine; decide), fun l hl => ?_⟩
    have s2 := Same.upd_new (o := .lst [V.ref p1]) hl
    have l2 : (upd H1 l (.lst [V.ref p1])) l = some (.lst [V.ref p1]) := upd_same
    generalize upd H1 l (.lst [V.ref p1]) = H2 at s2 l2
    have x2 := x1.trans (.of s2)
    dsimp only [gName]
    refine ⟨_, rfl, .inl ⟨rfl, _, .inl (.inl l2)⟩, ?_⟩
    refine ref_use (fun E1 H1 Q1 h => ⟨v, rfl, h⟩) (hv.ext x2) big.ok o6 (t1.ext s2) (fun _ H3 p3 b3 x3 t3 B3 e3 => ?_) fun w => by rw [hw] at w; cases w
    obtain rfl : b3 = b1 := bare_uniq B3 B1 (SqE.refl _) Iff.rfl
    have l3 := x3 _ _ l2 (by intro ps z; cases z)
    refine ⟨l, _, _, rfl, rfl, l3, (by show (1 : Nat) < sizeLine; decide), ?_⟩
    have e13 := x3 _ _ (s2 _ _ e1) (by intro ps z; cases z)
    have x4 : LamX.ExtN H (upd H3 l (.lst ([V.ref p1] ++ [V.ref p3]))) := fun b o h n => by
      have h1 := x1 b o h n
      rw [upd_ne (ne_of_none h1 hl)]
      exact x3 b o (s2 b o h1) n
    have t4 := tabs_put (o := .lst ([V.ref p1] ++ [V.ref p3])) t3 l3
    have l4 : (upd H3 l (.lst ([V.ref p1] ++ [V.ref p3]))) l = some (.lst [V.ref p1, V.ref p3]) := upd_same
    have e14 : (upd H3 l (.lst ([V.ref p1] ++ [V.ref p3]))) p1 = some (.tup [.str "told", .int (sgnOf b3)]) := by rw [upd_ne (ne_of e13 l3 (by intro z; cases z))]; exact e13
    have e34 : (upd H3 l (.lst ([V.ref p1] ++ [V.ref p3]))) p3 = some (.tup [.str "told", .int (sgnOf b3)]) := by rw [upd_ne (ne_of e3 l3 (by intro z; cases z))]; exact e3
    generalize upd H3 l (.lst ([V.ref p1] ++ [V.ref p3])) = H4 at x4 t4 l4 e14 e34
    refine ⟨_, rfl, rfl, _, rfl, ?_⟩
    rw [show decide (V.int ((lvP ps : Nat) : Int) = V.non) = false from decide_eq_false (by intro z; cases z)]
    refine iteF ?_
    dsimp only [tNext]
    refine ⟨_, rfl, v, ps, lvP ps, rfl, hv.ext x4, fit_own big hw, fun H5 b5 s5 B5 => ?_⟩
    obtain rfl : b5 = b3 := bare_uniq B5 B3 (SqE.refl _) Iff.rfl
    dsimp only [gName]
    have sgB : (sgnOf b5).natAbs < 2 ^ 1900 := by
      have h1 : b5.natAbs ≤ 400 ^ 5 := Nat.le_trans (sqf_le o1 B5) big.o
      have : (sgnOf b5).natAbs ≤ 4 * b5.natAbs := by unfold sgnOf; split <;> omega
      exact Nat.lt_of_le_of_lt (Nat.le_trans this (Nat.mul_le_mul_left 4 h1)) (by decide)
    refine ⟨_, rfl, _, rfl, (by show (2 : Nat) ≤ sizeLine; decide), fun p5 h5 => ⟨(by show (1 : Nat) ≤ sizeLine; decide), fun l6 h6 => ?_⟩⟩
    have s6 := Same.upd_new (o := .tup [.str "told", .int (sgnOf b5)]) h5
    have e6 : (upd H5 p5 (.tup [.str "told", .int (sgnOf b5)])) p5 = some (.tup [.str "told", .int (sgnOf b5)]) := upd_same
    generalize upd H5 p5 (.tup [.str "told", .int (sgnOf b5)]) = H6 at s6 e6 h6
    have s7 := Same.upd_new (o := .lst [V.ref p5]) h6
    have e7 : (upd H6 l6 (.lst [V.ref p5])) l6 = some (.lst [V.ref p5]) := upd_same
    have e67 := s7 _ _ e6
    generalize upd H6 l6 (.lst [V.ref p5]) = H7 at s7 e7 e67
    refine ⟨l6, 2, _, rfl, rfl, e7, by decide, by decide, (by show (1 * 2 : Nat) ≤ sizeLine; decide), fun l8' h8 => ?_⟩
    have s8 := Same.upd_new (o := .lst (List.replicate (2 : Int).toNat [V.ref p5]).flatten) h8
    have e8 : (upd H7 l8' (.lst (List.replicate (2 : Int).toNat [V.ref p5]).flatten)) l8' = some (.lst [V.ref p5, V.ref p5]) := upd_same
    generalize upd H7 l8' (.lst (List.replicate (2 : Int).toNat [V.ref p5]).flatten) = H8 at s8 e8
    have s48 := s5.trans (s6.trans (s7.trans s8))
    refine ⟨l, l8', _, rfl, dp_two (s48 _ _ l4) (s48 _ _ e14) (s48 _ _ e34) (.int _), dp_two e8 (s8 _ _ e67) (s8 _ _ e67) (.int _), rep_two1 sm_told (sm_int (m := 399) sgB), true, rfl, iteF ?_⟩
    have x8 := x4.trans (.of s48)
    have t8 := t4.ext s48
    dsimp only [tNext]
    obtain ⟨p, us, rfl, hp, hus⟩ := hv.ext x8
    have lu := hus.len
    refine tSeq_join (fun σ H' => Same H8 H' ∧ σ = [some (.ref p), some (.int ((lvP ps : Nat) : Int)), some (.ref l), some (.int (sgnOf b5)), none, none, some (.int (if sumR ps % 4 = 0 then 1 else -1))]) (fun N hN => ?_) ?_
    · skip
      refine ⟨_, rfl, p, rfl, ⟨_, .inl (hp)⟩, fun D9 hD9 => ?_⟩
      refine lc_tup (K := K) (a := p) (xs := us) (fun i H' => Same H8 H' ∧ H' D9 = some (.lst (((ps.take i).map (fun e => e.2)).map V.int))) ⟨Same.upd_new hD9, upd_same⟩ (fun i H' _ ⟨z, _⟩ => .inl (rds z (hp))) ?_ ?_
      · rintro i x H9 hx ⟨s9, h9⟩
        obtain ⟨e, he, t, rfl, ht⟩ := (hus).get hx
        have hem := List.mem_of_getElem? he
        have er := ok.rng e hem
        refine ⟨t, _, rfl, SqT.of (s9 _ _ ht), rfl, _, _, rfl, _, _, rfl, rfl, rfl, ?_⟩
        refine ⟨_, rfl, ?_⟩
        refine ⟨_, h9, ?_, fun b o e => ?_, ?_⟩
        · rw [List.length_map, List.length_map, List.length_take]
          exact Nat.lt_of_le_of_lt (by omega : _ ≤ 8) (by decide)
        · rw [upd_ne (ne_of_none e hD9)]
          exact s9 _ _ e
        · rw [upd_same, List.take_add_one, he, List.map_append, List.map_append]
          rfl
      rintro H9 ⟨s9, h9⟩
      rw [lu, List.take_length] at h9
      refine ⟨D9, _, rfl, SqL.of h9, ?_⟩
      refine .inl ⟨_, rfl, _, _, rfl, rfl, (by show (0 : Int) < 4; decide), rfl, _, rfl, ifI (fun e => ?_) fun e => ?_⟩
      · exact hN _ _ ⟨s9, by rw [if_pos (show sumR ps % 4 = 0 from e)]; rfl⟩
      · exact ⟨_, rfl, hN _ _ ⟨s9, by rw [if_neg (show ¬ sumR ps % 4 = 0 from e)]; rfl⟩⟩
    rintro _ H9 ⟨s9, rfl⟩
    have hm : mOf ps = (if sumR ps % 4 = 0 then 1 else -1) * ((oddP ps : Nat) : Int) := by
      unfold mOf
      by_cases h : sumR ps % 4 = 0
      · rw [if_pos h, if_pos (by omega)]
      · rw [if_neg h, if_neg (by omega)]
    have sg1 : ((if sumR ps % 4 = 0 then 1 else -1 : Int)).natAbs = 1 := by split <;> rfl
    generalize (if sumR ps % 4 = 0 then (1 : Int) else -1) = sg at hm sg1
    have hp9 := rds s9 hp
    have hus9 := hus.same s9
    have bnd : ∀ i, oddP (ps.take i) ≤ 400 ^ 8 := fun i => by
      obtain ⟨a, b⟩ := odd_le (B := 400) (by decide) _ (ps.take i) rfl fun e he => ⟨(ok.rng e (List.mem_of_mem_take he)).1, (ok.rng e (List.mem_of_mem_take he)).2.1⟩
      exact Nat.le_trans b (Nat.pow_le_pow_right (by decide) (by rw [List.length_take]; omega))
    refine ⟨_, rfl, p, rfl, ⟨_, .inl hp9⟩, for_it (walk_tup (K := K) (xs := us)) (fun i σ H' => H9 = H' ∧ ∃ o4 o5 : Option V, σ = [some (.ref p), some (.int ((lvP ps : Nat) : Int)), some (.ref l), some (.int (sgnOf b5)), o4, o5, some (.int (sg * ((oddP (ps.take i) : Nat) : Int)))]) ⟨rfl, none, none, by rw [show oddP (ps.take 0) = 1 from rfl, show sg * ((1 : Nat) : Int) = sg from Int.mul_one sg]⟩ (fun i σ H' _ ⟨z, _⟩ => by rw [← z]; exact .inl hp9) ?_ ?_⟩
    · rintro i x σ _ Hx hi ⟨rfl, o4, o5, rfl⟩ ⟨rfl, hx⟩
      obtain ⟨e, he, t, rfl, ht⟩ := hus9.get hx
      have er := ok.rng e (List.mem_of_getElem? he)
      have ho := odd_snoc (ps.take i) e
      have htk : ps.take (i + 1) = ps.take i ++ [e] := by rw [List.take_add_one, he]; rfl
      rw [← htk] at ho
      have b2 := bnd i
      have nb : (sg * ((oddP (ps.take i) : Nat) : Int)).natAbs < 2 ^ 8000 := by
        rw [Int.natAbs_mul, sg1, Int.natAbs_natCast, Nat.one_mul]
        exact Nat.lt_of_le_of_lt b2 (by decide)
      refine ⟨t, _, rfl, SqT.of ht, rfl, _, _, rfl, _, _, rfl, rfl, ?_⟩
      refine ⟨_, rfl, _, rfl, .inl ⟨_, rfl, _, _, rfl, rfl, (by show (0 : Int) < 2; decide), rfl, _, rfl, ifI (fun e1 => ?_) fun e1 => ?_⟩⟩
      · rw [if_pos e1] at ho
        refine ⟨_, rfl, _, _, rfl, rfl, mul8 nb (by rw [Int.natAbs_natCast]; exact Nat.lt_of_le_of_lt er.2.1 (by decide)), ?_⟩
        refine ⟨rfl, some (.int (e.1 : Int)), some (.int e.2), ?_⟩
        rw [ho, Int.natCast_mul, ← Int.mul_assoc]
        rfl
      · rw [if_neg e1] at ho
        refine ⟨_, _, rfl, rfl, mul8 nb (by decide), ?_⟩
        refine ⟨rfl, some (.int (e.1 : Int)), some (.int e.2), ?_⟩
        rw [ho]
        show [some (V.ref p), _, _, _, some (V.int (e.1 : Int)), some (V.int e.2), some (V.int (sg * ((oddP (ps.take i) : Nat) : Int) * 1))] = _
        rw [Int.mul_one]
    rintro σ _ ⟨rfl, o4, o5, rfl⟩
    rw [lu, List.take_length, ← hm]
    have mn : (mOf ps).natAbs = oddP ps := m_abs ps
    have ea : ∀ n : Int, (if n < 0 then -n else n) = ((n.natAbs : Nat) : Int) := fun n => by split <;> omega
    have fin := q _ ((x8.trans (.of s9))) (t8.ext s9)
    refine ⟨_, rfl, _, rfl, _, _, rfl, rfl, _, rfl, ?_⟩
    rw [ea]
    have nz : mOf ps ≠ 0 := fun z => by
      rw [z] at mn
      have : (0 : Int).natAbs = 0 := rfl
      omega
    refine ifD (fun le => ?_) fun gt => ?_
    · refine ⟨_, rfl, mOf ps, rfl, nz, by omega, fun b B => ?_⟩
      obtain rfl : b = b5 := bare_uniq B B5 (SqE.refl _) Iff.rfl
      refine ⟨_, rfl, sgnOf b, rfl, sgB, true, rfl, iteF ?_⟩
      dsimp only [tNext]
      refine ⟨_, rfl, _, rfl, _, _, rfl, rfl, _, rfl, ?_⟩
      rw [ea]
      refine ifD (fun _ => fin) fun le4 => ?_
      refine ⟨_, rfl, sgnOf b, rfl, ⟨⟨b, B.sqf, rfl⟩, by omega⟩, _, _, rfl, rfl, ?_⟩
      rw [show decide (true = true) = true from rfl]
      exact fin
    · refine iteF ?_
      dsimp only [tNext]
      refine ⟨_, rfl, _, rfl, _, _, rfl, rfl, _, rfl, ?_⟩
      rw [ea]
      refine ifD (fun _ => fin) fun le4 => ?_
      refine ⟨_, rfl, sgnOf b5, rfl, ⟨⟨b5, B5.sqf, rfl⟩, by omega⟩, _, _, rfl, rfl, ?_⟩
      rw [show decide (true = true) = true from rfl]
      exact fin
end
end Ft

set_option exponentiation.threshold 9000
namespace Ft
open PySem L2
theorem all_snoc {N : Nat} {ps : List Pq} {i : Nat} {e : Pq} (he : ps[i]? = some e) : allD N (ps.take (i + 1)) = (allD N (ps.take i) && decide (N % e.1 = 0)) := by
  unfold allD
  rw [List.take_add_one, he, List.all_append]
  simp
def sp_ldoes : Sp := fun vs H Q _ => ∃ v ps N, vs = [v, .int ((N : Nat) : Int)] ∧ Pd H v ps ∧ 1 ≤ N ∧ N ≤ 400 ∧ PdOk ps ∧ ∀ H', Same H H' → Q (.bl (fitB N ps)) H'
section
variable {P : Program} {w : World} {K : PySem.W.Frag} {mg : Str → Option Value} {base : Heap}
theorem ok_ldoes (D : Df K mg "_law_does_fit" s__law_does_fit ["_law_product_here", "_law_level_here"]) (B : Bi mg) : Cal P w K mg base 1 "_law_does_fit" sp_ldoes := by
  obtain ⟨f, fd, F, m, b⟩ := D.ex
  have sc := sc__law_does_fit
  refine ⟨f, fd, _, F.ok sc (fun _ _ _ _ ⟨_, _, _, e, _⟩ => by rw [e]; rfl) (fun cdv A outer s H vs Q E hr h => ?_), m, F.kp, b⟩
  obtain ⟨v, ps, N, rfl, ⟨p, us, rfl, hp, hus⟩, N1, N4, ok, q⟩ := h
  have h64 : (A.deeper (PyProof.Rows.envOfC "_law_does_fit" (defScope s__law_does_fit) s.heap.objs.size f cdv)).units + 64 < cLine := by have := hr.un; omega
  refine ⟨_, (pss_cons (ps_if (PW.pt (pw_or (pt_cmpR (op_neD h64) (pe_lc (own := [("_law_d", 2), ("_law_r", 3)]) (g := gTup K 2 (gCons (gName 2) (gCons (gName 3) gNil)))  (by rfl) sc.nd (pi_tup (pv 0)) (blkOk_by (own := [("_law_d", 2), ("_law_r", 3)]) (N := N__law_does_fit) (sc := defScope s__law_does_fit) (by decide +kernel)) (fun _ _ _ _ _ => (pg_tup rfl (pgs_cons (pg_name (i := 2) sc.nd rfl (Or.inl rfl) (Or.inr rfl)) (pgs_cons (pg_name (i := 3) sc.nd rfl (Or.inl rfl) (Or.inr rfl)) pgs_nil)))) (fun _ _ _ _ _ => (pts_one (pt_cmpR op_ne (pe_op op_mod (pe_callTy call_int1 (by rfl) B.int_ (by decide +kernel) (pa_cons (pv 1) pa_nil)) (pv 2)) pe_int (nomark _)))) (fun _ _ _ _ _ => pe_int)) (pe_lst pa_nil) (nomark _)) (pw_or1 (pt_cmpR op_ne (pe_op op_mod (pe_callTy call_int1 (by rfl) B.int_ (by decide +kernel) (pa_cons (pe_callB (id := "sum") (r := rSum K) (cr_sum rfl) (by rfl) B.sum (by decide +kernel) (pa_cons (pe_lc (own := [("_law_d", 2), ("_law_r", 3)]) (g := gTup K 2 (gCons (gName 2) (gCons (gName 3) gNil))) (tt := tYes) (by rfl) sc.nd (pi_tup (pv 0)) (blkOk_by (own := [("_law_d", 2), ("_law_r", 3)]) (N := N__law_does_fit) (sc := defScope s__law_does_fit) (by decide +kernel)) (fun _ _ _ _ _ => (pg_tup rfl (pgs_cons (pg_name (i := 2) sc.nd rfl (Or.inl rfl) (Or.inr rfl)) (pgs_cons (pg_name (i := 3) sc.nd rfl (Or.inl rfl) (Or.inr rfl)) pgs_nil)))) (fun _ _ _ _ _ => pts_nil) (fun _ _ _ _ _ => (pv 3))) pa_nil)) pa_nil)) pe_int) pe_int (nomark _)))))
      (pss_one (ps_ret pe_bl))
      pss_nil)
      (pss_cons (ps_par (i := 4) (j := 5) (by rfl) sc.nd rfl rfl (by decide) rfl rfl (pa_cons (pe_callB (id := "sum") (r := rSum K) (cr_sum rfl) (by rfl) B.sum (by decide +kernel) (pa_cons (pe_lc (own := [("_law_d", 2), ("_law_r", 3)]) (g := gTup K 2 (gCons (gName 2) (gCons (gName 3) gNil))) (tt := tYes) (by rfl) sc.nd (pi_tup (pv 0)) (blkOk_by (own := [("_law_d", 2), ("_law_r", 3)]) (N := N__law_does_fit) (sc := defScope s__law_does_fit) (by decide +kernel)) (fun _ _ _ _ _ => (pg_tup rfl (pgs_cons (pg_name (i := 2) sc.nd rfl (Or.inl rfl) (Or.inr rfl)) (pgs_cons (pg_name (i := 3) sc.nd rfl (Or.inl rfl) (Or.inr rfl)) pgs_nil)))) (fun _ _ _ _ _ => pts_nil) (fun _ _ _ _ _ => (pe_op op_mulW (pv 2) (pv 3)))) pa_nil)) (pa_cons (pe_callB (id := "sum") (r := rSum K) (cr_sum rfl) (by rfl) B.sum (by decide +kernel) (pa_cons (pe_lc (own := [("_law_d", 2), ("_law_r", 3)]) (g := gTup K 2 (gCons (gName 2) (gCons (gName 3) gNil))) (tt := tYes) (by rfl) sc.nd (pi_tup (pv 0)) (blkOk_by (own := [("_law_d", 2), ("_law_r", 3)]) (N := N__law_does_fit) (sc := defScope s__law_does_fit) (by decide +kernel)) (fun _ _ _ _ _ => (pg_tup rfl (pgs_cons (pg_name (i := 2) sc.nd rfl (Or.inl rfl) (Or.inr rfl)) (pgs_cons (pg_name (i := 3) sc.nd rfl (Or.inl rfl) (Or.inr rfl)) pgs_nil)))) (fun _ _ _ _ _ => pts_nil) (fun _ _ _ _ _ => (pe_op op_mulW (pe_op op_fdivW (pv 1) (pv 2)) (pv 3)))) pa_nil)) pa_nil)) (by rfl))
      (pss_one (ps_ret (pe_and (pe_cmpR op_eq (pe_op op_mod (pe_callTy call_int1 (by rfl) B.int_ (by decide +kernel) (pa_cons (pv 4) pa_nil)) pe_int) pe_int (nomark _)) (pe_one (pe_cmpR op_eq (pe_op op_mod (pe_callTy call_int1 (by rfl) B.int_ (by decide +kernel) (pa_cons (pv 5) pa_nil)) pe_int) pe_int (nomark _)))))))), ?_⟩
  have lu := hus.len
  have l8 := ok.len
  refine ⟨_, rfl, p, rfl, ⟨_, .inl hp⟩, fun D1 hD1 => ?_⟩
  refine lc_tup (K := K) (a := p) (xs := us) (fun i H' => Same H H' ∧ ∃ acc : List Int, H' D1 = some (.lst (acc.map V.int)) ∧ acc.length ≤ i ∧ acc.isEmpty = allD N (ps.take i)) ⟨Same.upd_new hD1, [], upd_same, Nat.le_refl _, rfl⟩ (fun i H' _ ⟨z, _⟩ => .inl (rds z hp)) ?_ ?_
  · rintro i x H1 hx ⟨s1, acc, h1, ha, he1⟩
    obtain ⟨e, he, t, rfl, ht⟩ := hus.get hx
    have er := ok.rng e (List.mem_of_getElem? he)
    have hi : i < us.length := (List.getElem?_eq_some_iff.mp hx).1
    have hs := all_snoc (N := N) he
    refine ⟨t, _, rfl, SqT.of (s1 _ _ ht), rfl, _, _, rfl, _, _, rfl, rfl, rfl, ?_⟩
    refine ⟨_, rfl, .inl ⟨_, rfl, _, rfl, _, _, rfl, rfl, (by show (0 : Int) < (e.1 : Int); omega), rfl, _, rfl, ifNI (fun ne => ?_) fun eq => ?_⟩⟩
    · rw [decide_eq_false (fun z : N % e.1 = 0 => ne (congrArg Int.ofNat z)), Bool.and_false] at hs
      refine ⟨_, h1, ?_, fun b o z => ?_, acc ++ [1], ?_, ?_, ?_⟩
      · rw [List.length_map]
        exact Nat.lt_of_le_of_lt (by omega : acc.length ≤ 8) (by decide)
      · rw [upd_ne (ne_of_none z hD1)]
        exact s1 _ _ z
      · rw [upd_same, List.map_append]
        rfl
      · rw [List.length_append]
        exact Nat.add_le_add_right ha 1
      · rw [hs]
        cases acc <;> rfl
    · rw [decide_eq_true (show N % e.1 = 0 from Int.ofNat.inj eq), Bool.and_true] at hs
      exact ⟨s1, acc, h1, by omega, by rw [hs]; exact he1⟩
  rintro H1 ⟨s1, acc, h1, ha, he1⟩
  rw [lu, List.take_length] at he1
  refine ⟨(by show (0 : Nat) ≤ sizeLine; decide), fun D0 hD0 => ?_⟩
  have s0 := Same.upd_new (o := .lst ([] : List V)) hD0
  have e0 : (upd H1 D0 (.lst [])) D0 = some (.lst ([] : List V)) := upd_same
  generalize upd H1 D0 (.lst []) = H2 at s0 e0
  refine ⟨_, _, .lst (SqL.of (s0 _ _ h1)) (dp_ints acc), .lst (SqL.of e0) .nil, shaped_ints _, rfl, _, rfl, ?_⟩
  rw [eqv_nil, List.isEmpty_map, he1]
  have s2 := s1.trans s0
  cases ha' : allD N ps with
  | false =>
    rw [show fitB N ps = false from by unfold fitB; rw [ha', Bool.false_and, Bool.and_false]] at q
    exact iteT (iteT (q _ s2))
  | true =>
  refine iteF ?_
  refine ⟨_, rfl, p, rfl, ⟨_, .inl (rds s2 hp)⟩, fun D3 hD3 => ?_⟩
  refine lc_tup (K := K) (a := p) (xs := us) (fun i H' => Same H2 H' ∧ H' D3 = some (.lst (((ps.take i).map (fun e => e.2)).map V.int))) ⟨Same.upd_new hD3, upd_same⟩ (fun i H' _ ⟨z, _⟩ => .inl (rds z (rds s2 hp))) ?_ ?_
  · rintro i x H3 hx ⟨s3, h3⟩
    obtain ⟨e, he, t, rfl, ht⟩ := (hus.same s2).get hx
    have hem := List.mem_of_getElem? he
    have er := ok.rng e hem
    refine ⟨t, _, rfl, SqT.of (s3 _ _ ht), rfl, _, _, rfl, _, _, rfl, rfl, rfl, ?_⟩
    refine ⟨_, rfl, ?_⟩
    refine ⟨_, h3, ?_, fun b o e => ?_, ?_⟩
    · rw [List.length_map, List.length_map, List.length_take]
      exact Nat.lt_of_le_of_lt (by omega : _ ≤ 8) (by decide)
    · rw [upd_ne (ne_of_none e hD3)]
      exact s3 _ _ e
    · rw [upd_same, List.take_add_one, he, List.map_append, List.map_append]
      rfl
  rintro H3 ⟨s3, h3⟩
  rw [lu, List.take_length] at h3
  refine ⟨D3, _, rfl, SqL.of h3, ?_⟩
  refine .inl ⟨_, rfl, _, _, rfl, rfl, (by show (0 : Int) < 2; decide), rfl, _, rfl, ifNI (fun nw => ?W1) fun hw => ?_⟩
  case W1 =>
    rw [show fitB N ps = false from by unfold fitB wholeB; rw [decide_eq_false (show ¬ sumR ps % 2 = 0 from nw)]; rfl] at q
    exact q _ (s2.trans s3)
  dsimp only [tNext]
  refine ⟨_, rfl, p, rfl, ⟨_, .inl (rds (s2.trans s3) hp)⟩, fun D4 hD4 => ?_⟩
  refine lc_tup (K := K) (a := p) (xs := us) (fun i H' => Same H3 H' ∧ H' D4 = some (.lst (((ps.take i).map (fun e => (e.1 : Int) * e.2)).map V.int))) ⟨Same.upd_new hD4, upd_same⟩ (fun i H' _ ⟨z, _⟩ => .inl (rds z (rds (s2.trans s3) hp))) ?_ ?_
  · rintro i x H4 hx ⟨s4, h4⟩
    obtain ⟨e, he, t, rfl, ht⟩ := (hus.same (s2.trans s3)).get hx
    have hem := List.mem_of_getElem? he
    have er := ok.rng e hem
    refine ⟨t, _, rfl, SqT.of (s4 _ _ ht), rfl, _, _, rfl, _, _, rfl, rfl, rfl, ?_⟩
    refine ⟨_, rfl, _, rfl, _, _, rfl, rfl, mulE er, ?_⟩
    refine ⟨_, h4, ?_, fun b o e => ?_, ?_⟩
    · rw [List.length_map, List.length_map, List.length_take]
      exact Nat.lt_of_le_of_lt (by omega : _ ≤ 8) (by decide)
    · rw [upd_ne (ne_of_none e hD4)]
      exact s4 _ _ e
    · rw [upd_same, List.take_add_one, he, List.map_append, List.map_append]
      rfl
  rintro H4 ⟨s4, h4⟩
  rw [lu, List.take_length] at h4
  refine ⟨D4, _, rfl, SqL.of h4, ?_⟩
  refine ⟨_, rfl, p, rfl, ⟨_, .inl (rds (s2.trans (s3.trans s4)) hp)⟩, fun D5 hD5 => ?_⟩
  refine lc_tup (K := K) (a := p) (xs := us) (fun i H' => Same H4 H' ∧ H' D5 = some (.lst (((ps.take i).map (fun e => ((N / e.1 : Nat) : Int) * e.2)).map V.int))) ⟨Same.upd_new hD5, upd_same⟩ (fun i H' _ ⟨z, _⟩ => .inl (rds z (rds (s2.trans (s3.trans s4)) hp))) ?_ ?_
  · rintro i x H5 hx ⟨s5, h5⟩
    obtain ⟨e, he, t, rfl, ht⟩ := (hus.same (s2.trans (s3.trans s4))).get hx
    have hem := List.mem_of_getElem? he
    have er := ok.rng e hem
    refine ⟨t, _, rfl, SqT.of (s5 _ _ ht), rfl, _, _, rfl, _, _, rfl, rfl, rfl, ?_⟩
    refine ⟨_, rfl, _, rfl, _, _, rfl, rfl, wide_div (b := 8000) (by show (0 : Int) < (e.1 : Int); omega) (Nat.lt_of_le_of_lt er.2.1 (by decide)) (by decide) (by decide), ?_⟩
    dsimp only
    rw [show (N : Int) / (e.1 : Int) = ((N / e.1 : Nat) : Int) from (Int.natCast_ediv N e.1).symm]
    refine ⟨_, rfl, _, _, rfl, rfl, mul8 (by rw [Int.natAbs_natCast]; exact Nat.lt_of_le_of_lt (Nat.le_trans (Nat.div_le_self _ _) N4) (by decide)) (Nat.lt_of_le_of_lt er.2.2.1 (by decide)), ?_⟩
    refine ⟨_, h5, ?_, fun b o e => ?_, ?_⟩
    · rw [List.length_map, List.length_map, List.length_take]
      exact Nat.lt_of_le_of_lt (by omega : _ ≤ 8) (by decide)
    · rw [upd_ne (ne_of_none e hD5)]
      exact s5 _ _ e
    · rw [upd_same, List.take_add_one, he, List.map_append, List.map_append]
      rfl
  rintro H5 ⟨s5, h5⟩
  rw [lu, List.take_length] at h5
  refine ⟨D5, _, rfl, SqL.of h5, ?_⟩
  have s25 := s2.trans (s3.trans (s4.trans s5))
  refine ⟨_, _, rfl, ?_⟩
  refine ⟨_, rfl, .inl ⟨_, rfl, _, _, rfl, rfl, (by show (0 : Int) < 24; decide), rfl, _, rfl, ifI (fun hs => ?_) fun ns => ?_⟩⟩
  · refine ⟨_, rfl, .inl ⟨_, rfl, _, _, rfl, rfl, (by show (0 : Int) < 24; decide), rfl, ?_⟩⟩
    have e0 : decide ((fun i j : Int => V.int (i % j)) ((ps.map fun e => ((N / e.1 : Nat) : Int) * e.2).sum) 24 = V.int 0) = fitB N ps := by
      unfold fitB
      rw [whole_iff.mpr ⟨hw, hs⟩, ha', Bool.true_and, Bool.true_and]
      exact decide_eq_decide.mpr ⟨fun z => V.int.inj z, fun z => congrArg V.int z⟩
    rw [e0]
    exact q _ s25
  · rw [show fitB N ps = false from by unfold fitB wholeB; rw [decide_eq_false (show ¬ sumD ps % 24 = 0 from ns), Bool.and_false]; rfl] at q
    exact q _ s25
end
end Ft

set_option exponentiation.threshold 9000
namespace Ft
open PySem L2 PySem.Spec PyProof.Rows
/-! list(range(a, b, c)), c above 0 -/
/-- n ints from a on by steps of c -/
def stepsV (a c : Int) (n : Nat) : List V := (List.range n).map fun i => V.int (a + (i : Nat) * c)
def rgN (a b c : Int) : Nat := (Builtin.Range.rangeSize a b c).toNat
def tLstRg3 (ta : TA) : TE := fun σ H Q => ta σ H fun vs H1 => ∃ a b c : Int, vs = [.int a, .int b, .int c] ∧ 0 < c ∧ c < 2 ^ 60 ∧ 0 ≤ a ∧ a < 2 ^ 60 ∧ 0 ≤ b ∧ b < 2 ^ 24 ∧ ∀ q, H1 q = none → Q (.ref q) (upd H1 q (.lst (stepsV a c (rgN a b c))))
theorem rgN_le {a b c : Int} (a0 : 0 ≤ a) (c0 : 0 < c) (b0 : 0 ≤ b) : (rgN a b c : Int) = Builtin.Range.rangeSize a b c ∧ (rgN a b c : Int) ≤ b := by
  unfold rgN Builtin.Range.rangeSize
  rw [if_pos c0]
  split
  · have h1 : 0 ≤ (b - a - 1) / c := Int.ediv_nonneg (by omega) (by omega)
    have h2 : (b - a - 1) / c ≤ b - a - 1 := Int.ediv_le_self c (by omega)
    omega
  · exact ⟨rfl, b0⟩
theorem small3 {a b c : Int} (c0 : 0 < c) (c1 : c < 2 ^ 60) (a0 : 0 ≤ a) (a1 : a < 2 ^ 60) (b0 : 0 ≤ b) (b1 : b < 2 ^ 24) : Builtin.Range.small a b c = true := by
  obtain ⟨h1, h2⟩ := rgN_le (a := a) (b := b) (c := c) a0 c0 b0
  have fits : ∀ i : Int, 0 ≤ i → i < 2 ^ 62 → Builtin.Range.rangeFitsLong i = true := fun i h k => by
    unfold Builtin.Range.rangeFitsLong
    rw [Bool.and_eq_true, decide_eq_true_eq, decide_eq_true_eq]
    omega
  unfold Builtin.Range.small
  rw [if_pos (show c > 0 from c0), fits a a0 (by omega), fits b b0 (by omega), fits c (by omega) (by omega), fits _ (by rw [← h1]; omega) (by rw [← h1]; omega), fits (b + (c - 1)) (by omega) (by omega)]
  simp
section
variable {X : Cx} {a b c : Expr} {ta : TA}
theorem pe_listRg3 {p p' pos pos' : Pos} (hcalm : X.calm = true) (hg : Gl X "list") (hm : X.mg "list" = none) (hg' : Gl X "range") (hm' : X.mg "range" = none) (ha : PA X [a, b, c] ta)
    (na : starEach [.Call (.Name "range" p') [a, b, c] [] pos'] X.env = (false, eval (.Call (.Name "range" p') [a, b, c] [] pos') X.env) :: starEach [] X.env := by rfl)
    (hs : starEach [a, b, c] X.env = (false, eval a X.env) :: starEach [b, c] X.env := by rfl) (hpl : (backTo pos' (starEach [b, c] X.env)).any (·.1) = false := by rfl) :
    PE X (.Call (.Name "list" p) [.Call (.Name "range" p') [a, b, c] [] pos'] [] pos) (tLstRg3 ta) := by
  refine ⟨fun pins s σ H Q I h => ?_⟩
  refine Call_ (ld_blt I hg hm boot_list (PyProof.Rows.callWith_type1 (args_cons ?_ na) na))
  refine Call_ (ld_blt I hg' hm' boot_range (PyProof.Rows.callWith_type1 (thn (ha.run pos' pins s σ H _ I h) fun us s1 ⟨vs, H1, I1, r1, q1⟩ => ?_) hs hpl))
  obtain ⟨i, j, k, e, c0, c1, a0, a1, b0, b1, q⟩ := q1
  subst e
  cases r1 with | cons ra rr => ?_
  cases rr with | cons rb rr => ?_
  cases rr with | cons rc rr => ?_
  cases rr
  obtain ⟨t, rfl⟩ := ra
  obtain ⟨t', rfl⟩ := rb
  obtain ⟨t'', rfl⟩ := rc
  · skip
    have lg : k.natAbs.log2 < 9000 := by
      have hk : k.natAbs < 2 ^ 60 := by omega
      have h0 : k.natAbs ≠ 0 := by omega
      refine Nat.lt_of_not_le fun z => ?_
      have := (Nat.le_log2 h0).mp z
      exact absurd (Nat.lt_of_lt_of_le hk (Nat.pow_le_pow_right (by decide) (by decide : 60 ≤ 9000))) (Nat.not_lt.mpr this)
    refine call_range_3 (by omega) (args_nil ?_) (.inl (PyProof.noPylong_of_log2 lg))
    have I2 : Inv X pins σ H1 { s1 with heap := s1.heap.push { cls := .type "range", data := .fields #[.int i t, .int j t', .int k t''] } } := I1.kept (t' := s1.toks) fun b o e => Heap.get?_push_of_some _ e
    obtain ⟨n1, n2⟩ := rgN_le (a := i) (b := j) (c := k) a0 c0 b0
    refine call_list_range (n := rgN i j k) (I2.ok.hd hcalm) (IsRange.new ..) (small3 c0 c1 a0 a1 b0 b1) n1.symm (by omega) fun h' tk acc c' hk e' hi => ?_
    have vl : Vals (stepsV i k (rgN i j k)) acc.toList := by
      have e : acc.toList.length = rgN i j k := by rw [Array.length_toList]; exact hi.1
      unfold stepsV
      rw [← e]
      refine vals_of_get acc.toList _ fun m u hu => ?_
      obtain ⟨t, rfl⟩ := hi.2 m u (by rw [← hu, Array.getElem?_toList])
      exact ⟨t, rfl⟩
    refine ⟨.ref _, upd H1 _ (.lst (stepsV i k (rgN i j k))), I2.laid hk (Nat.le_refl _) (show ObjOk X.prog X.w _ _ _ (.lst (stepsV i k (rgN i j k))) from ⟨?_, acc.toList, c', vl, ?_⟩), rfl, q _ (I2.hok.fresh (Nat.le_refl _))⟩
    · unfold stepsV
      rw [List.length_map, List.length_range, sizeLine_eq]
      omega
    · rw [Array.toArray_toList]; exact e'
end
end Ft

set_option exponentiation.threshold 9000
namespace Ft
open PySem L2
/-! the fits of a whole product are the multiples of its level -/
theorem mults_steps {L : Nat} (h : 0 < L) : ∀ M : Nat, ((List.range M).filter fun i => decide (L ∣ i + 1)).map (· + 1) = (List.range (M / L)).map fun i => (i + 1) * L
  | 0 => by rw [Nat.zero_div]; rfl
  | M + 1 => by
    have ih := mults_steps h M
    rw [List.range_succ, List.filter_append, List.map_append, ih]
    by_cases d : L ∣ M + 1
    · have e : (M + 1) / L = M / L + 1 := Nat.succ_div_of_dvd d
      rw [e, List.range_succ, List.map_append]
      congr 1
      have k : (M / L + 1) * L = M + 1 := by rw [← e]; exact Nat.div_mul_cancel d
      rw [List.filter_cons, if_pos (decide_eq_true d)]
      show [M + 1] = [(M / L + 1) * L]
      rw [k]
    · have e : (M + 1) / L = M / L := Nat.succ_div_of_not_dvd d
      rw [e, List.filter_cons, if_neg (by rw [decide_eq_false d]; decide)]
      simp
theorem fit_iff {ps : List Pq} {n : Nat} (c0 : 0 < comP ps) (ok : PdOk ps) (w : wholeB ps = true) : fitB n ps = decide (lvP ps ∣ n) := by
  have r1 : ∀ e ∈ ps, 1 ≤ e.1 := fun e he => (ok.rng e he).1
  unfold fitB
  rw [w, Bool.true_and]
  apply Bool.eq_iff_iff.mpr
  rw [Bool.and_eq_true, decide_eq_true_eq, decide_eq_true_eq]
  constructor
  · rintro ⟨a, b⟩
    refine lv_dvd c0 r1 (fun e he => ?_) b
    have := List.all_eq_true.mp a e he
    exact Nat.dvd_of_mod_eq_zero (of_decide_eq_true this)
  · intro h
    obtain ⟨a, b⟩ := lv_back c0 r1 h
    exact ⟨List.all_eq_true.mpr fun e he => decide_eq_true (Nat.mod_eq_zero_of_dvd (a e he)), b⟩
theorem lv_pos {ps : List Pq} (c0 : 0 < comP ps) : 0 < lvP ps ∧ lvP ps ≤ comP ps * 24 := by
  unfold lvP lvl
  have g0 : 0 < Nat.gcd 24 (sumF (comP ps) ps).natAbs := Nat.gcd_pos_of_pos_left _ (by decide)
  have gd := Nat.gcd_dvd_left 24 (sumF (comP ps) ps).natAbs
  have := Nat.div_pos (Nat.le_of_dvd (by decide) gd) g0
  exact ⟨Nat.mul_pos c0 this, Nat.mul_le_mul_left _ (Nat.div_le_self _ _)⟩
theorem rg_steps {L : Nat} (h : 0 < L) : rgN (L : Int) 401 (L : Int) = 400 / L := by
  unfold rgN Builtin.Range.rangeSize
  rw [if_pos (by omega)]
  split
  · rename_i q
    have q' : L ≤ 400 := by omega
    have e : (401 - (L : Int) - 1) = ((400 - L : Nat) : Int) := by omega
    rw [e, ← Int.natCast_ediv]
    have : 400 / L = (400 - L) / L + 1 := by
      rw [← Nat.add_div_right _ h]
      congr 1
      omega
    rw [this, show ((((400 - L) / L : Nat) : Int) + 1) = (((400 - L) / L + 1 : Nat) : Int) from rfl, Int.toNat_natCast]
  · rename_i q
    rw [Nat.div_eq_of_lt (by omega)]
    rfl
end Ft

set_option exponentiation.threshold 9000
namespace Ft
open PySem L2
theorem Pd.but {H H' : Hp} {d l : Addr} {v : V} {ps : List Pq} (D : DeckAt H d l) (bt : But d l H H') (h : Pd H v ps) : Pd H' v ps := by
  obtain ⟨mx, dr, cs, d1, d2, _⟩ := D
  obtain ⟨p, us, ev, a, b⟩ := h
  have kt : ∀ {t : Addr} {xs : List V}, H t = some (.tup xs) → H' t = some (.tup xs) := fun {t xs} e => bt _ _ e (ne_of e d1 (by intro z; cases z)) (ne_of e d2 (by intro z; cases z))
  refine ⟨p, us, ev, ?_, b.len, fun i u q h1 h2 => ?_⟩
  · rcases a with a | ⟨o, a⟩
    · exact .inl (kt a)
    · exact .inr ⟨o, bt _ _ a (ne_of a d1 (by intro z; cases z)) (ne_of a d2 (by intro z; cases z))⟩
  · obtain ⟨t, e1, e2⟩ := b.at_ i u q h1 h2
    exact ⟨t, e1, kt e2⟩
/-- the fits from 1 to 400 -/
def fitsL (ps : List Pq) : List Nat := ((List.range 400).filter fun i => fitB (i + 1) ps).map (· + 1)
theorem deck_upd {H : Hp} {d l p : Addr} {o : HO} (D : DeckAt H d l) (a : p ≠ d) (b : p ≠ l) : DeckAt (upd H p o) d l := by
  obtain ⟨mx, dr, cs, h1, h2, h3⟩ := D
  exact ⟨mx, dr, cs, by rw [upd_ne (Ne.symm a)]; exact h1, by rw [upd_ne (Ne.symm b)]; exact h2, h3⟩
def Ok4 (xs : List V) : Prop := ∀ x ∈ xs, ∃ n : Nat, x = V.int (n : Int) ∧ 1 ≤ n ∧ n ≤ 400
theorem Ok4.app {a b : List V} (h : Ok4 a) (k : Ok4 b) : Ok4 (a ++ b) := fun x hx => (List.mem_append.mp hx).elim (h x) (k x)
theorem Ok4.cut {a : List V} (h : Ok4 a) (lo hi : Option Int) : Ok4 (cutV a lo hi) := fun x hx => by
  unfold cutV at hx
  exact h x (List.mem_of_mem_drop (List.mem_of_mem_take hx))
theorem ok4_fits (ps : List Pq) : Ok4 ((fitsL ps).map fun n : Nat => V.int (n : Int)) := fun x hx => by
  obtain ⟨n, hn, rfl⟩ := List.mem_map.mp hx
  unfold fitsL at hn
  obtain ⟨i, hi, rfl⟩ := List.mem_map.mp hn
  have := List.mem_range.mp (List.mem_filter.mp hi).1
  exact ⟨i + 1, rfl, by omega, by omega⟩
theorem fits_len (ps : List Pq) : ((fitsL ps).map fun n : Nat => V.int (n : Int)).length ≤ 400 := by
  unfold fitsL
  rw [List.length_map, List.length_map]
  exact Nat.le_trans (List.length_filter_le _ _) (by rw [List.length_range]; exact Nat.le_refl _)
theorem ok4_one {r : Int} {k : Nat} (h0 : 0 ≤ r) (h1 : r < (k : Int)) (hk : k ≤ 400) : Ok4 [V.int (1 + r)] := fun x hx => by
  rw [List.mem_singleton.mp hx]
  exact ⟨1 + r.toNat, by congr 1; omega, by omega, by omega⟩
theorem inV_any' {α : Type} (a : Int) (g : α → Int) : ∀ l : List α, inV (V.int a) (l.map fun j => V.int (g j)) = l.any fun j => decide (g j = a)
  | [] => rfl
  | j :: l => by
    have h := inV_any' a g l
    unfold inV at h ⊢
    rw [List.map_cons, List.any_cons, List.any_cons, h]
    rfl
theorem in_fits {n : Nat} {ps : List Pq} (n1 : 1 ≤ n) (n4 : n ≤ 400) : inV (V.int (n : Int)) ((fitsL ps).map fun n : Nat => V.int (n : Int)) = fitB n ps := by
  rw [inV_any' (n : Int) (fun n : Nat => (n : Int))]
  apply Bool.eq_iff_iff.mpr
  rw [List.any_eq_true]
  unfold fitsL
  constructor
  · rintro ⟨j, hj, e⟩
    obtain ⟨i, hi, rfl⟩ := List.mem_map.mp hj
    have e := Int.ofNat.inj (of_decide_eq_true e)
    rw [← e]
    exact (List.mem_filter.mp hi).2
  · intro h
    refine ⟨n, List.mem_map.mpr ⟨n - 1, List.mem_filter.mpr ⟨List.mem_range.mpr (by omega), ?_⟩, by omega⟩, decide_eq_true rfl⟩
    rw [show n - 1 + 1 = n by omega]
    exact h
theorem flat_fits (ps : List Pq) : ((fitsL ps).map fun n : Nat => V.int (n : Int)).all flatV = true := List.all_eq_true.mpr fun x hx => by
  obtain ⟨n, _, rfl⟩ := List.mem_map.mp hx
  rfl
theorem rep_bools : ∀ b : Bool, RepOk (.list [.bool b, .bool b])
  | true => ⟨by decide +kernel, by decide +kernel, by decide +kernel, Nat.le_trans (by decide +kernel : _ ≤ 40) (by decide)⟩
  | false => ⟨by decide +kernel, by decide +kernel, by decide +kernel, Nat.le_trans (by decide +kernel : _ ≤ 40) (by decide)⟩
theorem fits_none {ps : List Pq} (w : wholeB ps = false) : fitsL ps = [] := by
  unfold fitsL
  rw [List.filter_eq_nil_iff.mpr fun i _ => by unfold fitB; rw [w, Bool.false_and]; decide]
  rfl
theorem fits_steps {ps : List Pq} (h : BigOk ps) (w : wholeB ps = true) : ((fitsL ps).map fun n : Nat => V.int (n : Int)) = stepsV ((lvP ps : Nat) : Int) ((lvP ps : Nat) : Int) (rgN ((lvP ps : Nat) : Int) 401 ((lvP ps : Nat) : Int)) := by
  have l0 := (lv_pos h.c0).1
  unfold fitsL stepsV
  rw [List.filter_congr fun i _ => fit_iff (n := i + 1) h.c0 h.ok w, mults_steps l0, rg_steps l0, List.map_map]
  refine List.map_congr_left fun i _ => ?_
  show V.int (((i + 1) * lvP ps : Nat) : Int) = V.int (((lvP ps : Nat) : Int) + (i : Int) * ((lvP ps : Nat) : Int))
  rw [Int.natCast_mul, Int.natCast_add, Int.add_mul, Int.natCast_one, Int.one_mul, Int.add_comm]
def sp_fits : Sp := fun vs H Q _ => ∃ d l v ps, vs = [.ref d, v, lvV ps] ∧ DeckAt H d l ∧ Pd H v ps ∧ BigOk ps ∧ ∀ H', DeckAt H' d l → But d l H H' → Q (.bl true) H'
section
variable {P : Program} {w : World} {K : PySem.W.Frag} {mg : Str → Option Value} {base : Heap}
theorem fn_fits {f : Addr} {fd : FuncData} (F : Fun K "_law_are_fits_right" "_law_are_fits_right" s__law_are_fits_right f fd) (B : Bi mg) (g_same : CalG P w K mg base 1 "_law_same" (sp_same K)) (c__law_does_fit : Cal P w K mg base 1 "_law_does_fit" sp_ldoes) (c__law_draw : Cal P w K mg base 1 "_law_draw" sp_draw)
    (c_does_fit : Cal P w K mg base 7 "does_fit" sp_fitG) (k_does_fit : CalK P w K mg base 7 "does_fit" ["level", "product"] swapV sp_fitG) (c_product_level : Cal P w K mg base 7 "product_level" sp_plevelG) (k_product_level : CalK P w K mg base 7 "product_level" ["product"] oneV sp_plevelG) :
    FnG P w K mg base 9 f fd ["_law_deck_here", "_law_product_here", "_law_level_here"] sp_fits := by
  have sc := sc__law_are_fits_right
  refine fun_g F sc (fun _ _ _ _ ⟨_, _, _, _, e, _⟩ => by rw [e]; rfl) (fun cdv A outer s H vs Q E hgd hr h => ?_)
  obtain ⟨d, l, v, ps, rfl, D0, hv, big, q⟩ := h
  have h64 : (A.deeper (PyProof.Rows.envOfC "_law_are_fits_right" (defScope s__law_are_fits_right) s.heap.objs.size f cdv)).units + 64 < cLine := by have := hr.un; omega
  refine ⟨_, (pss_cons (ps_setLc (i := 4) (own := [("_law_n", 3)]) (g := gName 3)  (by rfl) sc.nd rfl rfl (sw_true rfl rfl rfl (by decide +kernel)) (pi_range2 (by rfl) B.range (pa_cons pe_int (pa_cons pe_int pa_nil))) (blkOk_by (own := [("_law_n", 3)]) (N := N__law_are_fits_right) (sc := defScope s__law_are_fits_right) (by decide +kernel)) (fun _ _ _ _ _ => (pg_name (i := 3) sc.nd rfl (Or.inl rfl))) (fun _ _ _ _ _ => (pts_one (pt_val (pe_c c__law_does_fit hr (by decide) (by rfl) (pa_cons (pv 1) (pa_cons (pv 3) pa_nil)))))) (fun _ _ _ _ _ => (pv 3)))
      (pss_cons (ps_set (i := 6) sc.nd rfl (Or.inl rfl) (pe_op op_cat (pe_op op_cat (pe_op op_cat (pe_lc (own := [("_law_turn", 5)]) (g := gName 5) (tt := tYes) (by rfl) sc.nd (pi_range1 rfl B.range (pa_cons pe_int pa_nil)) (blkOk_by (own := [("_law_turn", 5)]) (N := N__law_are_fits_right) (sc := defScope s__law_are_fits_right) (by decide +kernel)) (fun _ _ _ _ _ => (pg_name (i := 5) sc.nd rfl (Or.inl rfl))) (fun _ _ _ _ _ => pts_nil) (fun _ _ _ _ _ => (pe_op op_add pe_int (pe_c c__law_draw hr (by decide) (by rfl) (pa_cons (pv 0) (pa_cons pe_int pa_nil)))))) (pe_slice sl_list (pv 4) po_none (po_some pe_int))) (pe_slice sl_list (pv 4) (po_some (pe_un un_neg pe_int)) po_none)) (pe_lst (pa_cons (pe_op op_add pe_int (pe_c c__law_draw hr (by decide) (by rfl) (pa_cons (pv 0) (pa_cons pe_int pa_nil)))) pa_nil))))
      (pss_cons (ps_for PassesOwn.never rfl (pi_list (pv 6)) (pg_name (i := 3) sc.nd rfl (Or.inl rfl))
      (pss_one (ps_if (pt_not (pt_val (pe_g g_same hgd hr (by decide) (by rfl) (pa_cons (pe_lst (pa_cons (pe_c c_does_fit hr (by decide) (by rfl) (pa_cons (pv 1) (pa_cons (pv 3) pa_nil))) (pa_cons (pe_k0 k_does_fit hr (by decide) (by rfl) (pk_cons (pv 3) (pk_cons (pv 1) pk_nil))) pa_nil))) (pa_cons (pe_op op_rep (pe_lst (pa_cons (pe_cmpR op_in_seq (pv 3) (pv 4) (by rfl)) pa_nil)) pe_int) pa_nil)))))
        (pss_one (ps_ret pe_bl))
        pss_nil)))
      (pss_cons (ps_if (pt_cmpR op_isN (pv 2) pe_non (nomark _))
      (pss_one (ps_ret (pe_and (pe_cmpR (op_eqD h64) (pv 4) (pe_lst pa_nil) (nomark _)) (pe_one (pe_cmpR op_isN (pe_c c_product_level hr (by decide) (by rfl) (pa_cons (pv 1) pa_nil)) pe_non (nomark _))))))
      pss_nil)
      (pss_cons (ps_if (pt_cmpR (op_neD h64) (pv 4) (pe_listRg3 rfl (by rfl) B.list (by rfl) B.range (pa_cons (pv 2) (pa_cons pe_int (pa_cons (pv 2) pa_nil)))) (nomark _))
      (pss_one (ps_ret pe_bl))
      pss_nil)
      (pss_one (ps_ret (pe_or (pe_cmpR op_gt (pv 2) pe_int (nomark _)) (pe_one (pe_g g_same hgd hr (by decide) (by rfl) (pa_cons (pe_lst (pa_cons (pe_c c_product_level hr (by decide) (by rfl) (pa_cons (pv 1) pa_nil)) (pa_cons (pe_k0 k_product_level hr (by decide) (by rfl) (pk_cons (pv 1) pk_nil)) pa_nil))) (pa_cons (pe_lst (pa_cons (pv 2) (pa_cons (pv 2) pa_nil))) pa_nil)))))))))))), ?_⟩
  have ok := big.ok
  refine ⟨1, 401, rfl, ⟨by decide, by decide, by decide, by decide⟩, fun D1 hD1 => ?_⟩
  refine lc_range (lo := 1) (n := 400) (fun i H' => Same H H' ∧ H' D1 = some (.lst (((List.range i).filter fun i => fitB (i + 1) ps).map fun i : Nat => V.int ((i + 1 : Nat) : Int)))) ⟨Same.upd_new hD1, upd_same⟩ ?_ ?_
  · rintro i H2 hi ⟨s2, h2⟩
    have ei : (1 : Int) + (i : Int) = ((i + 1 : Nat) : Int) := by omega
    dsimp only [gName]
    rw [ei]
    refine ⟨rfl, _, rfl, _, rfl, v, ps, i + 1, rfl, hv.same s2, by omega, by omega, ok, fun H3 s3 => ⟨fitB (i + 1) ps, rfl, ?_⟩⟩
    cases hf : fitB (i + 1) ps with
    | true => exact iteT ⟨_, rfl, lc_pos hD1 (s2.trans s3) (s3 _ _ h2) hf (by omega)⟩
    | false => exact iteF (lc_neg (s2.trans s3) (s3 _ _ h2) hf)
  rintro H1 ⟨s1, h1⟩
  have hL : (((List.range 400).filter fun i => fitB (i + 1) ps).map fun i : Nat => V.int ((i + 1 : Nat) : Int)) = (fitsL ps).map fun n : Nat => V.int (n : Int) := by
    unfold fitsL
    rw [List.map_map]
    rfl
  rw [hL] at h1
  dsimp only [gName]
  have D1' := D0.same s1
  refine ⟨4, rfl, by decide, by decide, fun D2 hD2 => ?_⟩
  have n2 := D1'.new hD2
  refine lc_range (lo := 0) (n := 4) (fun i H' => DeckAt H' d l ∧ But d l H1 H' ∧ ∃ xs, H' D2 = some (.lst xs) ∧ xs.length ≤ i ∧ Ok4 xs) ⟨D1'.same (Same.upd_new hD2), But.of (Same.upd_new hD2), [], upd_same, Nat.le_refl _, fun x h => by cases h⟩ ?_ ?_
  · rintro i H2 hi ⟨Dk, b2, xs, e2, lx, ox⟩
    dsimp only [gName]
    refine ⟨rfl, _, rfl, d, l, 400, rfl, Dk, by decide, by decide, fun H3 r D3 b3 r0 r1 => ?_⟩
    have e3 := b3 _ _ e2 n2.1 n2.2
    refine ⟨_, _, rfl, rfl, _, e3, Nat.lt_of_le_of_lt (by omega : xs.length ≤ 4) (by decide), ?_, ?_, _, upd_same, ?_, ox.app (ok4_one r0 r1 (Nat.le_refl _))⟩
    · exact deck_upd D3 n2.1 n2.2
    · exact fun b o h g1 g2 => by rw [upd_ne (ne_of_none h hD2)]; exact b3 _ _ (b2 _ _ h g1 g2) g1 g2
    · rw [List.length_append]
      exact Nat.add_le_add_right lx 1
  rintro H2 ⟨Dk, b2, xs, e2, lx, ox⟩
  have nD1 := D0.new hD1
  have h2 := b2 _ _ h1 nD1.1 nD1.2
  have oF := ok4_fits ps
  have lF := fits_len ps
  refine ⟨_, rfl, 2, rfl, D1, _, rfl, SqL.of h2, fun p3 hp3 => ?_⟩
  have s3 := Same.upd_new (o := .lst (cutV ((fitsL ps).map fun n : Nat => V.int (n : Int)) none (some 2))) hp3
  have e3 : (upd H2 p3 (.lst (cutV ((fitsL ps).map fun n : Nat => V.int (n : Int)) none (some 2)))) p3 = some (.lst (cutV ((fitsL ps).map fun n : Nat => V.int (n : Int)) none (some 2))) := upd_same
  have c3 := cutV_length ((fitsL ps).map fun n : Nat => V.int (n : Int)) none (some 2)
  have o3 := oF.cut none (some 2)
  generalize upd H2 p3 (.lst (cutV ((fitsL ps).map fun n : Nat => V.int (n : Int)) none (some 2))) = H3 at s3 e3
  generalize cutV ((fitsL ps).map fun n : Nat => V.int (n : Int)) none (some 2) = x3 at e3 c3 o3
  refine ⟨D2, p3, _, _, rfl, rfl, s3 _ _ e2, e3, Nat.le_trans (by omega : xs.length + x3.length ≤ 404) (by decide), fun p4 hp4 => ?_⟩
  have s4 := Same.upd_new (o := .lst (xs ++ x3)) hp4
  have e4 : (upd H3 p4 (.lst (xs ++ x3))) p4 = some (.lst (xs ++ x3)) := upd_same
  generalize upd H3 p4 (.lst (xs ++ x3)) = H4 at s4 e4
  have l4 : (xs ++ x3).length ≤ 404 := by rw [List.length_append]; omega
  have o4 := ox.app o3
  generalize xs ++ x3 = x4 at e4 l4 o4
  refine ⟨_, rfl, _, rfl, _, rfl, D1, _, rfl, SqL.of (s4 _ _ (s3 _ _ h2)), fun p5 hp5 => ?_⟩
  have c5 := cutV_length ((fitsL ps).map fun n : Nat => V.int (n : Int)) (some (-1)) none
  have o5 := oF.cut (some (-1)) none
  have s5 := Same.upd_new (o := .lst (cutV ((fitsL ps).map fun n : Nat => V.int (n : Int)) (some (-1)) none)) hp5
  have e5 : (upd H4 p5 (.lst (cutV ((fitsL ps).map fun n : Nat => V.int (n : Int)) (some (-1)) none))) p5 = some (.lst (cutV ((fitsL ps).map fun n : Nat => V.int (n : Int)) (some (-1)) none)) := upd_same
  generalize upd H4 p5 (.lst (cutV ((fitsL ps).map fun n : Nat => V.int (n : Int)) (some (-1)) none)) = H5 at s5 e5
  generalize cutV ((fitsL ps).map fun n : Nat => V.int (n : Int)) (some (-1)) none = x5 at e5 c5 o5
  refine ⟨p4, p5, _, _, rfl, rfl, s5 _ _ e4, e5, Nat.le_trans (by omega : x4.length + x5.length ≤ 804) (by decide), fun p6 hp6 => ?_⟩
  have s6 := Same.upd_new (o := .lst (x4 ++ x5)) hp6
  have e6 : (upd H5 p6 (.lst (x4 ++ x5))) p6 = some (.lst (x4 ++ x5)) := upd_same
  generalize upd H5 p6 (.lst (x4 ++ x5)) = H6 at s6 e6
  have l6 : (x4 ++ x5).length ≤ 804 := by rw [List.length_append]; omega
  have o6 := o4.app o5
  generalize x4 ++ x5 = x6 at e6 l6 o6
  have s26 := s3.trans (s4.trans (s5.trans s6))
  have D6 := Dk.same s26
  refine ⟨_, rfl, d, l, 30, rfl, D6, by decide, by decide, fun H7 r D7 b7 r0 r1 => ⟨_, _, rfl, rfl, (by show (1 : Nat) ≤ sizeLine; decide), fun p8 hp8 => ?_⟩⟩
  have b17 := b2.trans ((But.of s26).trans b7)
  have n6 := (Dk.same (s3.trans (s4.trans s5))).new hp6
  have e67 := b7 _ _ e6 n6.1 n6.2
  have h7 := b7 _ _ (s26 _ _ h2) nD1.1 nD1.2
  have o8 := ok4_one r0 r1 (by decide)
  have s8 := Same.upd_new (o := .lst [V.int (1 + r)]) hp8
  have e8 : (upd H7 p8 (.lst [V.int (1 + r)])) p8 = some (.lst [V.int (1 + r)]) := upd_same
  generalize upd H7 p8 (.lst [V.int (1 + r)]) = H8 at s8 e8
  refine ⟨p6, p8, _, _, rfl, rfl, s8 _ _ e67, e8, Nat.le_trans (Nat.add_le_add_right l6 1) (by decide), fun p9 hp9 => ?_⟩
  have s9 := Same.upd_new (o := .lst (x6 ++ [V.int (1 + r)])) hp9
  have e9 : (upd H8 p9 (.lst (x6 ++ [V.int (1 + r)]))) p9 = some (.lst (x6 ++ [V.int (1 + r)])) := upd_same
  generalize upd H8 p9 (.lst (x6 ++ [V.int (1 + r)])) = H9 at s9 e9
  have o9 := o6.app o8
  generalize x6 ++ [V.int (1 + r)] = xs9 at e9 o9
  have s79 := s8.trans s9
  have D9 := D7.same s79
  have b9 := (But.of s1).trans (b17.trans (But.of s79))
  have h9 := s79 _ _ h7
  have hv9 := Pd.but D0 b9 hv
  clear hp8 hp9 hp3 hp4 hp5 hp6
  dsimp only [gName]
  refine ⟨_, rfl, p9, rfl, ⟨_, SqL.of e9⟩, for_list (K := K) (a := p9) (xs := xs9) (fun i σ H' => Same H9 H' ∧ ∃ o3 : Option V, σ = [some (.ref d), some v, some (lvV ps), o3, some (.ref D1), none, some (.ref p9)]) ⟨Same.refl _, none, rfl⟩ (fun i σ H' _ ⟨z, _⟩ => SqL.of (z _ _ e9)) ?_ ?_⟩
  · rintro i x σ H10 hx ⟨s10, o3, rfl⟩
    obtain ⟨n, rfl, n1, n4⟩ := o9 x (List.mem_of_getElem? hx)
    have hv10 := hv9.same s10
    dsimp only [gName]
    refine ⟨_, rfl, _, rfl, v, ps, n, rfl, hv10, n1, n4, ok, fun H11 s11 => ?_⟩
    refine ⟨_, rfl, _, rfl, v, ps, n, rfl, hv10.same s11, n1, n4, ok, fun H12 s12 => ⟨(by show (2 : Nat) ≤ sizeLine; decide), fun q1 hq1 => ?_⟩⟩
    have s13 := Same.upd_new (o := .lst [V.bl (fitB n ps), V.bl (fitB n ps)]) hq1
    have f1 : (upd H12 q1 (.lst [V.bl (fitB n ps), V.bl (fitB n ps)])) q1 = some (.lst [V.bl (fitB n ps), V.bl (fitB n ps)]) := upd_same
    generalize upd H12 q1 (.lst [V.bl (fitB n ps), V.bl (fitB n ps)]) = H13 at s13 f1
    have s913 := s10.trans (s11.trans (s12.trans s13))
    refine ⟨_, rfl, _, rfl, D1, _, rfl, .inl (SqL.of (s913 _ _ h9)), rfl, flat_fits ps, ?_⟩
    rw [if_neg (by decide), in_fits n1 n4]
    refine ⟨(by show (1 : Nat) ≤ sizeLine; decide), fun q2 hq2 => ?_⟩
    have s14 := Same.upd_new (o := .lst [V.bl (fitB n ps)]) hq2
    have f2 : (upd H13 q2 (.lst [V.bl (fitB n ps)])) q2 = some (.lst [V.bl (fitB n ps)]) := upd_same
    generalize upd H13 q2 (.lst [V.bl (fitB n ps)]) = H14 at s14 f2
    refine ⟨q2, 2, _, rfl, rfl, f2, by decide, by decide, (by show (1 * 2 : Nat) ≤ sizeLine; decide), fun q3 hq3 => ?_⟩
    have s15 := Same.upd_new (o := .lst (List.replicate (2 : Int).toNat [V.bl (fitB n ps)]).flatten) hq3
    have f3 : (upd H14 q3 (.lst (List.replicate (2 : Int).toNat [V.bl (fitB n ps)]).flatten)) q3 = some (.lst [V.bl (fitB n ps), V.bl (fitB n ps)]) := upd_same
    generalize upd H14 q3 (.lst (List.replicate (2 : Int).toNat [V.bl (fitB n ps)]).flatten) = H15 at s15 f3
    refine ⟨q1, q3, .list [.bool (fitB n ps), .bool (fitB n ps)], rfl, .lst (SqL.of ((s14.trans s15) _ _ f1)) (.cons (.bl _) (.cons (.bl _) .nil)), .lst (SqL.of f3) (.cons (.bl _) (.cons (.bl _) .nil)), rep_bools _, true, rfl, iteF ?_⟩
    exact ⟨s913.trans (s14.trans s15), _, rfl⟩
  · rintro σ H10 ⟨s10, o3, rfl⟩
    have b10 := b9.trans (But.of s10)
    have D10 := D9.same s10
    have h10 := s10 _ _ h9
    have hv10 := hv9.same s10
    have done : ∀ {H' : Hp}, Same H10 H' → Q (.bl true) H' := fun s => q _ (D10.same s) (b10.trans (But.of s))
    cases hw : wholeB ps with
    | false =>
      have hlv : lvV ps = .non := by unfold lvV; rw [hw]; rfl
      rw [hlv]
      rw [fits_none hw] at h10
      refine ⟨_, rfl, rfl, _, rfl, ?_⟩
      rw [show decide (V.non = V.non) = true from decide_eq_true rfl]
      refine iteT ⟨_, rfl, (by show (0 : Nat) ≤ sizeLine; decide), fun q0 hq0 => ?_⟩
      have s11 := Same.upd_new (o := .lst ([] : List V)) hq0
      have f0 : (upd H10 q0 (.lst [])) q0 = some (.lst ([] : List V)) := upd_same
      generalize upd H10 q0 (.lst []) = H11 at s11 f0
      refine ⟨.list [], .list [], .lst (SqL.of (s11 _ _ h10)) .nil, .lst (SqL.of f0) .nil, rfl, rfl, true, rfl, ?_⟩
      refine iteT ⟨_, rfl, v, ps, rfl, hv10.same s11, ok, big.c0, big.c1, fun H12 s12 => ?_⟩
      rw [hw]
      refine ⟨rfl, ?_⟩
      exact done (s11.trans s12)
    | true =>
      have hlv : lvV ps = .int ((lvP ps : Nat) : Int) := by unfold lvV; rw [hw]; rfl
      rw [hlv]
      refine ⟨_, rfl, rfl, _, rfl, ?_⟩
      rw [show decide (V.int ((lvP ps : Nat) : Int) = V.non) = false from decide_eq_false (by intro z; cases z)]
      refine iteF ?_
      dsimp only [tNext]
      obtain ⟨l0, l1⟩ := lv_pos (ps := ps) big.c0
      have l2 : lvP ps < 2 ^ 50 := Nat.lt_of_le_of_lt (Nat.le_trans l1 (Nat.mul_le_mul_right 24 big.c1)) (by unfold bigC; decide)
      refine ⟨_, rfl, _, rfl, _, rfl, _, _, _, rfl, by omega, by omega, by omega, by omega, by decide, by decide, fun q1 hq1 => ?_⟩
      rw [← fits_steps big hw]
      have s11 := Same.upd_new (o := .lst ((fitsL ps).map fun n : Nat => V.int (n : Int))) hq1
      have f1 : (upd H10 q1 (.lst ((fitsL ps).map fun n : Nat => V.int (n : Int)))) q1 = some (.lst ((fitsL ps).map fun n : Nat => V.int (n : Int))) := upd_same
      generalize upd H10 q1 (.lst ((fitsL ps).map fun n : Nat => V.int (n : Int))) = H11 at s11 f1
      have em : ((fitsL ps).map fun n : Nat => V.int (n : Int)) = ((fitsL ps).map fun n : Nat => (n : Int)).map V.int := by rw [List.map_map]; rfl
      rw [em] at f1 h10
      refine ⟨_, _, .lst (SqL.of (s11 _ _ h10)) (dp_ints _), .lst (SqL.of f1) (dp_ints _), shaped_ints _, shaped_ints _, ?_⟩
      rw [SeqAt.eqv_refl _ (SeqAt.canLay_of_shaped (shaped_ints _))]
      refine ⟨_, rfl, iteF ?_⟩
      dsimp only [tNext]
      refine ⟨_, rfl, _, _, rfl, rfl, _, rfl, ifD (fun _ => done s11) fun le => ?_⟩
      refine ⟨_, rfl, v, ps, rfl, hv10.same s11, ok, big.c0, big.c1, fun H12 s12 => ?_⟩
      rw [hw, if_pos (rfl : true = true)]
      refine ⟨_, rfl, v, ps, rfl, hv10.same (s11.trans s12), ok, big.c0, big.c1, fun H13 s13 => ?_⟩
      rw [hw, if_pos (rfl : true = true)]
      refine ⟨(by show (2 : Nat) ≤ sizeLine; decide), fun q2 hq2 => ?_⟩
      have s14 := Same.upd_new (o := .lst [V.int ((lvP ps : Nat) : Int), V.int ((lvP ps : Nat) : Int)]) hq2
      have f2 : (upd H13 q2 (.lst [V.int ((lvP ps : Nat) : Int), V.int ((lvP ps : Nat) : Int)])) q2 = some (.lst [V.int ((lvP ps : Nat) : Int), V.int ((lvP ps : Nat) : Int)]) := upd_same
      generalize upd H13 q2 (.lst [V.int ((lvP ps : Nat) : Int), V.int ((lvP ps : Nat) : Int)]) = H14 at s14 f2
      refine ⟨_, rfl, _, rfl, (by show (2 : Nat) ≤ sizeLine; decide), fun q3 hq3 => ?_⟩
      have s15 := Same.upd_new (o := .lst [V.int ((lvP ps : Nat) : Int), V.int ((lvP ps : Nat) : Int)]) hq3
      have f3 : (upd H14 q3 (.lst [V.int ((lvP ps : Nat) : Int), V.int ((lvP ps : Nat) : Int)])) q3 = some (.lst [V.int ((lvP ps : Nat) : Int), V.int ((lvP ps : Nat) : Int)]) := upd_same
      generalize upd H14 q3 (.lst [V.int ((lvP ps : Nat) : Int), V.int ((lvP ps : Nat) : Int)]) = H15 at s15 f3
      have sm1 := sm_int (k := 0) (m := 0) (v := ((lvP ps : Nat) : Int)) (by rw [Int.natAbs_natCast]; exact Nat.lt_trans l2 (by decide))
      refine ⟨q2, q3, .list [.int _, .int _], rfl, .lst (SqL.of (s15 _ _ f2)) (.cons (.int _) (.cons (.int _) .nil)), .lst (SqL.of f3) (.cons (.int _) (.cons (.int _) .nil)), ((Sm.list (SmL.cons sm1 (SmL.cons sm1 .nil))).mono (Nat.le_refl _) (by omega : _ ≤ 100)).rep (by decide) (by decide), ?_⟩
      exact done (s11.trans (s12.trans (s13.trans (s14.trans s15))))
end
end Ft

set_option exponentiation.threshold 9000
namespace Ft
open PySem L2
theorem DeckAt.ext {H H' : Hp} {d l : Addr} (D : DeckAt H d l) (e : LamX.ExtN H H') : DeckAt H' d l := by
  obtain ⟨mx, dr, cs, h1, h2, h3⟩ := D
  exact ⟨mx, dr, cs, e _ _ h1 (by intro ps z; cases z), e _ _ h2 (by intro ps z; cases z), h3⟩
theorem tabs_but {T : List (Addr × Str)} {H H' : Hp} {d l : Addr} (t : LamX.Tabs T H) (D : DeckAt H d l) (b : But d l H H') : LamX.Tabs T H' := fun p hp => by
  obtain ⟨mx, dr, cs, d1, d2, _⟩ := D
  obtain ⟨ps, h1, h2, h3⟩ := t p hp
  refine ⟨ps, b _ _ h1 (ne_of h1 d1 (by intro z; cases z)) (ne_of h1 d2 (by intro z; cases z)), h2, fun pos cv hc => ?_⟩
  obtain ⟨c, e1, e2⟩ := h3 pos cv hc
  exact ⟨c, e1, b _ _ e2 (ne_of e2 d1 (by intro z; unfold LamX.CodeO at z; cases z)) (ne_of e2 d2 (by intro z; unfold LamX.CodeO at z; cases z))⟩
theorem lcm_pow {B : Nat} (B1 : 1 ≤ B) : ∀ (l : List Nat) (a : Nat), 0 < a → (∀ c ∈ l, 1 ≤ c ∧ c ≤ B) → 0 < l.foldl Nat.lcm a ∧ l.foldl Nat.lcm a ≤ a * B ^ l.length
  | [], a, h, _ => ⟨h, by simp⟩
  | x :: l, a, h, k => by
    have kx := k x List.mem_cons_self
    have p : 0 < Nat.lcm a x := Nat.lcm_pos h kx.1
    obtain ⟨i, j⟩ := lcm_pow B1 l (Nat.lcm a x) p fun c hc => k c (List.mem_cons_of_mem _ hc)
    refine ⟨i, Nat.le_trans j ?_⟩
    have q : Nat.lcm a x ≤ a * B := Nat.le_trans (Nat.le_of_dvd (Nat.mul_pos h kx.1) (Nat.lcm_dvd (Nat.dvd_mul_right a x) (Nat.dvd_mul_left x a))) (Nat.mul_le_mul_left a kx.2)
    rw [List.length_cons, Nat.pow_succ, Nat.mul_comm (B ^ l.length), ← Nat.mul_assoc]
    exact Nat.mul_le_mul_right _ q
theorem big_few {ps : List Pq} (ok : PdOk ps) (h : ps.length ≤ 4) : BigOk ps := by
  have r : ∀ e ∈ ps, 1 ≤ e.1 ∧ e.1 ≤ 400 := fun e he => ⟨(ok.rng e he).1, (ok.rng e he).2.1⟩
  obtain ⟨a, b⟩ := lcm_pow (B := 400) (by decide) (ps.map (·.1)) 1 (by decide) fun c hc => by
    obtain ⟨e, he, rfl⟩ := List.mem_map.mp hc
    exact r e he
  rw [List.length_map, Nat.one_mul] at b
  exact ⟨ok, a, Nat.le_trans b (Nat.pow_le_pow_right (by decide) h), Nat.le_trans (odd_le (B := 400) (by decide) _ ps rfl r).2 (Nat.pow_le_pow_right (by decide) (by omega))⟩
theorem big_div {N : Nat} {ps : List Pq} (ok : PdOk ps) (N1 : 1 ≤ N) (N24 : N ≤ 24) (h : ∀ e ∈ ps, N % e.1 = 0) : BigOk ps := by
  obtain ⟨a, b⟩ := com_pos N1 h
  refine ⟨ok, a, Nat.le_trans b (Nat.le_trans N24 (by unfold bigC; decide)), ?_⟩
  have r : ∀ e ∈ ps, 1 ≤ e.1 ∧ e.1 ≤ 24 := fun e he => ⟨(ok.rng e he).1, Nat.le_trans (Nat.le_of_dvd N1 (Nat.dvd_of_mod_eq_zero (h e he))) N24⟩
  exact Nat.le_trans (odd_le (B := 24) (by decide) _ ps rfl r).2 (Nat.le_trans (Nat.pow_le_pow_right (by decide) ok.len) (by decide : 24 ^ 8 ≤ 400 ^ 5))
end Ft

set_option exponentiation.threshold 9000
namespace Ft
open PySem L2
theorem shp_pqs {k : Nat} : ∀ l : List Pq, ShpL (k + 1) (l.map pqD)
  | [] => .nil
  | e :: l => .cons (shp_fr ((e.1 : Int), e.2)) (shp_pqs l)
theorem shaped_pd (l : List Pq) : SeqAt.shaped (pdD l) = true := (Shp.tup (shp_pqs (k := 0) l)).shaped (by decide)
theorem eqv_nilT : ∀ ds : List PyData, PyData.eqv (.tuple ds) (.tuple []) = ds.isEmpty
  | [] => rfl
  | _ :: _ => rfl
theorem slA_any {K : PySem.W.Frag} {H : Hp} {a : Addr} {xs : List V} {lo hi : Option Int} {M : VK} (h : Rd H a (.tup xs)) (m : ∀ H1 q, Same H H1 → Rd H1 q (.tup (cutV xs lo hi)) → M (.ref q) H1) : rSlA K (.ref a) lo hi H M :=
  ⟨a, xs, rfl, .inl h, fun hw => m H a (Same.refl H) (by
    have e : cutV xs lo hi = xs := by
      unfold cutV
      rw [hw.1, hw.2, List.drop_zero, Nat.sub_zero, List.take_of_length_le (Nat.le_refl _)]
    rw [e]
    exact h), fun _ p hp => m _ p (Same.upd_new hp) (.inl upd_same)⟩
theorem catA_any {K : PySem.W.Frag} {H : Hp} {a b : Addr} {xs ys : List V} {M : VK} (h : Rd H a (.tup xs)) (k : Rd H b (.tup ys)) (hl : xs.length + ys.length ≤ 1000) (m : ∀ H1 q, Same H H1 → Rd H1 q (.tup (xs ++ ys)) → M (.ref q) H1) : rCatA K (.ref a) (.ref b) H M :=
  ⟨a, b, xs, ys, rfl, rfl, .inl h, .inl k, Nat.le_trans hl (by decide), fun e => m H b (Same.refl H) (by rw [e]; exact k), fun _ e => m H a (Same.refl H) (by rw [e, List.append_nil]; exact h), fun _ _ p hp => m _ p (Same.upd_new hp) (.inl upd_same)⟩
theorem cut_dropA (xs : List V) (k : Nat) : cutV xs (some (k : Int)) none = xs.drop k := by
  unfold cutV
  rw [HT.sIx_none, HT.sIx_nat]
  rcases Nat.le_total k xs.length with h | h
  · rw [Nat.min_eq_left h, List.take_of_length_le (by rw [List.length_drop]; exact Nat.le_refl _)]
  · rw [Nat.min_eq_right h, List.drop_eq_nil_of_le (Nat.le_refl _), List.drop_eq_nil_of_le h, List.take_nil]
theorem PrsAt.take {H : Hp} {us : List V} {l : List Pq} (a : PrsAt H us l) (k : Nat) : PrsAt H (us.take k) (l.take k) := by
  refine ⟨by rw [List.length_take, List.length_take, a.len], fun i u e h1 h2 => ?_⟩
  rw [List.getElem?_take] at h1 h2
  split at h1
  · rename_i q
    rw [if_pos q] at h2
    exact a.at_ i u e h1 h2
  · cases h1
theorem PrsAt.drop {H : Hp} {us : List V} {l : List Pq} (a : PrsAt H us l) (k : Nat) : PrsAt H (us.drop k) (l.drop k) := by
  refine ⟨by rw [List.length_drop, List.length_drop, a.len], fun i u e h1 h2 => ?_⟩
  rw [List.getElem?_drop] at h1 h2
  exact a.at_ _ u e h1 h2
/-- one power of a drawn product changed -/
theorem big_set {N : Nat} {qs : List Pq} {k : Nat} {e : Pq} {r : Int} (L : LwOk N qs) (N1 : 1 ≤ N) (N24 : N ≤ 24) (he : qs[k]? = some e) (hr : r.natAbs ≤ 48) :
    BigOk (qs.take k ++ (if r ≠ 0 then [(e.1, r)] else []) ++ qs.drop (k + 1)) := by
  have ok := L.fit.ok
  have hk : k < qs.length := (List.getElem?_eq_some_iff.mp he).1
  have hek : qs[k] = e := (List.getElem?_eq_some_iff.mp he).2
  have em := List.mem_of_getElem? he
  have all : ∀ x ∈ qs.take k ++ (if r ≠ 0 then [(e.1, r)] else []) ++ qs.drop (k + 1), x ∈ qs ∨ (r ≠ 0 ∧ x = (e.1, r)) := fun x hx => by
    rcases List.mem_append.mp hx with hx | hx
    · rcases List.mem_append.mp hx with hx | hx
      · exact .inl (List.mem_of_mem_take hx)
      · by_cases z : r ≠ 0
        · rw [if_pos z] at hx
          exact .inr ⟨z, List.mem_singleton.mp hx⟩
        · rw [if_neg z] at hx
          cases hx
    · exact .inl (List.mem_of_mem_drop hx)
  have len : (qs.take k ++ (if r ≠ 0 then [(e.1, r)] else []) ++ qs.drop (k + 1)).length ≤ qs.length := by
    rw [List.length_append, List.length_append, List.length_take, List.length_drop]
    split <;> simp <;> omega
  have keys : ((qs.take k ++ (if r ≠ 0 then [(e.1, r)] else []) ++ qs.drop (k + 1)).map (·.1)).Pairwise (· < ·) := by
    have base : (qs.map (·.1)).Pairwise (· < ·) := List.pairwise_map.mpr ok.asc
    refine base.sublist ?_
    have split3 : qs = qs.take k ++ [e] ++ qs.drop (k + 1) := by
      rw [List.append_assoc, List.singleton_append, ← hek, List.getElem_cons_drop, List.take_append_drop]
    conv => rhs; rw [split3]
    rw [List.map_append, List.map_append, List.map_append, List.map_append]
    refine List.Sublist.append (List.Sublist.append (List.Sublist.refl _) ?_) (List.Sublist.refl _)
    split
    · exact List.Sublist.refl _
    · exact List.nil_sublist _
  refine big_div ⟨Nat.le_trans len ok.len, fun x hx => ?_, List.pairwise_map.mp keys⟩ N1 N24 fun x hx => ?_
  · rcases all x hx with h | ⟨z, rfl⟩
    · exact ok.rng x h
    · exact ⟨(ok.rng e em).1, (ok.rng e em).2.1, hr, z⟩
  · rcases all x hx with h | ⟨z, rfl⟩
    · exact L.fit.dv x h
    · exact L.fit.dv e em
end Ft

set_option exponentiation.threshold 9000
namespace Ft
open PySem L2
def sp_lawT (K : PySem.W.Frag) (Pt : Addr) : Sp := fun vs H Q _ => ∃ (a : Addr) (ns : List Int), vs = [.ref a] ∧ SqL K H a (ns.map V.int) ∧ ns.length ≤ 63 ∧ H Pt = some (.tbl #[]) ∧ ∀ H', Q (.bl true) H'
section
variable {P : Program} {w : World} {K : PySem.W.Frag} {mg : Str → Option Value} {base : Heap}
theorem fn_law {f : Addr} {fd : FuncData} {Pt : Addr} (F : Fun K "law" "law" s_law f fd) (B : Bi mg) (c__law_deck : Cal P w K mg base 1 "_law_deck" (sp_deck K)) (c__law_draw : Cal P w K mg base 1 "_law_draw" sp_draw) (c__law_whole : Cal P w K mg base 3 "_law_whole" sp_lwhole) (c__law_pick : Cal P w K mg base 2 "_law_pick" (sp_pick K)) (c__law_product : Cal P w K mg base 2 "_law_product" sp_lprod)
    (c__law_level : Cal P w K mg base 2 "_law_level" sp_llevelG) (g_fits : CalG P w K mg base 9 "_law_are_fits_right" sp_fits) (g_sright : CalG P w K mg base 11 "_law_is_sign_right" (sp_sright Pt)) : FnG P w K mg base 12 f fd ["_law_script"] (sp_lawT K Pt) := by
  have sc := sc_law
  refine fun_g F sc (fun _ _ _ _ ⟨_, _, e, _⟩ => by rw [e]; rfl) (fun cdv A outer s H vs Q E hgd hr h => ?_)
  obtain ⟨a, ns, rfl, hS, hlen, hT, q⟩ := h
  have h64 : (A.deeper (PyProof.Rows.envOfC "law" (defScope s_law) s.heap.objs.size f cdv)).units + 64 < cLine := by have := hr.un; omega
  refine ⟨_, (pss_cons (ps_set (i := 1) sc.nd rfl (Or.inl rfl) (pe_c c__law_deck hr (by decide) (by rfl) (pa_cons (pv 0) pa_nil)))
      (pss_cons (ps_for PassesOwn.never rfl (pi_range1 rfl B.range (pa_cons pe_int pa_nil)) (pg_name (i := 2) sc.nd rfl (Or.inl rfl))
      (pss_cons (ps_set (i := 3) sc.nd rfl (Or.inl rfl) (pe_op op_add pe_int (pe_c c__law_draw hr (by decide) (by rfl) (pa_cons (pv 1) (pa_cons pe_int pa_nil)))))
        (pss_cons (ps_set (i := 4) sc.nd rfl (Or.inl rfl) (pe_c c__law_whole hr (by decide) (by rfl) (pa_cons (pv 1) (pa_cons (pv 3) (pa_cons (pe_un un_neg pe_int) (pa_cons pe_int pa_nil))))))
        (pss_cons (ps_set (i := 5) sc.nd rfl (Or.inl rfl) (pe_c c__law_draw hr (by decide) (by rfl) (pa_cons (pv 1) (pa_cons pe_int pa_nil))))
        (pss_cons (ps_if (pt_cmpR op_eq (pv 5) pe_int (nomark _))
        (pss_cons (ps_par (i := 6) (j := 7) (by rfl) sc.nd rfl rfl (by decide) rfl rfl (pa_cons (pe_c c__law_pick hr (by decide) (by rfl) (pa_cons (pv 1) (pa_cons (pe_tup (pa_cons pe_int (pa_cons pe_int pa_nil))) pa_nil))) (pa_cons (pe_c c__law_pick hr (by decide) (by rfl) (pa_cons (pv 1) (pa_cons (pe_tup (pa_cons pe_int (pa_cons pe_int (pa_cons pe_int pa_nil)))) pa_nil))) pa_nil)) (by rfl))
          (pss_one (ps_set (i := 4) sc.nd rfl (Or.inl rfl) (pe_c c__law_product hr (by decide) (by rfl) (pa_cons (pv 1) (pa_cons (pe_c c__law_pick hr (by decide) (by rfl) (pa_cons (pv 1) (pa_cons (pe_tup (pa_cons pe_int (pa_cons pe_int (pa_cons pe_int (pa_cons pe_int (pa_cons pe_int pa_nil)))))) pa_nil))) (pa_cons (pv 6) (pa_cons (pv 7) pa_nil))))))))
        pss_nil)
        (pss_cons (ps_if (PW.pt (pw_and (pt_cmpR op_eq (pv 5) pe_int (nomark _)) (pw_and1 (pt_cmpR (op_neD h64) (pv 4) (pe_tup pa_nil) (nomark _)))))
        (pss_cons (ps_set (i := 8) sc.nd rfl (Or.inl rfl) (pe_c c__law_draw hr (by decide) (by rfl) (pa_cons (pv 1) (pa_cons (pe_callB call_len_seq (by rfl) B.len_ (by decide +kernel) (pa_cons (pv 4) pa_nil)) pa_nil))))
          (pss_cons (ps_asg (pe_ix (show IxR _ (rIx K) from ix_seq) (pv 4) (pv 8) (fun _ _ => rfl)) (pg_tup rfl (pgs_cons (pg_name (i := 9) sc.nd rfl (Or.inl rfl)) (pgs_cons (pg_name (i := 10) sc.nd rfl (Or.inl rfl)) pgs_nil))))
          (pss_cons (ps_set (i := 11) sc.nd rfl (Or.inl rfl) (pe_op op_add (pv 10) (pe_c c__law_pick hr (by decide) (by rfl) (pa_cons (pv 1) (pa_cons (pe_tup (pa_cons pe_int (pa_cons (pe_un un_neg pe_int) (pa_cons pe_int (pa_cons pe_int (pa_cons pe_int pa_nil)))))) pa_nil)))))
          (pss_one (ps_set (i := 4) sc.nd rfl (Or.inl rfl) (pe_op op_catA (pe_op op_catA (pe_slice sl_tupA (pv 4) po_none (po_some (pv 8))) (pe_ifExp (pt_cmpR op_ne (pv 11) pe_int (nomark _)) (pe_tup (pa_cons (pe_tup (pa_cons (pv 9) (pa_cons (pv 11) pa_nil))) pa_nil)) (pe_tup pa_nil))) (pe_slice sl_tupA (pv 4) (po_some (pe_op op_add (pv 8) pe_int)) po_none)))))))
        pss_nil)
        (pss_cons (ps_set (i := 12) sc.nd rfl (Or.inl rfl) (pe_c c__law_level hr (by decide) (by rfl) (pa_cons (pv 4) pa_nil)))
        (pss_one (ps_if (PW.pt (pw_or (pt_not (pt_val (pe_g g_sright hgd hr (by decide) (by rfl) (pa_cons (pv 4) (pa_cons (pv 12) pa_nil))))) (pw_or1 (pt_not (pt_val (pe_g g_fits hgd hr (by decide) (by rfl) (pa_cons (pv 1) (pa_cons (pv 4) (pa_cons (pv 12) pa_nil)))))))))
        (pss_one (ps_ret pe_bl))
        pss_nil)))))))))
      (pss_one (ps_ret pe_bl)))), ?_⟩
  refine ⟨_, rfl, a, ns, rfl, hS, hlen, ?_⟩
  intro H1 d l D1 s1 _ _
  have t1 : LamX.Tabs (tabL Pt) H1 := fun p hp => by
    rw [List.mem_singleton.mp hp]
    exact LamX.TabS.nil (s1 _ _ hT)
  dsimp only [gName]
  refine ⟨2, rfl, by decide, by decide, for_range (lo := 0) (n := Int.toNat 2) (fun i σ H' => DeckAt H' d l ∧ LamX.Tabs (tabL Pt) H' ∧ ∃ o2 o3 o4 o5 o6 o7 o8 o9 o10 o11 o12 : Option V, σ = [some (.ref a), some (.ref d), o2, o3, o4, o5, o6, o7, o8, o9, o10, o11, o12]) ⟨D1, t1, none, none, none, none, none, none, none, none, none, none, none, rfl⟩ ?_ ?_⟩
  · rintro i σ H2 hi ⟨D2, t2, o2, o3, o4, o5, o6, o7, o8, o9, o10, o11, o12, rfl⟩
    dsimp only [gName]
    refine ⟨_, rfl, d, l, 24, rfl, D2, by decide, by decide, fun H3 r D3 b3 r0 r1 => ⟨_, _, rfl, rfl, ?_⟩⟩
    obtain ⟨N, hN, N1, N24⟩ : ∃ N : Nat, 1 + r = (N : Int) ∧ 1 ≤ N ∧ N ≤ 24 := ⟨(1 + r).toNat, by omega, by omega, by omega⟩
    dsimp only
    rw [hN]
    refine ⟨_, rfl, _, rfl, _, rfl, d, l, N, _, _, rfl, D3, N1, N24, fun H4 v ps D4 b4 X4 L4 => ?_⟩
    dsimp only [gName]
    refine ⟨_, rfl, d, l, 4, rfl, D4, by decide, by decide, fun H5 y D5 b5 y0 y1 => ?_⟩
    have X5 := X4.but D4 b5
    have t5 := tabs_but (tabs_but (tabs_but t2 D2 b3) D3 b4) D4 b5
    dsimp only [gName]
    refine tSeq_join (fun σ H' => DeckAt H' d l ∧ LamX.Tabs (tabL Pt) H' ∧ ∃ (u : V) (qs : List Pq) (z2 z6 z7 : Option V), σ = [some (.ref a), some (.ref d), z2, some (.int (N : Int)), some u, some (.int y), z6, z7, o8, o9, o10, o11, o12] ∧ PdX H' u qs ∧ BigOk qs ∧ (y = 1 → LwOk N qs)) (fun N' hN' => ?_) ?_
    · refine ⟨_, rfl, rfl, _, rfl, ifI (fun e => ?_) fun e => ?_⟩
      · refine ⟨_, rfl, (by show (2 : Nat) ≤ sizeLine; decide), pickI (K := K) (E := E0) (xs := [3, 12]) (C := fun z => 1 ≤ z ∧ z ≤ 30) D5 (by decide) (by decide) (by decide) fun H6 zm D6 b6 cm => ?_⟩
        refine ⟨_, rfl, (by show (3 : Nat) ≤ sizeLine; decide), pickI (K := K) (E := E0) (xs := [6, 24, 400]) (C := fun z => 1 ≤ z ∧ z ≤ 400) D6 (by decide) (by decide) (by decide) fun H7 zh D7 b7 ch => ?_⟩
        refine ⟨_, _, rfl, ?_⟩
        refine ⟨_, rfl, _, rfl, (by show (5 : Nat) ≤ sizeLine; decide), pickI (K := K) (E := E0) (xs := [2, 1, 3, 0, 4]) (C := fun z => z ≤ 4) D7 (by decide) (by decide) (by decide) fun H8 zp D8 b8 cp => ?_⟩
        refine ⟨_, rfl, _, rfl, d, l, zp, zm, zh, rfl, D8, by omega, cm.1, cm.2, ch.1, ch.2, fun H9 r' qs D9 b9 X9 P9 n9 => ?_⟩
        exact hN' _ _ ⟨D9, tabs_but (tabs_but (tabs_but (tabs_but t5 D5 b6) D6 b7) D7 b8) D8 b9, r', qs, _, _, _, rfl, X9, big_few P9.ok (by omega), fun z => absurd z (by omega)⟩
      · dsimp only [tNext]
        exact hN' _ _ ⟨D5, t5, v, ps, _, _, _, rfl, X5, big_div L4.fit.ok N1 N24 L4.fit.dv, fun _ => L4⟩
    rintro _ H6 ⟨D6, t6, u, qs, z2, z6, z7, rfl, X6, big6, L6⟩
    refine tSeq_join (fun σ H' => DeckAt H' d l ∧ LamX.Tabs (tabL Pt) H' ∧ ∃ (u : V) (qs : List Pq) (z8 z9 z10 z11 : Option V), σ = [some (.ref a), some (.ref d), z2, some (.int (N : Int)), some u, some (.int y), z6, z7, z8, z9, z10, z11, o12] ∧ Pd H' u qs ∧ BigOk qs) (fun N' hN' => ?_) ?_
    · refine ⟨_, rfl, rfl, _, rfl, ifI (fun e => ?_) fun ne => ?_⟩
      · refine ⟨_, rfl, (by show (0 : Nat) ≤ sizeLine; decide), fun p0 hp0 => ?_⟩
        have s7 := Same.upd_new (o := .tup ([] : List V)) hp0
        have f0 : (upd H6 p0 (.tup [])) p0 = some (.tup ([] : List V)) := upd_same
        generalize upd H6 p0 (.tup []) = H7 at s7 f0
        have X7 := X6.same s7
        have D7 := D6.same s7
        have t7 := t6.ext s7
        have L7 := L6 e
        have ok := L7.fit.ok
        have l8 := ok.len
        refine ⟨_, _, dp_of X7.pd, .tup (SqT.of f0) .nil, shaped_pd qs, rfl, _, rfl, ?_⟩
        rw [show PyData.eqv (pdD qs) (.tuple []) = qs.isEmpty from (eqv_nilT _).trans (by rw [List.isEmpty_map])]
        cases qs with
        | nil =>
          refine iteF ?_
          dsimp only [tNext]
          exact hN' _ _ ⟨D7, t7, u, [], _, _, _, _, rfl, X7.pd, big6⟩
        | cons q0 qr =>
        refine iteT ?_
        obtain ⟨p, ob, us, rfl, hp, pl, hus⟩ := X7
        have lu := hus.len
        have lq : (q0 :: qr).length = qr.length + 1 := List.length_cons
        generalize hqs : q0 :: qr = qs at *
        refine ⟨_, rfl, _, rfl, p, us, rfl, .inr (.inl (.inr ⟨ob, hp⟩)), d, l, (us.length : Int), rfl, D7, by omega, by omega, fun H8 at' D8 b8 a0 a1 => ?_⟩
        obtain ⟨mx, dr, cs, d1, d2, _⟩ := id D7
        have hp8 : H8 p = some (.frz ob (.tup us)) := b8 _ _ hp (ne_of hp d1 (by intro z; cases z)) (ne_of hp d2 (by intro z; cases z))
        have hus8 : PrsAt H8 us qs := ⟨hus.len, fun i u e h1 h2 => But.pr D7 b8 (hus.at_ i u e h1 h2)⟩
        have t8 := tabs_but t7 D7 b8
        obtain ⟨k, rfl, hk⟩ : ∃ k : Nat, at' = (k : Int) ∧ k < us.length := ⟨at'.toNat, by omega, by omega⟩
        obtain ⟨x, hx⟩ : ∃ x, us[k]? = some x := ⟨us[k], List.getElem?_eq_getElem hk⟩
        obtain ⟨e', he, t', rfl, ht'⟩ := hus8.get hx
        dsimp only [gName]
        refine ⟨_, rfl, _, rfl, .inr (.inl ⟨p, _, (k : Int), _, rfl, rfl, .inl (.inr ⟨ob, hp8⟩), atI_nat hx, ?_⟩)⟩
        refine ⟨t', _, rfl, SqT.of ht', rfl, _, _, rfl, _, _, rfl, rfl, ?_⟩
        refine ⟨_, rfl, _, rfl, _, rfl, (by show (5 : Nat) ≤ sizeLine; decide), pickZ (K := K) (E := E0) (xs := [1, -1, 2, 12, 24]) (C := fun z => z.natAbs ≤ 24) D8 (by decide) (by decide) (by decide) fun H9 z D9 b9 cz => ⟨_, _, rfl, rfl, ?_⟩⟩
        obtain ⟨mx', dr', cs', d1', d2', _⟩ := id D8
        have hp9 : H9 p = some (.frz ob (.tup us)) := b9 _ _ hp8 (ne_of hp8 d1' (by intro z; cases z)) (ne_of hp8 d2' (by intro z; cases z))
        have hus9 : PrsAt H9 us qs := ⟨hus.len, fun i u e h1 h2 => But.pr D8 b9 (hus8.at_ i u e h1 h2)⟩
        have t9 := tabs_but t8 D8 b9
        have sm := L7.small e' (List.mem_of_getElem? he)
        dsimp only [gName]
        refine ⟨_, rfl, _, rfl, _, rfl, slA_any (.inr ⟨ob, hp9⟩) fun H10 q1 s10 r1 => ?_⟩
        refine ⟨_, rfl, rfl, _, rfl, ifNI (fun nz => ?_) fun z0 => ?_⟩
        · refine ⟨_, rfl, _, rfl, (by show (2 : Nat) ≤ sizeLine; decide), fun pm hpm => ⟨(by show (1 : Nat) ≤ sizeLine; decide), fun qm hqm => ?_⟩⟩
          have sa := Same.upd_new (o := .tup [V.int (e'.1 : Int), V.int (e'.2 + z)]) hpm
          have fa : (upd H10 pm (.tup [V.int (e'.1 : Int), V.int (e'.2 + z)])) pm = some (.tup [V.int (e'.1 : Int), V.int (e'.2 + z)]) := upd_same
          generalize upd H10 pm (.tup [V.int (e'.1 : Int), V.int (e'.2 + z)]) = Ha at sa fa hqm
          have sb := Same.upd_new (o := .tup [V.ref pm]) hqm
          have fb : (upd Ha qm (.tup [V.ref pm])) qm = some (.tup [V.ref pm]) := upd_same
          generalize upd Ha qm (.tup [V.ref pm]) = H11 at sb fb
          have s11 := sa.trans sb
          have rm : Rd H11 qm (.tup [V.ref pm]) := .inl fb
          have lm : [V.ref pm].length ≤ 1 := Nat.le_refl _
          have pmid : PrsAt H11 [V.ref pm] [((e'.1, e'.2 + z) : Pq)] := ⟨rfl, fun i u x h1 h2 => by
            cases i with
            | zero =>
              cases h1
              cases h2
              exact ⟨pm, rfl, sb _ _ fa⟩
            | succ i => cases h1⟩
          have hmid : (if e'.2 + z ≠ 0 then [((e'.1, e'.2 + z) : Pq)] else []) = [((e'.1, e'.2 + z) : Pq)] := if_pos nz
          have s914 := s10.trans s11
          refine catA_any (rds s11 r1) rm (by rw [cut_take, List.length_take]; omega) fun H12 q2 s12 r2 => ?_
          refine ⟨_, rfl, _, rfl, _, _, rfl, rfl, _, rfl, ?_⟩
          dsimp only [tNoPart]
          refine slA_any (rds (s914.trans s12) (.inr ⟨ob, hp9⟩)) fun H13 q3 s13 r3 => ?_
          have e3 : cutV us (some ((k : Int) + 1)) none = us.drop (k + 1) := cut_dropA us (k + 1)
          rw [cut_take] at r2
          rw [e3] at r3
          refine catA_any (rds s13 r2) r3 (by rw [List.length_append, List.length_take, List.length_drop]; omega) fun H14 q4 s14 r4 => ?_
          have s1114 := s12.trans (s13.trans s14)
          have s99 := s914.trans s1114
          have bg := big_set L7 N1 N24 he (r := e'.2 + z) (by omega)
          rw [hmid] at bg
          dsimp only [gName]
          exact hN' _ _ ⟨D9.same s99, t9.ext s99, .ref q4, _, _, _, _, _, rfl, ⟨q4, _, rfl, r4, PrsAt.app (PrsAt.app ((hus9.same s99).take k) (pmid.same s1114)) ((hus9.same s99).drop (k + 1))⟩, bg⟩
        · refine ⟨(by show (0 : Nat) ≤ sizeLine; decide), fun qm hqm => ?_⟩
          have s11 := Same.upd_new (o := .tup ([] : List V)) hqm
          have fb : (upd H10 qm (.tup [])) qm = some (.tup ([] : List V)) := upd_same
          generalize upd H10 qm (.tup []) = H11 at s11 fb
          have rm : Rd H11 qm (.tup ([] : List V)) := .inl fb
          have lm : ([] : List V).length ≤ 1 := Nat.zero_le _
          have pmid : PrsAt H11 ([] : List V) ([] : List Pq) := ⟨rfl, fun i u x h1 h2 => by cases h1⟩
          have hmid : (if e'.2 + z ≠ 0 then [((e'.1, e'.2 + z) : Pq)] else []) = [] := if_neg fun w => w z0
          have s914 := s10.trans s11
          refine catA_any (rds s11 r1) rm (by rw [cut_take, List.length_take]; omega) fun H12 q2 s12 r2 => ?_
          refine ⟨_, rfl, _, rfl, _, _, rfl, rfl, _, rfl, ?_⟩
          dsimp only [tNoPart]
          refine slA_any (rds (s914.trans s12) (.inr ⟨ob, hp9⟩)) fun H13 q3 s13 r3 => ?_
          have e3 : cutV us (some ((k : Int) + 1)) none = us.drop (k + 1) := cut_dropA us (k + 1)
          rw [cut_take] at r2
          rw [e3] at r3
          refine catA_any (rds s13 r2) r3 (by rw [List.length_append, List.length_take, List.length_drop]; omega) fun H14 q4 s14 r4 => ?_
          have s1114 := s12.trans (s13.trans s14)
          have s99 := s914.trans s1114
          have bg := big_set L7 N1 N24 he (r := e'.2 + z) (by omega)
          rw [hmid] at bg
          dsimp only [gName]
          exact hN' _ _ ⟨D9.same s99, t9.ext s99, .ref q4, _, _, _, _, _, rfl, ⟨q4, _, rfl, r4, PrsAt.app (PrsAt.app ((hus9.same s99).take k) (pmid.same s1114)) ((hus9.same s99).drop (k + 1))⟩, bg⟩
      · refine iteF ?_
        dsimp only [tNext]
        exact hN' _ _ ⟨D6, t6, u, qs, _, _, _, _, rfl, X6.pd, big6⟩
    rintro _ H7 ⟨D7, t7, u7, q7, z8, z9, z10, z11, rfl, X7, big7⟩
    refine ⟨_, rfl, u7, q7, rfl, X7, big7.ok, big7.c0, big7.c1, fun H8 s8 => ?_⟩
    dsimp only [gName]
    have t8 := t7.ext s8
    have X8 := X7.same s8
    have D8 := D7.same s8
    refine ⟨_, rfl, _, rfl, u7, q7, rfl, X8, big7, t8, fun H9 x9 t9 => ⟨true, rfl, iteF ?_⟩⟩
    have D9 := D8.ext x9
    refine ⟨_, rfl, _, rfl, _, rfl, d, l, u7, q7, rfl, D9, X8.ext x9, big7, fun H10 D10 b10 => ⟨true, rfl, iteF ?_⟩⟩
    dsimp only [tNext]
    exact ⟨D10, tabs_but t9 D9 b10, _, _, _, _, _, _, _, _, _, _, _, rfl⟩
  · rintro σ H2 ⟨D2, _⟩
    exact q _
end
end Ft

namespace Ft
open PySem L2
theorem kb_dfit {K : PySem.W.Frag} {f : Addr} {fd : FuncData} (F : Fun K "does_fit" "does_fit" s_does_fit f fd) : KBinds K fd ["product", "level"] ["level", "product"] swapU swapV := by
  obtain ⟨oc, od, kV, doc, pm, an, cdv, ct, osl, rfl, lk, hcd⟩ := F.ex
  refine ⟨fun s us ws _ hl => ?_, swap_rel⟩
  match us, ws, hl with
  | [], [a, b], _ => exact .of_eq rfl
theorem kb_plev {K : PySem.W.Frag} {f : Addr} {fd : FuncData} (F : Fun K "product_level" "product_level" s_product_level f fd) : KBinds K fd ["product"] ["product"] oneU oneV := by
  obtain ⟨oc, od, kV, doc, pm, an, cdv, ct, osl, rfl, lk, hcd⟩ := F.ex
  refine ⟨fun s us ws _ hl => ?_, one_rel⟩
  match us, ws, hl with
  | [], [a], _ => exact .of_eq rfl
theorem kb_psig {K : PySem.W.Frag} {f : Addr} {fd : FuncData} (F : Fun K "product_sign" "product_sign" s_product_sign f fd) : KBinds K fd ["product"] ["product"] oneU oneV := by
  obtain ⟨oc, od, kV, doc, pm, an, cdv, ct, osl, rfl, lk, hcd⟩ := F.ex
  refine ⟨fun s us ws _ hl => ?_, one_rel⟩
  match us, ws, hl with
  | [], [a], _ => exact .of_eq rfl
end Ft

set_option exponentiation.threshold 9000
namespace Ft
open PySem L2
theorem df_mk {K : PySem.W.Frag} {h : Heap} {mg : Str → Option Value} {x : Str} {st : Stmt} {ps : List Str} {f : Addr} {oc kV doc pm cdv ct : Value} {od an : Option Addr} {osl : Array (Option Value)} (X : K.In h) (G : h.Ns mainGlobals mg)
    (a : PySem.W.nsIn K mainGlobals x = some (some (.ref f))) (l : K.lookup f = some ⟨oc, od, .func (PySem.W.fnOf x x (defArgs st) (defBody st) (defScope st) .none kV doc pm an cdv ct), osl⟩) (c : PySem.W.codeIn K cdv x = true) (k : PySem.W.keepIn K (.ref f) = true)
    (hb : ∀ (kV doc pm : Value) (an : Option Addr) (cdv ct : Value) (us : List Value), us.length = ps.length → bindArgs (PySem.W.fnOf x x (defArgs st) (defBody st) (defScope st) .none kV doc pm an cdv ct) ⟨us, []⟩ = pure (ps.zip us)) : Df K mg x st ps :=
  have F := fun_mk (st := st) l c k
  ⟨f, _, F, PySem.W.mg_of X G a, F.binds hb⟩
theorem b1 {x : Str} {st : Stmt} {p0 : Str} (h : ∀ (kV doc pm : Value) (an : Option Addr) (cdv ct u0 : Value), bindArgs (PySem.W.fnOf x x (defArgs st) (defBody st) (defScope st) .none kV doc pm an cdv ct) ⟨[u0], []⟩ = pure [(p0, u0)]) :
    ∀ (kV doc pm : Value) (an : Option Addr) (cdv ct : Value) (us : List Value), us.length = [p0].length → bindArgs (PySem.W.fnOf x x (defArgs st) (defBody st) (defScope st) .none kV doc pm an cdv ct) ⟨us, []⟩ = pure ([p0].zip us) :=
  fun kV doc pm an cdv ct us hl => match us, hl with | [u0], _ => h kV doc pm an cdv ct u0
theorem b2 {x : Str} {st : Stmt} {p0 p1 : Str} (h : ∀ (kV doc pm : Value) (an : Option Addr) (cdv ct u0 u1 : Value), bindArgs (PySem.W.fnOf x x (defArgs st) (defBody st) (defScope st) .none kV doc pm an cdv ct) ⟨[u0, u1], []⟩ = pure [(p0, u0), (p1, u1)]) :
    ∀ (kV doc pm : Value) (an : Option Addr) (cdv ct : Value) (us : List Value), us.length = [p0, p1].length → bindArgs (PySem.W.fnOf x x (defArgs st) (defBody st) (defScope st) .none kV doc pm an cdv ct) ⟨us, []⟩ = pure ([p0, p1].zip us) :=
  fun kV doc pm an cdv ct us hl => match us, hl with | [u0, u1], _ => h kV doc pm an cdv ct u0 u1
theorem b3 {x : Str} {st : Stmt} {p0 p1 p2 : Str} (h : ∀ (kV doc pm : Value) (an : Option Addr) (cdv ct u0 u1 u2 : Value), bindArgs (PySem.W.fnOf x x (defArgs st) (defBody st) (defScope st) .none kV doc pm an cdv ct) ⟨[u0, u1, u2], []⟩ = pure [(p0, u0), (p1, u1), (p2, u2)]) :
    ∀ (kV doc pm : Value) (an : Option Addr) (cdv ct : Value) (us : List Value), us.length = [p0, p1, p2].length → bindArgs (PySem.W.fnOf x x (defArgs st) (defBody st) (defScope st) .none kV doc pm an cdv ct) ⟨us, []⟩ = pure ([p0, p1, p2].zip us) :=
  fun kV doc pm an cdv ct us hl => match us, hl with | [u0, u1, u2], _ => h kV doc pm an cdv ct u0 u1 u2
theorem b4 {x : Str} {st : Stmt} {p0 p1 p2 p3 : Str} (h : ∀ (kV doc pm : Value) (an : Option Addr) (cdv ct u0 u1 u2 u3 : Value), bindArgs (PySem.W.fnOf x x (defArgs st) (defBody st) (defScope st) .none kV doc pm an cdv ct) ⟨[u0, u1, u2, u3], []⟩ = pure [(p0, u0), (p1, u1), (p2, u2), (p3, u3)]) :
    ∀ (kV doc pm : Value) (an : Option Addr) (cdv ct : Value) (us : List Value), us.length = [p0, p1, p2, p3].length → bindArgs (PySem.W.fnOf x x (defArgs st) (defBody st) (defScope st) .none kV doc pm an cdv ct) ⟨us, []⟩ = pure ([p0, p1, p2, p3].zip us) :=
  fun kV doc pm an cdv ct us hl => match us, hl with | [u0, u1, u2, u3], _ => h kV doc pm an cdv ct u0 u1 u2 u3
/-- the defs of the text, as the top has left them -/
structure Dfs (K : PySem.W.Frag) (mg : Str → Option Value) : Prop where
  is_integer : Df K mg "is_integer" s_is_integer ["thing"]
  is_between : Df K mg "is_between" s_is_between ["thing", "least", "most"]
  is_tuple_of_integers : Df K mg "is_tuple_of_integers" s_is_tuple_of_integers ["thing", "many"]
  is_pair_of_integers : Df K mg "is_pair_of_integers" s_is_pair_of_integers ["thing"]
  check_level : Df K mg "check_level" s_check_level ["level"]
  common_multiple : Df K mg "common_multiple" s_common_multiple ["integers"]
  is_sign : Df K mg "is_sign" s_is_sign ["thing"]
  sign_of : Df K mg "sign_of" s_sign_of ["m"]
  any_sign_of : Df K mg "any_sign_of" s_any_sign_of ["m"]
  without_squares : Df K mg "without_squares" s_without_squares ["m"]
  is_product : Df K mg "is_product" s_is_product ["thing"]
  is_product_pair : Df K mg "is_product_pair" s_is_product_pair ["thing"]
  check_product : Df K mg "check_product" s_check_product ["product"]
  is_whole : Df K mg "is_whole" s_is_whole ["product"]
  does_fit : Df K mg "does_fit" s_does_fit ["product", "level"]
  does_all_divide : Df K mg "does_all_divide" s_does_all_divide ["product", "level"]
  product_level : Df K mg "product_level" s_product_level ["product"]
  product_sign : Df K mg "product_sign" s_product_sign ["product"]
  ldeck : Df K mg "_law_deck" s__law_deck ["_law_script"]
  ldraw : Df K mg "_law_draw" s__law_draw ["_law_deck_here", "_law_many"]
  lpick : Df K mg "_law_pick" s__law_pick ["_law_deck_here", "_law_some"]
  lsame : Df K mg "_law_same" s__law_same ["_law_told", "_law_due"]
  ldivisor : Df K mg "_law_divisor" s__law_divisor ["_law_one", "_law_other"]
  ldivisors : Df K mg "_law_divisors" s__law_divisors ["_law_n"]
  lproduct : Df K mg "_law_product" s__law_product ["_law_deck_here", "_law_pairs", "_law_most", "_law_high"]
  lwhole : Df K mg "_law_whole" s__law_whole ["_law_deck_here", "_law_level_here", "_law_low", "_law_high"]
  ldoes_fit : Df K mg "_law_does_fit" s__law_does_fit ["_law_product_here", "_law_level_here"]
  llevel : Df K mg "_law_level" s__law_level ["_law_product_here"]
  lproduct_sign : Df K mg "_law_product_sign" s__law_product_sign ["_law_product_here"]
  lrefused : Df K mg "_law_refused" s__law_refused ["_law_call"]
  lis_sign_right : Df K mg "_law_is_sign_right" s__law_is_sign_right ["_law_product_here", "_law_level_here"]
  lare_fits_right : Df K mg "_law_are_fits_right" s__law_are_fits_right ["_law_deck_here", "_law_product_here", "_law_level_here"]
  law : Df K mg "law" s_law ["_law_script"]
theorem law_all {P : Program} {w : World} {K : PySem.W.Frag} {mg : Str → Option Value} {base : Heap} {f : Addr} {fd : FuncData}  {C CT c Pt : Addr} (T : ErrT K mg "NotWhole" "thing" "NotWhole.__init__" i_NotWhole C) (gT : mg "TermError" = some (.ref CT)) (e1 : PySem.W.exmOne K (.ref C) (.ref C) = some true) (DC : DfC K mg "_law_is_sign_right" s__law_is_sign_right ["_law_product_here", "_law_level_here"] c) (TB : LamX.TabB base mg c Pt) (D : Dfs K mg) (B : Bi mg) (F : Fun K "law" "law" s_law f fd) : FnG P w K mg base 12 f fd ["_law_script"] (sp_lawT K Pt) := by
  have c0__law_deck : Cal P w K mg base 1 "_law_deck" (sp_deck K) := ok_deck D.ldeck B
  have c1__law_draw : Cal P w K mg base 1 "_law_draw" (sp_draw) := ok_draw D.ldraw B
  have c2__law_divisors : Cal P w K mg base 1 "_law_divisors" (sp_ldiv) := ok_ldiv D.ldivisors B
  have c3__law_pick : Cal P w K mg base 2 "_law_pick" (sp_pick K) := ok_pick D.lpick B c1__law_draw
  have c2__law_whole : Cal P w K mg base 3 "_law_whole" (sp_lwhole) := ok_lwhole D.lwhole B c2__law_divisors c3__law_pick c1__law_draw
  have c5__law_product : Cal P w K mg base 2 "_law_product" (sp_lprod) := ok_lprod D.lproduct B c1__law_draw
  have c6__law_divisor : Cal P w K mg base 1 "_law_divisor" (sp_gcdZ) := ok_gcdZ D.ldivisor B
  have c6__law_level : Cal P w K mg base 2 "_law_level" (sp_llevelG) := ok_llevelG D.llevel B c6__law_divisor
  have g8__law_same : CalG P w K mg base 1 "_law_same" (sp_same K) := by
    obtain ⟨f, fd, F, m, b⟩ := D.lsame.ex
    exact ⟨f, fd, _, fn_same F B, m, F.kp, b⟩
  have c9__law_does_fit : Cal P w K mg base 1 "_law_does_fit" (sp_ldoes) := ok_ldoes D.ldoes_fit B
  have c10_is_integer : Cal P w K mg base 1 "is_integer" (sp_is_integer) := ok_is_integer D.is_integer B
  have c10_is_tuple_of_integers : Cal P w K mg base 2 "is_tuple_of_integers" (sp_isTuple) := ok_is_tuple D.is_tuple_of_integers B c10_is_integer
  have c10_is_pair_of_integers : Cal P w K mg base 3 "is_pair_of_integers" (sp_isPair) := ok_is_pair D.is_pair_of_integers c10_is_tuple_of_integers
  have c13_is_between : Cal P w K mg base 2 "is_between" (sp_is_between) := ok_is_between D.is_between c10_is_integer
  have c10_is_product_pair : Cal P w K mg base 4 "is_product_pair" (sp_isPP) := ok_isPP D.is_product_pair c10_is_pair_of_integers c13_is_between
  have c10_is_product : Cal P w K mg base 5 "is_product" (sp_isProd) := ok_is_product D.is_product B c10_is_product_pair
  have c10_check_product : Cal P w K mg base 6 "check_product" (sp_checkProd) := ok_check_product D.check_product c10_is_product
  have c17_check_level : Cal P w K mg base 3 "check_level" (sp_level) := ok_check_level D.check_level c13_is_between
  have c18_does_all_divide : Cal P w K mg base 1 "does_all_divide" (sp_allDiv) := ok_allDiv D.does_all_divide B
  have c19_is_whole : Cal P w K mg base 1 "is_whole" (sp_isWholeG) := ok_isWholeG D.is_whole B
  have c10_does_fit : Cal P w K mg base 7 "does_fit" (sp_fitG) := by
    obtain ⟨f, fd, F, m, b⟩ := D.does_fit.ex
    exact ⟨f, fd, _, fn_fitG F B c10_check_product c17_check_level c18_does_all_divide c19_is_whole, m, F.kp, b⟩
  have k21_does_fit : CalK P w K mg base 7 "does_fit" ["level", "product"] swapV (sp_fitG) := by
    obtain ⟨f, fd, F, m, b⟩ := D.does_fit.ex
    exact ⟨f, fd, _, _, fn_fitG F B c10_check_product c17_check_level c18_does_all_divide c19_is_whole, m, F.kp, kb_dfit F⟩
  have c22_common_multiple : Cal P w K mg base 1 "common_multiple" (sp_common) := ok_common D.common_multiple B
  have c22_product_level : Cal P w K mg base 7 "product_level" (sp_plevelG) := by
    obtain ⟨f, fd, F, m, b⟩ := D.product_level.ex
    exact ⟨f, fd, _, fn_plevelG F B c10_check_product c19_is_whole c22_common_multiple, m, F.kp, b⟩
  have k24_product_level : CalK P w K mg base 7 "product_level" ["product"] oneV (sp_plevelG) := by
    obtain ⟨f, fd, F, m, b⟩ := D.product_level.ex
    exact ⟨f, fd, _, _, fn_plevelG F B c10_check_product c19_is_whole c22_common_multiple, m, F.kp, kb_plev F⟩
  have g8__law_are_fits_right : CalG P w K mg base 9 "_law_are_fits_right" (sp_fits) := by
    obtain ⟨f, fd, F, m, b⟩ := D.lare_fits_right.ex
    exact ⟨f, fd, _, fn_fits F B g8__law_same c9__law_does_fit c1__law_draw c10_does_fit k21_does_fit c22_product_level k24_product_level, m, F.kp, b⟩
  have g26__law_same : CalG P w K mg base 1 "_law_same" (sp_sameI) := by
    obtain ⟨f, fd, F, m, b⟩ := D.lsame.ex
    exact ⟨f, fd, _, fn_sameI F B, m, F.kp, b⟩
  have c27__law_product_sign : Cal P w K mg base 1 "_law_product_sign" (sp_lpsign) := ok_lpsign D.lproduct_sign B
  have c28_without_squares : Cal P w K mg base 1 "without_squares" (sp_bareI) := ok_bareI D.without_squares B
  have c28_any_sign_of : Cal P w K mg base 2 "any_sign_of" (sp_signI) := ok_signI D.any_sign_of c28_without_squares
  have c28_sign_of : Cal P w K mg base 3 "sign_of" (sp_signOf) := ok_signof D.sign_of B c10_is_integer c28_any_sign_of
  have c31_is_sign : Cal P w K mg base 3 "is_sign" (sp_isSignI) := ok_isSignI D.is_sign c13_is_between c28_any_sign_of
  have PS : PsX P w K mg base C := by
    obtain ⟨f, fd, F, m, b⟩ := D.product_sign.ex
    exact ⟨f, fd, fn_psignX F B (err_NotWhole T) c10_check_product c19_is_whole c28_any_sign_of, m, F.kp, b, kb_psig F⟩
  have L : LamT P w K mg base C CT c Pt := ⟨T.c, T.g, gT, e1, D.lrefused, TB, PS⟩
  have g26__law_is_sign_right : CalG P w K mg base 11 "_law_is_sign_right" (sp_sright Pt) := by
    obtain ⟨f, fd, F, m, b, hc⟩ := DC.ex
    exact ⟨f, fd, _, fn_sright F hc B L g8__law_same g26__law_same c27__law_product_sign c28_sign_of c31_is_sign, m, F.kp, b⟩
  exact fn_law F B c0__law_deck c1__law_draw c2__law_whole c3__law_pick c5__law_product c6__law_level g8__law_are_fits_right g26__law_is_sign_right
theorem tab_in {K : PySem.W.Frag} {x : Str} {f c P : Addr} {cls oc : Value} {od odd : Option Addr} {vs : Array Value} {sl osl : Array (Option Value)} {fd : FuncData} (a : PySem.W.nsIn K mainGlobals x = some (some (.ref f))) (l : K.lookup f = some ⟨oc, odd, .func fd, osl⟩) (hc : fd.code = .ref c)
    (lc : K.lookup c = some ⟨cls, od, .fields vs, sl⟩) (v : vs[11]? = some (.ref P)) : PySem.W.tabIn K x = some (c, P) := by
  unfold PySem.W.tabIn
  rw [a]
  dsimp only
  rw [l]
  dsimp only
  rw [hc]
  dsimp only
  rw [lc]
  dsimp only
  rw [v]
theorem law_at {q : Program} {loose : List Str} {XP : (Str → Option Value) → Heap → Prop} {s0 : Shared} {mb : Str → Option Value} {l : PySem.W.OpenLaw} {w : World} {K : PySem.W.Frag} {mg : Str → Option Value} {h : Heap} {fa f f2 C CT c Pt : Addr} {oc kV doc pm cdv ct oc2 kV2 doc2 pm2 ct2 cls2 : Value} {od an od2 an2 odc : Option Addr} {osl osl2 slc : Array (Option Value)} {vs : Array Value}
    (X : K.In h) (G : PySem.W.Ground q loose [] XP w s0 mg mb h) (hfa : mg "law" = some (.ref fa))
    (a : PySem.W.nsIn K mainGlobals "law" = some (some (.ref f))) (lk : K.lookup f = some ⟨oc, od, .func (PySem.W.fnOf "law" "law" (defArgs s_law) (defBody s_law) (defScope s_law) .none kV doc pm an cdv ct), osl⟩) (c1 : PySem.W.codeIn K cdv "law" = true) (k : PySem.W.keepIn K (.ref f) = true)
    (a2 : PySem.W.nsIn K mainGlobals "_law_is_sign_right" = some (some (.ref f2))) (l2 : K.lookup f2 = some ⟨oc2, od2, .func (PySem.W.fnOf "_law_is_sign_right" "_law_is_sign_right" (defArgs s__law_is_sign_right) (defBody s__law_is_sign_right) (defScope s__law_is_sign_right) .none kV2 doc2 pm2 an2 (.ref c) ct2), osl2⟩)
    (c2 : PySem.W.codeIn K (.ref c) "_law_is_sign_right" = true) (k2 : PySem.W.keepIn K (.ref f2) = true) (lc : K.lookup c = some ⟨cls2, odc, .fields vs, slc⟩) (v : vs[11]? = some (.ref Pt)) (nP : K.lookup Pt = none) (hT : PySem.W.CodeHd h c Pt ∧ h.get? Pt = some (PySem.W.tabObj #[]))
    (T : ErrT K mg "NotWhole" "thing" "NotWhole.__init__" i_NotWhole C) (gT : PySem.W.nsIn K mainGlobals "TermError" = some (some (.ref CT))) (ic : PySem.W.isClsIn K C = true) (sc : PySem.W.subIn K (.ref C) (.ref C) = some true)
    (D : Dfs K mg) (B : Bi mg) : LawT l.prog w K 12 63 "_law_script" mg fa h := by
  have e := hfa.symm.trans (PySem.W.mg_of X G.T.g a)
  cases e
  have F2 := fun_mk (st := s__law_is_sign_right) l2 c2 k2
  have DC : DfC K mg "_law_is_sign_right" s__law_is_sign_right ["_law_product_here", "_law_level_here"] c := ⟨f2, _, F2, PySem.W.mg_of X G.T.g a2, F2.binds (b2 fun _ _ _ _ _ _ _ _ => rfl), rfl⟩
  refine ⟨_, [(c, Pt)], sp_lawT K Pt, fun p hp => ?_, fun p hp => ?_, fun s u => .of_eq rfl, fun H a ns hl hH hS => ⟨a, ns, rfl, hS, hl, hH (c, Pt) List.mem_cons_self, fun _ => rfl⟩,
    fun base _ _ tb => law_all T (PySem.W.mg_of X G.T.g gT) (exm_own T.c.xf.exC ic T.c.ty sc) DC (tb (c, Pt) List.mem_cons_self) D B (fun_mk (st := s_law) lk c1 k)⟩
  · rw [List.mem_singleton.mp hp]
    exact hT
  · rw [List.mem_singleton.mp hp]
    exact nP
end Ft

open PySem PySem.W PyProof.Rows in
set_option maxRecDepth 100000 in
set_option maxHeartbeats 0 in
theorem PySem.Challenge.cw_firstterms_k23_levels_and_signs_of_produ_holds : PySem.Challenge.rw_firstterms_k23_levels_and_signs_of_produ.Holds := by
  w_on; o_law; k_head; (case hw => w_witness2)
  k_fill
  refine Ft.walk_gT (l := PySem.Challenge.rw_firstterms_k23_levels_and_signs_of_produ) (n := 63) (k := 12) (x := "_law_script") rfl (by decide) rfl ⟨rfl, by decide, by decide⟩ (fun w h Y => PySem.W.km_in_of Y) ?F
  case F =>
    intro w s0 mg mb fa h Y KX GG hmg
    have G := GG.T.g
    refine' Ft.law_at KX GG hmg ?a ?lk ?c ?k ?a2 ?l2 ?c2 ?k2 ?lc ?v ?nP ?hT ?T ?gT ?ic ?sc ?D ?B
    (case a => k_is); (case lk => k_is); (case c => k_is); (case k => k_is)
    (case a2 => k_is); (case l2 => k_is); (case c2 => k_is); (case k2 => k_is); (case lc => k_is)
    (case v => rfl)
    (case nP => first | k_is | rfl | kernel_rfl)
    case hT =>
      refine' ⟨PySem.W.codeHd_of_K KX ?ch, PySem.W.km_tabs_of Y _ ?cm⟩
      (case ch => first | k_is | kx_is | kernel_rfl)
      (case cm => first | exact List.mem_cons_self | decide)
    case T =>
      refine' Ft.err_mk KX G ?ea ?em ?eov ?esa ?ega ?egg ?eex ?ehd ?ety ?ekp ?eno ?ei ?etI ?el ?ec ?ek (fun _ _ _ _ _ _ us hl => match us, hl with | [_, _], _ => rfl)
      (case ea => k_is)
      (case em => kx_is)
      (case eov => kx_is)
      (case esa => k_is)
      (case ega => k_is)
      (case egg => k_is)
      (case eex => k_is)
      (case ehd => k_is)
      (case ety => k_is)
      (case ekp => k_is)
      (case eno => k_is)
      (case ei => k_is)
      (case etI => k_is)
      (case el => k_is)
      (case ec => k_is)
      (case ek => k_is)
    (case gT => k_is); (case ic => k_is); (case sc => first | rfl | k_is)
    case D =>
      refine ⟨?d0, ?d1, ?d2, ?d3, ?d4, ?d5, ?d6, ?d7, ?d8, ?d9, ?d10, ?d11, ?d12, ?d13, ?d14, ?d15, ?d16, ?d17, ?d18, ?d19, ?d20, ?d21, ?d22, ?d23, ?d24, ?d25, ?d26, ?d27, ?d28, ?d29, ?d30, ?d31, ?d32⟩
      (case d0 => refine' Ft.df_mk KX G ?a0 ?l0 ?c0 ?k0 (Ft.b1 fun _ _ _ _ _ _ _ => rfl); (case a0 => k_is); (case l0 => k_is); (case c0 => k_is); (case k0 => k_is))
      (case d1 => refine' Ft.df_mk KX G ?a1 ?l1 ?c1 ?k1 (Ft.b3 fun _ _ _ _ _ _ _ _ _ => rfl); (case a1 => k_is); (case l1 => k_is); (case c1 => k_is); (case k1 => k_is))
      (case d2 => refine' Ft.df_mk KX G ?a2 ?l2 ?c2 ?k2 (Ft.b2 fun _ _ _ _ _ _ _ _ => rfl); (case a2 => k_is); (case l2 => k_is); (case c2 => k_is); (case k2 => k_is))
      (case d3 => refine' Ft.df_mk KX G ?a3 ?l3 ?c3 ?k3 (Ft.b1 fun _ _ _ _ _ _ _ => rfl); (case a3 => k_is); (case l3 => k_is); (case c3 => k_is); (case k3 => k_is))
      (case d4 => refine' Ft.df_mk KX G ?a4 ?l4 ?c4 ?k4 (Ft.b1 fun _ _ _ _ _ _ _ => rfl); (case a4 => k_is); (case l4 => k_is); (case c4 => k_is); (case k4 => k_is))
      (case d5 => refine' Ft.df_mk KX G ?a5 ?l5 ?c5 ?k5 (Ft.b1 fun _ _ _ _ _ _ _ => rfl); (case a5 => k_is); (case l5 => k_is); (case c5 => k_is); (case k5 => k_is))
      (case d6 => refine' Ft.df_mk KX G ?a6 ?l6 ?c6 ?k6 (Ft.b1 fun _ _ _ _ _ _ _ => rfl); (case a6 => k_is); (case l6 => k_is); (case c6 => k_is); (case k6 => k_is))
      (case d7 => refine' Ft.df_mk KX G ?a7 ?l7 ?c7 ?k7 (Ft.b1 fun _ _ _ _ _ _ _ => rfl); (case a7 => k_is); (case l7 => k_is); (case c7 => k_is); (case k7 => k_is))
      (case d8 => refine' Ft.df_mk KX G ?a8 ?l8 ?c8 ?k8 (Ft.b1 fun _ _ _ _ _ _ _ => rfl); (case a8 => k_is); (case l8 => k_is); (case c8 => k_is); (case k8 => k_is))
      (case d9 => refine' Ft.df_mk KX G ?a9 ?l9 ?c9 ?k9 (Ft.b1 fun _ _ _ _ _ _ _ => rfl); (case a9 => k_is); (case l9 => k_is); (case c9 => k_is); (case k9 => k_is))
      (case d10 => refine' Ft.df_mk KX G ?a10 ?l10 ?c10 ?k10 (Ft.b1 fun _ _ _ _ _ _ _ => rfl); (case a10 => k_is); (case l10 => k_is); (case c10 => k_is); (case k10 => k_is))
      (case d11 => refine' Ft.df_mk KX G ?a11 ?l11 ?c11 ?k11 (Ft.b1 fun _ _ _ _ _ _ _ => rfl); (case a11 => k_is); (case l11 => k_is); (case c11 => k_is); (case k11 => k_is))
      (case d12 => refine' Ft.df_mk KX G ?a12 ?l12 ?c12 ?k12 (Ft.b1 fun _ _ _ _ _ _ _ => rfl); (case a12 => k_is); (case l12 => k_is); (case c12 => k_is); (case k12 => k_is))
      (case d13 => refine' Ft.df_mk KX G ?a13 ?l13 ?c13 ?k13 (Ft.b1 fun _ _ _ _ _ _ _ => rfl); (case a13 => k_is); (case l13 => k_is); (case c13 => k_is); (case k13 => k_is))
      (case d14 => refine' Ft.df_mk KX G ?a14 ?l14 ?c14 ?k14 (Ft.b2 fun _ _ _ _ _ _ _ _ => rfl); (case a14 => k_is); (case l14 => k_is); (case c14 => k_is); (case k14 => k_is))
      (case d15 => refine' Ft.df_mk KX G ?a15 ?l15 ?c15 ?k15 (Ft.b2 fun _ _ _ _ _ _ _ _ => rfl); (case a15 => k_is); (case l15 => k_is); (case c15 => k_is); (case k15 => k_is))
      (case d16 => refine' Ft.df_mk KX G ?a16 ?l16 ?c16 ?k16 (Ft.b1 fun _ _ _ _ _ _ _ => rfl); (case a16 => k_is); (case l16 => k_is); (case c16 => k_is); (case k16 => k_is))
      (case d17 => refine' Ft.df_mk KX G ?a17 ?l17 ?c17 ?k17 (Ft.b1 fun _ _ _ _ _ _ _ => rfl); (case a17 => k_is); (case l17 => k_is); (case c17 => k_is); (case k17 => k_is))
      (case d18 => refine' Ft.df_mk KX G ?a18 ?l18 ?c18 ?k18 (Ft.b1 fun _ _ _ _ _ _ _ => rfl); (case a18 => k_is); (case l18 => k_is); (case c18 => k_is); (case k18 => k_is))
      (case d19 => refine' Ft.df_mk KX G ?a19 ?l19 ?c19 ?k19 (Ft.b2 fun _ _ _ _ _ _ _ _ => rfl); (case a19 => k_is); (case l19 => k_is); (case c19 => k_is); (case k19 => k_is))
      (case d20 => refine' Ft.df_mk KX G ?a20 ?l20 ?c20 ?k20 (Ft.b2 fun _ _ _ _ _ _ _ _ => rfl); (case a20 => k_is); (case l20 => k_is); (case c20 => k_is); (case k20 => k_is))
      (case d21 => refine' Ft.df_mk KX G ?a21 ?l21 ?c21 ?k21 (Ft.b2 fun _ _ _ _ _ _ _ _ => rfl); (case a21 => k_is); (case l21 => k_is); (case c21 => k_is); (case k21 => k_is))
      (case d22 => refine' Ft.df_mk KX G ?a22 ?l22 ?c22 ?k22 (Ft.b2 fun _ _ _ _ _ _ _ _ => rfl); (case a22 => k_is); (case l22 => k_is); (case c22 => k_is); (case k22 => k_is))
      (case d23 => refine' Ft.df_mk KX G ?a23 ?l23 ?c23 ?k23 (Ft.b1 fun _ _ _ _ _ _ _ => rfl); (case a23 => k_is); (case l23 => k_is); (case c23 => k_is); (case k23 => k_is))
      (case d24 => refine' Ft.df_mk KX G ?a24 ?l24 ?c24 ?k24 (Ft.b4 fun _ _ _ _ _ _ _ _ _ _ => rfl); (case a24 => k_is); (case l24 => k_is); (case c24 => k_is); (case k24 => k_is))
      (case d25 => refine' Ft.df_mk KX G ?a25 ?l25 ?c25 ?k25 (Ft.b4 fun _ _ _ _ _ _ _ _ _ _ => rfl); (case a25 => k_is); (case l25 => k_is); (case c25 => k_is); (case k25 => k_is))
      (case d26 => refine' Ft.df_mk KX G ?a26 ?l26 ?c26 ?k26 (Ft.b2 fun _ _ _ _ _ _ _ _ => rfl); (case a26 => k_is); (case l26 => k_is); (case c26 => k_is); (case k26 => k_is))
      (case d27 => refine' Ft.df_mk KX G ?a27 ?l27 ?c27 ?k27 (Ft.b1 fun _ _ _ _ _ _ _ => rfl); (case a27 => k_is); (case l27 => k_is); (case c27 => k_is); (case k27 => k_is))
      (case d28 => refine' Ft.df_mk KX G ?a28 ?l28 ?c28 ?k28 (Ft.b1 fun _ _ _ _ _ _ _ => rfl); (case a28 => k_is); (case l28 => k_is); (case c28 => k_is); (case k28 => k_is))
      (case d29 => refine' Ft.df_mk KX G ?a29 ?l29 ?c29 ?k29 (Ft.b1 fun _ _ _ _ _ _ _ => rfl); (case a29 => k_is); (case l29 => k_is); (case c29 => k_is); (case k29 => k_is))
      (case d30 => refine' Ft.df_mk KX G ?a30 ?l30 ?c30 ?k30 (Ft.b2 fun _ _ _ _ _ _ _ _ => rfl); (case a30 => k_is); (case l30 => k_is); (case c30 => k_is); (case k30 => k_is))
      (case d31 => refine' Ft.df_mk KX G ?a31 ?l31 ?c31 ?k31 (Ft.b3 fun _ _ _ _ _ _ _ _ _ => rfl); (case a31 => k_is); (case l31 => k_is); (case c31 => k_is); (case k31 => k_is))
      (case d32 => refine' Ft.df_mk KX G ?a32 ?l32 ?c32 ?k32 (Ft.b1 fun _ _ _ _ _ _ _ => rfl); (case a32 => k_is); (case l32 => k_is); (case c32 => k_is); (case k32 => k_is))
    case B =>
      refine' ⟨PySem.W.mg_none_of KX G ?z0, PySem.W.mg_none_of KX G ?z1, PySem.W.mg_none_of KX G ?z2, PySem.W.mg_none_of KX G ?z3, PySem.W.mg_of KX G ?z4, PySem.W.mg_none_of KX G ?z5, PySem.W.mg_none_of KX G ?z6, PySem.W.mg_none_of KX G ?z7, PySem.W.mg_of KX G ?z8, PySem.W.mg_of KX G ?z9, PySem.W.mg_none_of KX G ?z10, PySem.W.mg_none_of KX G ?z11, PySem.W.mg_none_of KX G ?z12, PySem.W.mg_none_of KX G ?z13, PySem.W.mg_none_of KX G ?z14, PySem.W.mg_none_of KX G ?z15, PySem.W.mg_none_of KX G ?z16, PySem.W.mg_none_of KX G ?z17, PySem.W.mg_none_of KX G ?z18, PySem.W.mg_none_of KX G ?z19, PySem.W.mg_none_of KX G ?z20, PySem.W.mg_none_of KX G ?z21⟩
      (case z0 => k_is)
      (case z1 => k_is)
      (case z2 => k_is)
      (case z3 => k_is)
      (case z4 => k_is)
      (case z5 => k_is)
      (case z6 => k_is)
      (case z7 => k_is)
      (case z8 => k_is)
      (case z9 => k_is)
      (case z10 => k_is)
      (case z11 => k_is)
      (case z12 => k_is)
      (case z13 => k_is)
      (case z14 => k_is)
      (case z15 => k_is)
      (case z16 => k_is)
      (case z17 => k_is)
      (case z18 => k_is)
      (case z19 => k_is)
      (case z20 => k_is)
      (case z21 => k_is)

