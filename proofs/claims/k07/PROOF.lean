import PyProof.Rows.All
import Wide.All
import OpenK.AllK
import Wide.FinOn
import HandS.ForMost
import HandS.Flow
import HandS.Wide
import HandS.Gcd
import HandS.IsInst
import HandS.Zip
import HandS.Ends
import HandS.Walk
import KE.KMathGC
import HandS.Style
import Flt.RightSqrt
import PySem.Challenge.RW_firstterms_k07_whole_sums_of_powers_by_b
set_option Elab.async false
set_option maxRecDepth 100000
namespace Ft
open PySem L2

/-! ### general: what a def may be called for -/
structure Cal (P : Program) (w : World) (K : PySem.W.Frag) (mg : Str → Option Value) (base : Heap) (k : Nat) (x : Str) (sp : Sp) : Prop where
  ex : ∃ (f : Addr) (fd : FuncData) (ps : List Str), FnOk P w K mg base CX0 k f fd ps sp ∧ mg x = some (.ref f) ∧ PySem.W.keepIn K (.ref f) = true ∧ Binds K fd ps []
/-- a def of the top: its text stands, its name leads to it, its arguments bind -/
structure Df (K : PySem.W.Frag) (mg : Str → Option Value) (x : Str) (st : Stmt) (ps : List Str) : Prop where
  ex : ∃ (f : Addr) (fd : FuncData), Fun K x x st f fd ∧ mg x = some (.ref f) ∧ Binds K fd ps []
section
variable {X : Cx} {k j : Nat} {x : Str} {sp : Sp} {p pos : Pos} {e : Expr} {es : List Expr} {t : TA}
theorem pe_c (c : Cal X.prog X.w X.K X.mg X.base k x sp) (hr : Room j X.A) (hk : k ≤ j) (hg : Gl X x) (ha : PA X (e :: es) t)
    (hdb : (x == ("__debug__" : Str)) = false := by decide) (he : starEach (e :: es) X.env = (false, eval e X.env) :: starEach es X.env := by rfl) (hpl : (backTo pos (starEach es X.env)).any (·.1) = false := by rfl) :
    PE X (.Call (.Name x p) (e :: es) [] pos) (tCall sp [] E0 t) := by
  obtain ⟨f, fd, ps, F, hm, kp, b⟩ := c.ex
  exact pe_call F (hr.mono hk) hg hm kp b .nil pass0 ha hdb he hpl
end
/-- what may be called for by keywords alone, in this order -/
structure CalK (P : Program) (w : World) (K : PySem.W.Frag) (mg : Str → Option Value) (base : Heap) (k : Nat) (x : Str) (ks : List Str) (gV : List V → List V → List V) (sp : Sp) : Prop where
  ex : ∃ (f : Addr) (fd : FuncData) (ps : List Str) (g : List Value → List Value → List Value), FnOk P w K mg base CX0 k f fd ps sp ∧ mg x = some (.ref f) ∧ PySem.W.keepIn K (.ref f) = true ∧ KBinds K fd ps ks g gV
section
variable {X : Cx} {k j : Nat} {x : Str} {ks : List Str} {gV : List V → List V → List V} {sp : Sp} {p pos : Pos} {kws : List Keyword} {tk : TA}
theorem pe_k0 (c : CalK X.prog X.w X.K X.mg X.base k x ks gV sp) (hr : Room j X.A) (hk : k ≤ j) (hg : Gl X x) (hkw : PK X kws tk)
    (hall : (backToKw pos (keywordEach kws X.env)).all (·.1.isSome) = true := by rfl) (hks : (backToKw pos (keywordEach kws X.env)).filterMap (·.1) = ks := by rfl) (hdb : (x == ("__debug__" : Str)) = false := by decide)
    (hpl : ((backTo pos (starEach [] X.env)).any (·.1) || (backToKw pos (keywordEach kws X.env)).any (·.1.isNone)) = false := by rfl) :
    PE X (.Call (.Name x p) [] kws pos) (tCallK sp gV E0 tNil tk) := by
  obtain ⟨f, fd, ps, g, F, hm, kp, b⟩ := c.ex
  refine ⟨fun pins s σ H Q I h => wpAny_Call_Name_kw (ld_glob I hg hm ?_ hdb)⟩
  refine PySem.W.callWith_KW0 (h₀ := X.base) I.ok.mod.kin kp hall (thn (hkw.run pos pins s σ H _ I h) fun ws s2 ⟨zs, H2, I2, rz, q2⟩ => ⟨I2.kIn, ?_⟩) hpl
  rw [hks]
  exact run_fnk F (hr.mono hk) b pass0 I2 .nil rz q2
end
section
variable {X : Cx}
theorem pe_ty {x : Str} {n : String} {pos : Pos} (hg : Gl X x) (hm : X.mg x = none) (hv : bootBuiltins x = some (.type n)) (hn : x ≠ "__name__" := by decide) (hd : (x == ("__debug__" : Str)) = false := by decide) : PE X (.Name x pos) (tC (.ty n)) := pe_bltn hg hm hv rfl hn hd
end
theorem kit_int_int {K : PySem.W.Frag} : PySem.W.kitOne K (.type "int") (.type "int") = some true := kit_ty (by decide +kernel)
theorem kit_int_bool {K : PySem.W.Frag} : PySem.W.kitOne K (.type "int") (.type "bool") = some false := kit_ty (by decide +kernel)
theorem ifD {c A B : Prop} [Decidable c] (h1 : c → A) (h2 : ¬ c → B) : if decide c = true then A else B := by
  by_cases h : c
  · rw [decide_eq_true h]; exact iteT (h1 h)
  · rw [decide_eq_false h]; exact iteF (h2 h)
theorem ifI {i j : Int} {A B : Prop} (h1 : i = j → A) (h2 : i ≠ j → B) : if decide (V.int i = V.int j) = true then A else B :=
  ifD (fun h => h1 (V.int.inj h)) fun h => h2 fun e => h (congrArg V.int e)
theorem ifN {c A B : Prop} [Decidable c] (h1 : ¬ c → A) (h2 : c → B) : if (!decide c) = true then A else B := by
  by_cases h : c
  · rw [decide_eq_true h]; exact iteF (h2 h)
  · rw [decide_eq_false h]; exact iteT (h1 h)
theorem ifNI {i j : Int} {A B : Prop} (h1 : i ≠ j → A) (h2 : i = j → B) : if (!decide (V.int i = V.int j)) = true then A else B :=
  ifN (fun h => h1 fun e => h (congrArg V.int e)) fun h => h2 (V.int.inj h)
/-- what follows, said once for all ways that lead there -/
theorem tSeq_join {a b : TS} {D : Ends} {σ : L2.St} {H : Hp} (J : L2.St → Hp → Prop) (h1 : ∀ N : L2.St → Hp → Prop, (∀ σ H, J σ H → N σ H) → a { D with nx := N } σ H) (h2 : ∀ σ H, J σ H → b D σ H) : tSeq a b D σ H := h1 (b D) h2
/-- while, by an invariant and a measure -/
theorem while_go {c : TT} {tb : TS} {D : Ends} {σ : L2.St} {H : Hp} (Pv : L2.St → Hp → Prop) (μ : L2.St → Hp → Nat) (h0 : Pv σ H)
    (hs : ∀ σ H, Pv σ H → c σ H fun b H1 => if b = true then ∃ N : L2.St → Hp → Prop, (∀ σ' H', N σ' H' → ∃ m', m' < μ σ H ∧ m' = μ σ' H' ∧ Pv σ' H') ∧ tb { D with nx := N, ct := N, bk := D.nx } σ H1 else D.nx σ H1) :
    tWhile c tb D σ H := by
  refine ⟨fun m σ H => m = μ σ H ∧ Pv σ H, ⟨_, rfl, h0⟩, ?_⟩
  rintro m σ H ⟨rfl, p⟩
  exact hs σ H p
/-- math.isqrt below 2 ^ 64 -/
def rIsqrt : List V → Hp → VK → Prop := fun vs H Q => ∃ a : Int, vs = [.int a] ∧ 0 ≤ a ∧ a < 2 ^ 64 ∧ Q (.int ((Float64.isqrt a.toNat : Nat) : Int)) H
theorem cr_isqrt {X : Cx} : CallR X (.builtin "math.isqrt") rIsqrt := by
  intro pins s σ H vs us Q I r h
  obtain ⟨a, rfl, h0, h1, q⟩ := h
  obtain ⟨u, rfl, t, rfl⟩ := vals1 r
  exact PySem.W.mg_isqrt h0 h1 ⟨.int _, H, I.tok _, ⟨_, rfl⟩, q⟩
/-- the built-ins of the text -/
structure Bi (mg : Str → Option Value) : Prop where
  abs : mg "abs" = none
  bool : mg "bool" = none
  comb : mg "comb" = some (.builtin "math.comb")
  enumerate : mg "enumerate" = none
  gcd : mg "gcd" = some (.builtin "math.gcd")
  int : mg "int" = none
  int_ : mg "int" = none
  isinstance : mg "isinstance" = none
  isqrt : mg "isqrt" = some (.builtin "math.isqrt")
  len : mg "len" = none
  len_ : mg "len" = none
  list : mg "list" = none
  max_ : mg "max" = none
  min_ : mg "min" = none
  range : mg "range" = none
  repr : mg "repr" = none
  tuple : mg "tuple" = none
/-- math.comb of ints from 0 to 18000 -/
def rComb : List V → Hp → VK → Prop := fun vs H Q => ∃ a b : Int, vs = [.int a, .int b] ∧ 0 ≤ a ∧ 0 ≤ b ∧ a ≤ 18000 ∧ Q (.int (PySem.W.mcComb a b)) H
theorem cr_comb {X : Cx} : CallR X (.builtin "math.comb") rComb := by
  intro pins s σ H vs us Q I r h
  obtain ⟨a, b, rfl, h0, h1, h2, q⟩ := h
  obtain ⟨t, u, rfl⟩ := Vals.int2 r
  exact PySem.W.mc_comb h0 h1 (by omega) (.inr h2) fun _ => ⟨.int _, H, I.tok _, ⟨_, rfl⟩, q⟩
end Ft

namespace Ft
open PySem L2
def top (i : Nat) : Stmt := PySem.Challenge.pw_firstterms_k07_whole_sums_of_powers_by_b.main.body.getD i (.Pass ⟨0, 0, 0, 0⟩)
abbrev s_is_integer : Stmt := top 6
abbrev N_is_integer : List Str := ["thing"]
theorem sc_is_integer : FnScope N_is_integer ["thing"] (defScope s_is_integer) := ⟨rfl, rfl, rfl, by decide +kernel, rfl, by decide +kernel, by decide +kernel⟩
abbrev s_is_between : Stmt := top 7
abbrev N_is_between : List Str := ["thing", "least", "most"]
theorem sc_is_between : FnScope N_is_between ["thing", "least", "most"] (defScope s_is_between) := ⟨rfl, rfl, rfl, by decide +kernel, rfl, by decide +kernel, by decide +kernel⟩
abbrev s_check_integer : Stmt := top 8
abbrev N_check_integer : List Str := ["thing"]
theorem sc_check_integer : FnScope N_check_integer ["thing"] (defScope s_check_integer) := ⟨rfl, rfl, rfl, by decide +kernel, rfl, by decide +kernel, by decide +kernel⟩
abbrev s_check_between : Stmt := top 9
abbrev N_check_between : List Str := ["thing", "least", "most"]
theorem sc_check_between : FnScope N_check_between ["thing", "least", "most"] (defScope s_check_between) := ⟨rfl, rfl, rfl, by decide +kernel, rfl, by decide +kernel, by decide +kernel⟩
abbrev s_lowest_terms : Stmt := top 11
abbrev N_lowest_terms : List Str := ["top", "bottom", "common"]
theorem sc_lowest_terms : FnScope N_lowest_terms ["top", "bottom"] (defScope s_lowest_terms) := ⟨rfl, rfl, rfl, by decide +kernel, rfl, by decide +kernel, by decide +kernel⟩
abbrev s_number_sum : Stmt := top 12
abbrev N_number_sum : List Str := ["one", "other"]
theorem sc_number_sum : FnScope N_number_sum ["one", "other"] (defScope s_number_sum) := ⟨rfl, rfl, rfl, by decide +kernel, rfl, by decide +kernel, by decide +kernel⟩
abbrev s_number_product : Stmt := top 13
abbrev N_number_product : List Str := ["one", "other"]
theorem sc_number_product : FnScope N_number_product ["one", "other"] (defScope s_number_product) := ⟨rfl, rfl, rfl, by decide +kernel, rfl, by decide +kernel, by decide +kernel⟩
abbrev s_raised : Stmt := top 14
abbrev N_raised : List Str := ["base", "exponent", "result", "square"]
theorem sc_raised : FnScope N_raised ["base", "exponent"] (defScope s_raised) := ⟨rfl, rfl, rfl, by decide +kernel, rfl, by decide +kernel, by decide +kernel⟩
abbrev s_is_sign : Stmt := top 16
abbrev N_is_sign : List Str := ["thing"]
theorem sc_is_sign : FnScope N_is_sign ["thing"] (defScope s_is_sign) := ⟨rfl, rfl, rfl, by decide +kernel, rfl, by decide +kernel, by decide +kernel⟩
abbrev s_check_sign : Stmt := top 17
abbrev N_check_sign : List Str := ["sign"]
theorem sc_check_sign : FnScope N_check_sign ["sign"] (defScope s_check_sign) := ⟨rfl, rfl, rfl, by decide +kernel, rfl, by decide +kernel, by decide +kernel⟩
abbrev s_sign_at : Stmt := top 18
abbrev N_sign_at : List Str := ["sign", "n"]
theorem sc_sign_at : FnScope N_sign_at ["sign", "n"] (defScope s_sign_at) := ⟨rfl, rfl, rfl, by decide +kernel, rfl, by decide +kernel, by decide +kernel⟩
abbrev s_value_at : Stmt := top 19
abbrev N_value_at : List Str := ["sign", "n", "rest", "value"]
theorem sc_value_at : FnScope N_value_at ["sign", "n"] (defScope s_value_at) := ⟨rfl, rfl, rfl, by decide +kernel, rfl, by decide +kernel, by decide +kernel⟩
abbrev s_value_at_two : Stmt := top 20
abbrev N_value_at_two : List Str := ["sign"]
theorem sc_value_at_two : FnScope N_value_at_two ["sign"] (defScope s_value_at_two) := ⟨rfl, rfl, rfl, by decide +kernel, rfl, by decide +kernel, by decide +kernel⟩
abbrev s_value_at_odd : Stmt := top 21
abbrev N_value_at_odd : List Str := ["top", "bottom", "value"]
theorem sc_value_at_odd : FnScope N_value_at_odd ["top", "bottom"] (defScope s_value_at_odd) := ⟨rfl, rfl, rfl, by decide +kernel, rfl, by decide +kernel, by decide +kernel⟩
abbrev s_any_sign_of : Stmt := top 22
abbrev N_any_sign_of : List Str := ["m", "bare"]
theorem sc_any_sign_of : FnScope N_any_sign_of ["m"] (defScope s_any_sign_of) := ⟨rfl, rfl, rfl, by decide +kernel, rfl, by decide +kernel, by decide +kernel⟩
abbrev s_without_squares : Stmt := top 23
abbrev N_without_squares : List Str := ["m", "rest", "bare", "p", "root"]
theorem sc_without_squares : FnScope N_without_squares ["m"] (defScope s_without_squares) := ⟨rfl, rfl, rfl, by decide +kernel, rfl, by decide +kernel, by decide +kernel⟩
abbrev s_bernoulli : Stmt := top 25
abbrev N_bernoulli : List Str := ["k", "sign", "size", "total", "i", "plain", "top"]
theorem sc_bernoulli : FnScope N_bernoulli ["k", "sign"] (defScope s_bernoulli) := ⟨rfl, rfl, rfl, by decide +kernel, rfl, by decide +kernel, by decide +kernel⟩
abbrev s_plain_numbers : Stmt := top 26
abbrev N_plain_numbers : List Str := ["k", "numbers", "n", "total", "i", "plain"]
theorem sc_plain_numbers : FnScope N_plain_numbers ["k"] (defScope s_plain_numbers) := ⟨rfl, rfl, rfl, by decide +kernel, rfl, by decide +kernel, by decide +kernel⟩
abbrev s_power_sum : Stmt := top 27
abbrev N_power_sum : List Str := ["sign", "e", "total", "a"]
theorem sc_power_sum : FnScope N_power_sum ["sign", "e"] (defScope s_power_sum) := ⟨rfl, rfl, rfl, by decide +kernel, rfl, by decide +kernel, by decide +kernel⟩
abbrev s__law_deck : Stmt := top 29
abbrev N__law_deck : List Str := ["_law_script", "_law_mixed", "_law_cell"]
theorem sc__law_deck : FnScope N__law_deck ["_law_script"] (defScope s__law_deck) := ⟨rfl, rfl, rfl, by decide +kernel, rfl, by decide +kernel, by decide +kernel⟩
abbrev s__law_draw : Stmt := top 30
abbrev N__law_draw : List Str := ["_law_deck_here", "_law_many", "_law_number", "_law_cell"]
theorem sc__law_draw : FnScope N__law_draw ["_law_deck_here", "_law_many"] (defScope s__law_draw) := ⟨rfl, rfl, rfl, by decide +kernel, rfl, by decide +kernel, by decide +kernel⟩
abbrev s__law_pick : Stmt := top 31
abbrev N__law_pick : List Str := ["_law_deck_here", "_law_some"]
theorem sc__law_pick : FnScope N__law_pick ["_law_deck_here", "_law_some"] (defScope s__law_pick) := ⟨rfl, rfl, rfl, by decide +kernel, rfl, by decide +kernel, by decide +kernel⟩
abbrev s__law_is_sign : Stmt := top 32
abbrev N__law_is_sign : List Str := ["_law_number", "_law_m", "_law_k"]
theorem sc__law_is_sign : FnScope N__law_is_sign ["_law_number"] (defScope s__law_is_sign) := ⟨rfl, rfl, rfl, by decide +kernel, rfl, by decide +kernel, by decide +kernel⟩
abbrev s__law_sign : Stmt := top 33
abbrev N__law_sign : List Str := ["_law_deck_here", "_law_start", "_law_step"]
theorem sc__law_sign : FnScope N__law_sign ["_law_deck_here"] (defScope s__law_sign) := ⟨rfl, rfl, rfl, by decide +kernel, rfl, by decide +kernel, by decide +kernel⟩
abbrev s__law_at_prime : Stmt := top 34
abbrev N__law_at_prime : List Str := ["_law_sign_here", "_law_p", "_law_x"]
theorem sc__law_at_prime : FnScope N__law_at_prime ["_law_sign_here", "_law_p"] (defScope s__law_at_prime) := ⟨rfl, rfl, rfl, by decide +kernel, rfl, by decide +kernel, by decide +kernel⟩
abbrev s__law_values : Stmt := top 35
abbrev N__law_values : List Str := ["_law_sign_here", "_law_found", "_law_n", "_law_p", "_law_least"]
theorem sc__law_values : FnScope N__law_values ["_law_sign_here"] (defScope s__law_values) := ⟨rfl, rfl, rfl, by decide +kernel, rfl, by decide +kernel, by decide +kernel⟩
abbrev s__law_power : Stmt := top 36
abbrev N__law_power : List Str := ["_law_x", "_law_k", "_law_found", "_law_turn"]
theorem sc__law_power : FnScope N__law_power ["_law_x", "_law_k"] (defScope s__law_power) := ⟨rfl, rfl, rfl, by decide +kernel, rfl, by decide +kernel, by decide +kernel⟩
abbrev s__law_is_number : Stmt := top 37
abbrev N__law_is_number : List Str := ["_law_thing", "_law_x", "_law_one", "_law_other"]
theorem sc__law_is_number : FnScope N__law_is_number ["_law_thing"] (defScope s__law_is_number) := ⟨rfl, rfl, rfl, by decide +kernel, rfl, by decide +kernel, by decide +kernel⟩
abbrev s__law_end : Stmt := top 38
abbrev N__law_end : List Str := ["_law_numbers", "_law_k", "_law_end_here", "_law_total", "_law_ways", "_law_i", "_law_top", "_law_bottom", "_law_share"]
theorem sc__law_end : FnScope N__law_end ["_law_numbers", "_law_k", "_law_end_here"] (defScope s__law_end) := ⟨rfl, rfl, rfl, by decide +kernel, rfl, by decide +kernel, by decide +kernel⟩
abbrev s__law_is_equal : Stmt := top 39
abbrev N__law_is_equal : List Str := ["_law_number", "_law_whole"]
theorem sc__law_is_equal : FnScope N__law_is_equal ["_law_number", "_law_whole"] (defScope s__law_is_equal) := ⟨rfl, rfl, rfl, by decide +kernel, rfl, by decide +kernel, by decide +kernel⟩
abbrev s__law_is_kummer : Stmt := top 40
abbrev N__law_is_kummer : List Str := ["_law_p", "_law_k", "_law_one", "_law_other", "_law_tops", "_law_bottoms", "_law_at", "_law_turn"]
theorem sc__law_is_kummer : FnScope N__law_is_kummer ["_law_p", "_law_k"] (defScope s__law_is_kummer) := ⟨rfl, rfl, rfl, by decide +kernel, rfl, by decide +kernel, by decide +kernel⟩
abbrev s_law : Stmt := top 41
abbrev N_law : List Str := ["_law_script", "_law_deck_here", "_law_sign_here", "_law_k", "_law_periods", "_law_size", "_law_values_here", "_law_a", "_law_i", "_law_numbers", "_law_number", "_law_total", "_law_at", "_law_turn", "_law_p", "_law_even"]
theorem sc_law : FnScope N_law ["_law_script"] (defScope s_law) := ⟨rfl, rfl, rfl, by decide +kernel, rfl, by decide +kernel, by decide +kernel⟩
end Ft

/-! Defs that are called where no repr is under way (A.guards = some []): their texts may say repr of a list or a tuple. -/
namespace Ft
open PySem L2 PySem.Spec PyProof.Rows

structure FnG (P : Program) (w : World) (K : PySem.W.Frag) (mg : Str → Option Value) (base : Heap) (k : Nat) (f : Addr) (fd : FuncData) (ps : List Str) (sp : Sp) : Prop where
  len : ∀ vs H Q E, sp vs H Q E → vs.length = ps.length
  go : ∀ (A : Around) (outer : List Env) (s : Shared) (H : Hp) (args : Args) (us : List Value) (vs : List V) (Q : VK) (E : XK), A.guards = some [] → Room k A →
    Env0 P w K mg base A outer s H → BindsTo s fd args (ps.zip us) → Vals vs us → sp vs H Q E → codeAny (model P w) A (.call (.ref f) args) (CR CX0 outer P w H s Q E) s
theorem FnG.of {P : Program} {w : World} {K : PySem.W.Frag} {mg : Str → Option Value} {base : Heap} {k : Nat} {f : Addr} {fd : FuncData} {ps : List Str} {sp : Sp} (F : FnOk P w K mg base CX0 k f fd ps sp) : FnG P w K mg base k f fd ps sp :=
  ⟨F.len, fun A outer s H args us vs Q E _ => F.run A outer s H args us vs Q E⟩
/-- what may be called for, where no repr is under way -/
structure CalG (P : Program) (w : World) (K : PySem.W.Frag) (mg : Str → Option Value) (base : Heap) (k : Nat) (x : Str) (sp : Sp) : Prop where
  ex : ∃ (f : Addr) (fd : FuncData) (ps : List Str), FnG P w K mg base k f fd ps sp ∧ mg x = some (.ref f) ∧ PySem.W.keepIn K (.ref f) = true ∧ Binds K fd ps []
section
variable {X : Cx} {k j : Nat} {x : Str} {sp : Sp} {p pos : Pos} {e : Expr} {es : List Expr} {t : TA}
theorem pe_g (c : CalG X.prog X.w X.K X.mg X.base k x sp) (hgd : X.A.guards = some []) (hr : Room j X.A) (hk : k ≤ j) (hg : Gl X x) (ha : PA X (e :: es) t)
    (hdb : (x == ("__debug__" : Str)) = false := by decide) (he : starEach (e :: es) X.env = (false, eval e X.env) :: starEach es X.env := by rfl) (hpl : (backTo pos (starEach es X.env)).any (·.1) = false := by rfl) :
    PE X (.Call (.Name x p) (e :: es) [] pos) (tCall sp [] E0 t) := by
  obtain ⟨f, fd, ps, F, hm, kp, b⟩ := c.ex
  refine ⟨fun pins s σ H Q I h => wpAny_Call_Name_kw (ld_glob I hg hm ?_ hdb)⟩
  refine PySem.W.callWith_K (h₀ := X.base) I.ok.mod.kin kp (thn (ha.run pos pins s σ H _ I h) fun us s1 ⟨vs, H1, I1, rv, q1⟩ => ⟨I1.kIn, ?_⟩) he hpl
  have rv' : Vals (vs ++ []) us := by rw [List.append_nil]; exact rv
  have hl : us.length = ps.length := by
    have z := F.len _ _ _ _ q1
    rw [rv'.length] at z
    exact z
  have bd := b s1 us I1.kIn (by rw [List.append_nil]; exact hl)
  rw [List.append_nil] at bd
  refine wpAny_call (codeAny_mono (F.go X.A X.stack s1 H1 ⟨us, []⟩ us (vs ++ []) Q E0 hgd (hr.mono hk) I1.env0 bd rv' q1) fun r s2 hq => ?_)
  match r, hq with
  | .error _, hq => exact (hq : False).elim
  | .ok (.ret _), hq => exact I1.after hq
  | .ok .next, hq => exact (hq : False).elim
  | .ok .brk, hq => exact (hq : False).elim
  | .ok .cont, hq => exact (hq : False).elim
end
/-- a def by its body, where no repr is under way -/
theorem fun_g {P : Program} {w : World} {K : PySem.W.Frag} {mg : Str → Option Value} {base : Heap} {x qual : Str} {st : Stmt} {f : Addr} {fd : FuncData} {N ps : List Str} {k : Nat} {sp : Sp} (F : Fun K x qual st f fd) (S : FnScope N ps (defScope st))
    (len : ∀ vs H Q E, sp vs H Q E → vs.length = ps.length)
    (body : ∀ (cdv : Value) (A : Around) (outer : List Env) (s : Shared) (H : Hp) (vs : List V) (Q : VK) (E : XK), (A.deeper (envOfC qual (defScope st) s.heap.objs.size f cdv)).guards = some [] →
      Room k (A.deeper (envOfC qual (defScope st) s.heap.objs.size f cdv)) → sp vs H Q E →
      ∃ t, PSs (cxOf CX0 P w K mg base N qual (defScope st) f cdv A outer s H E).nox (defBody st) t ∧ t { nx := fun _ H' => Q .non H', rt := Q } (start N vs) H) : FnG P w K mg base (k + 1) f fd ps sp := by
  obtain ⟨oc, od, kV, doc, pm, an, cdv, ct, osl, rfl, lk, hcd⟩ := F.ex
  refine ⟨len, fun A outer s H args us vs Q E hgd hr e0 hb rv hsp => ?_⟩
  have inK : K.In s.heap := e0.mod.kin.keeps fun b o e => (e0.bs b o e).1
  have noL : s.heap.NoLimit := e0.mod.nolimit.keeps fun b o e => (e0.bs b o e).1
  have kinds : ∀ y ∈ ps.zip us, (defScope st).names.lookup y.1 = some .local ∨ ((defScope st).names.lookup y.1 = some .cell ∧ ((cellsFrom (s.heap.objs.size + 1) (defScope st).names []).lookup y.1).isSome = true) := by
    intro y hy
    rcases S.par y.1 (List.of_mem_zip hy).1 with q | q
    · exact .inl q
    · exact .inr ⟨q, PySem.W.cellsFrom_some _ _ _ (.inl q)⟩
  refine codeAny_call_function hr.depth (inK _ _ lk) rfl S.co S.gen rfl (PySem.W.codeRec_of inK hcd) (hb _ _ _ _ ?_)
  refine wpAny_newFunctionEnv_cells S.kind kinds fun env he s1 made => ?_
  subst he
  refine ⟨noL.keeps made.toInCall.keep, codeAny_func ?_⟩
  obtain ⟨t, ht, hq⟩ := body cdv A outer s H vs Q E hgd (hr.deeper _) hsp
  have J0 : Inv (cxOf CX0 P w K mg base N qual (defScope st) f cdv A outer s H E) [] (start N vs) H s1 := inv_start S hr.hd e0 (len _ _ _ _ hsp) rv made
  refine wpAny_mono (ht.nox.run [] s1 (start N vs) H _ J0 hq) (fun fl s' hs => ?_) fun _ _ hs => hs
  match fl, hs with
  | .ret u, hs =>
    obtain ⟨v, σ', H', J, rv', q⟩ := hs
    exact ⟨v, H', J.os, J.bare, J.base, J.hok, rv', q⟩
  | .next, hs =>
    obtain ⟨σ', H', J, q⟩ := hs
    exact ⟨V.non, H', J.os, J.bare, J.base, J.hok, rfl, q⟩
  | .brk, hs => exact (hs.choose_spec.choose_spec.2 : False).elim
  | .cont, hs => exact (hs.choose_spec.choose_spec.2 : False).elim
end Ft

/-! The law's call, from a promise that holds where no repr is under way. -/
namespace Ft
open PySem L2 PySem.Spec PyProof.Rows

/-- the heap behind the top, seen with the script tracked (or nothing) -/
theorem call_of {P : Program} {w : World} {K : PySem.W.Frag} {mg mb : Str → Option Value} {k : Nat} {fa a : Addr} {fd : FuncData} {x : Str} {sp : Sp} {s1 : Shared} {vs : List Value} {H : Hp}
    (inK : K.In s1.heap) (hns : s1.heap.Ns mainGlobals mg) (hb : s1.heap.Ns builtinsNs mb) (hbb : ∀ x : Str, x ≠ "__name__" → mb x = bootBuiltins x) (hlim : s1.heap.NoLimit) (hg : s1.gens = #[])
    (ha : s1.heap.get? a = some { cls := .type "list", data := .seq vs.toArray }) (hr : Room k callerA)
    (F : ∀ base : Heap, K.In base → base.Ns mainGlobals mg → FnG P w K mg base k fa fd [x] sp) (hbind : ∀ (s : Shared) (u : Value), BindsTo s fd ⟨[u], []⟩ [(x, u)])
    (hO : Only H) (hp : sp [.ref a] H (fun v _ => v = .bl true) fun _ _ _ => False) (hok : HOk P w H s1.heap) (only : ∀ b, H b ≠ none → b = a) (notK : H a ≠ none → K.lookup a = none) :
    codeAny (model P w) callerA (.call (.ref fa) ⟨[.ref a], []⟩) (fun r s2 => r = .ok (.ret (.bool true)) ∧ OldK s1.heap s2.heap ∧ s2.os = s1.os ∧ AllBare s2.gens) s1 := by
  have below : ∀ {b : Addr} {o : Obj}, s1.heap.get? b = some o → H b = none → (hidT s1.heap H).get? b = some o := fun e n => hidT_get e n
  have dictFree : ∀ {b : Addr} {o : Obj} {es : Array DictEntry} {ep : Nat}, s1.heap.get? b = some o → o.data = .dict es ep → H b = none := by
    intro b o es ep e d
    cases q : H b with
    | none => rfl
    | some z =>
      obtain rfl : b = a := only b (fun n => by rw [n] at q; cases q)
      rw [ha] at e
      cases e
      exact absurd (show Data.seq vs.toArray _ = Data.dict es ep from d) (fun z => by cases z)
  have spaces : ∀ {b : Addr} {m : Str → Option Value}, s1.heap.Ns b m → (hidT s1.heap H).Ns b m := fun {b m} ⟨o, es, ep, e, d, r⟩ => ⟨o, es, ep, below e (dictFree e d), d, r⟩
  have inB : K.In (hidT s1.heap H) := by
    intro b o e
    refine below (inK b o e) ?_
    cases q : H b with
    | none => rfl
    | some z =>
      have nz : H b ≠ none := fun n => by rw [n] at q; cases q
      obtain rfl : b = a := only b nz
      rw [notK nz] at e
      cases e
  have hM : Mod K mg (hidT s1.heap H) := ⟨inB, spaces hns, ⟨mb, spaces hb, hbb⟩, hlim.elim fun mc z => ⟨mc, spaces z.1, z.2⟩⟩
  have noFr : ∀ b ∈ frs ([] : List Env), H b = none := fun b z => absurd (show b ∈ ([] : List Addr) from z) List.not_mem_nil
  have e0 : Env0 P w K mg (hidT s1.heap H) callerA [] s1 H := ⟨rfl, hM, fun b o e => of_hidT e, Nat.le_of_eq (hidT_size _ _), trivial, noFr, hok, .of_eq hg⟩
  refine codeAny_mono ((F _ inB (spaces hns)).go callerA [] s1 H ⟨[.ref a], []⟩ [.ref a] [.ref a] _ _ rfl hr e0 (hbind s1 (.ref a)) (.cons rfl .nil) hp) fun r s2 h => ?_
  match r, h with
  | .error _, h => exact (h : False).elim
  | .ok .next, h => exact (h : False).elim
  | .ok .brk, h => exact (h : False).elim
  | .ok .cont, h => exact (h : False).elim
  | .ok (.ret u), h =>
    obtain ⟨v, H2, os, bare, un, hok2, rv, q⟩ := h
    obtain rfl : v = .bl true := q
    obtain rfl : u = Value.bool true := rv
    refine ⟨rfl, OldK.of_keep fun b o e => ?_, os, bare⟩
    cases q : H b with
    | none => exact un.keep b o e q (fun z => absurd (show b ∈ ([] : List Addr) from z) List.not_mem_nil) List.not_mem_nil
    | some z =>
      rcases hO b with n | ⟨ob, xs, y⟩
      · rw [q] at n; cases n
      · have k1 := (hok b _ y).1
        have k2 := (hok2 b _ (un.frzs b ob _ y)).1
        rw [e] at k1
        cases k1
        exact k2
/-- what k_head leaves, from the law's promise -/
theorem walk_g {l : PySem.W.OpenLaw} {n k : Nat} {q : Program} {loose : List Str} {XP : (Str → Option Value) → Heap → Prop} {YP : World → Heap → Prop} {d : DefRec} {K : Params → PySem.W.Frag} {sp : PySem.W.Frag → Sp} {x : Str}
    (hn : l.most = some n) (hn2 : n ≤ sizeLine) (hdf : d.params.defaults = []) (hr : Room k callerA)
    (hY : ∀ (w : World) (h : Heap), YP w h → (K w.params).In h)
    (F : ∀ (w : World) (mg : Str → Option Value) (fa : Addr) (h : Heap), (K w.params).In h → h.Ns mainGlobals mg → mg d.name = some (.ref fa) →
      ∃ fd : FuncData, (∀ (s : Shared) (u : Value), BindsTo s fd ⟨[u], []⟩ [(x, u)]) ∧
        ∀ base : Heap, (K w.params).In base → base.Ns mainGlobals mg → FnG l.prog w (K w.params) mg base k fa fd [x] (sp (K w.params)))
    (hsp : ∀ (K : PySem.W.Frag) (H : Hp) (a : Addr) (ns : List Int), ns.length ≤ n → SqL K H a (ns.map V.int) → sp K [.ref a] H (fun v _ => v = .bl true) fun _ _ _ => False) :
    PySem.W.WalkO q loose XP YP l.row.toRowW d [] (fun f vs => PySem.call f vs) := by
  refine Att.attach_call hn hdf fun w s0 s1 mg mb fa o pm cd doc a vs ns G Y ho hd hcd hmg hobj hints hlen hg => ?_
  have inK := hY w _ Y
  obtain ⟨fd, hb, hF⟩ := F w mg fa _ inK G.T.g hmg
  have rv := vals_ints hints
  have lv := hints.length
  have main := fun (H : Hp) (hO : Only H) (hS : SqL (K w.params) H a (ns.map V.int)) => call_of (H := H) inK G.T.g G.T.b G.T.builtins G.T.nolimit hg hobj hr hF hb hO (hsp (K w.params) H a ns hlen hS)
  cases hk : (K w.params).lookup a with
  | some ob =>
    have e := inK a ob hk
    rw [hobj] at e
    cases e
    have none_ : ∀ {b : Addr} {z : HO}, (fun _ => none : Hp) b = some z → False := fun z => by cases z
    exact main (fun _ => none) (fun _ => .inl rfl) (.inr ⟨_, vs.toArray, _, hk, rfl, rfl, rfl, by rw [List.size_toArray, lv]; exact Nat.le_trans hlen hn2, by simpa using rv⟩) (fun b z y => (none_ (b := b) y).elim) (fun b z => absurd rfl z) fun z => absurd rfl z
  | none =>
    let ob : Obj := { cls := .type "list", data := .seq vs.toArray }
    have at_a : ∀ {b : Addr}, b = a → (fun b => if b = a then some (HO.frz ob (.lst (ns.map V.int))) else none : Hp) b = some (.frz ob (.lst (ns.map V.int))) := fun h => if_pos h
    have off_a : ∀ {b : Addr}, ¬ b = a → (fun b => if b = a then some (HO.frz ob (.lst (ns.map V.int))) else none : Hp) b = none := fun h => if_neg h
    refine main (fun b => if b = a then some (.frz ob (.lst (ns.map V.int))) else none) (fun b => ?_) (.inl (.inr ⟨ob, at_a rfl⟩)) (fun b u z => ?_) (fun b z => ?_) fun _ => hk
    · exact (Decidable.em (b = a)).elim (fun h => .inr ⟨_, _, at_a h⟩) fun h => .inl (off_a h)
    · by_cases h : b = a
      · have y := (at_a h).symm.trans z
        cases y
        subst h
        exact ⟨hobj, by rw [List.length_map]; exact Nat.le_trans hlen hn2, vs, _, rv, hobj⟩
      · exact absurd ((off_a h).symm.trans z) (fun y => by cases y)
    · exact (Decidable.em (b = a)).elim id fun h => absurd (off_a h) z
end Ft

/-! repr of data; the deck of draws -/
namespace Ft
open PySem L2 PySem.Spec PyProof.Rows

def rRepr (K : PySem.W.Frag) : List V → Hp → VK → Prop := fun xs H Q => ∃ a d, xs = [.ref a] ∧ Dp K H (.ref a) d ∧ d.showable = true ∧ d.hasDict = false ∧ d.depth ≤ 64 ∧ d.shown.length ≤ sizeLine ∧ Q (.str d.shown) H
theorem call_repr {X : Cx} {k : Nat} (hgd : X.A.guards = some []) (hr : Room k X.A) : CallR X (.builtin "repr") (rRepr X.K) := by
  intro pins s σ H xs us Q I r h
  obtain ⟨a, d, rfl, hd, h1, h2, h3, h4, q⟩ := h
  obtain ⟨u, rfl, rx⟩ := vals1 r
  obtain ⟨as, rd⟩ := Dp.reads I d (.ref a) u hd rx
  obtain rfl : u = Value.ref a := rx
  exact repr_of_reads' rd h1 (fun z => by rw [h2] at z; cases z) hgd (by have := hr.un; omega) (fun _ _ e => e) (fun h' u tk kept => ⟨.str d.shown, H, I.kept kept, ⟨_, rfl⟩, q⟩) h4

/-! ### the deck -/
def kCells : Key := .inr "cells"
def kMixed : Key := .inr "mixed"
def kDraws : Key := .inr "draws"
theorem ncm : ¬ kCells = kMixed := by decide +kernel
theorem ncd : ¬ kCells = kDraws := by decide +kernel
theorem nmd : ¬ kMixed = kDraws := by decide +kernel
theorem nmc : ¬ kMixed = kCells := by decide +kernel
theorem ndc : ¬ kDraws = kCells := by decide +kernel
def deckL (l : Addr) (mx dr : Int) : List (Key × V) := [(kCells, .ref l), (kMixed, .int mx), (kDraws, .int dr)]
theorem deck_cells {l : Addr} {mx dr : Int} : valV (deckL l mx dr) kCells = some (.ref l) := valV_pos rfl
theorem deck_mixed {l : Addr} {mx dr : Int} : valV (deckL l mx dr) kMixed = some (.int mx) := by
  unfold deckL
  rw [valV_neg ncm]
  exact valV_pos rfl
theorem deck_draws {l : Addr} {mx dr : Int} : valV (deckL l mx dr) kDraws = some (.int dr) := by
  unfold deckL
  rw [valV_neg ncd, valV_neg nmd]
  exact valV_pos rfl
theorem deck_put {l : Addr} {mx dr z : Int} : putK (deckL l mx dr) kDraws (.int z) = deckL l mx z := by
  unfold putK deckL
  rw [if_pos (by simp)]
  simp only [List.map_cons, List.map_nil, if_neg ncd, if_neg nmd, if_true]
/-- a deck at d, its list at l -/
def DeckAt (H : Hp) (d l : Addr) : Prop := ∃ (mx dr : Int) (cs : List Int), H d = some (.dK (deckL l mx dr)) ∧ H l = some (.lst (cs.map V.int)) ∧ cs.length ≤ 63
/-- all that was tracked is as it was, but at d and l -/
def But (d l : Addr) (H H' : Hp) : Prop := ∀ b o, H b = some o → b ≠ d → b ≠ l → H' b = some o
theorem But.refl {d l : Addr} {H : Hp} : But d l H H := fun _ _ h _ _ => h
theorem But.trans {d l : Addr} {H H1 H2 : Hp} (a : But d l H H1) (b : But d l H1 H2) : But d l H H2 := fun c o h h1 h2 => b c o (a c o h h1 h2) h1 h2
theorem But.of {d l : Addr} {H H' : Hp} (s : Same H H') : But d l H H' := fun b o h _ _ => s b o h
theorem Same.upd_new {H : Hp} {p : Addr} {o : HO} (h : H p = none) : Same H (upd H p o) := fun b u e => by rw [upd_ne (ne_of_none e h)]; exact e
theorem DeckAt.same {H H' : Hp} {d l : Addr} (D : DeckAt H d l) (s : Same H H') : DeckAt H' d l := by
  obtain ⟨mx, dr, cs, h1, h2, h3⟩ := D
  exact ⟨mx, dr, cs, s _ _ h1, s _ _ h2, h3⟩
theorem DeckAt.ne {H : Hp} {d l : Addr} (D : DeckAt H d l) : d ≠ l := by
  obtain ⟨mx, dr, cs, h1, h2, h3⟩ := D
  exact ne_of h1 h2 (by intro z; cases z)
/-- a new address is neither -/
theorem DeckAt.new {H : Hp} {d l p : Addr} (D : DeckAt H d l) (h : H p = none) : p ≠ d ∧ p ≠ l := by
  obtain ⟨mx, dr, cs, h1, h2, h3⟩ := D
  exact ⟨fun e => (by rw [e, h1] at h; cases h), fun e => (by rw [e, h2] at h; cases h)⟩
/-- draws: from 0 to below many; the deck stays a deck, all else stays -/
def sp_draw : Sp := fun vs H Q _ => ∃ (d l : Addr) (n : Int), vs = [.ref d, .int n] ∧ DeckAt H d l ∧ 0 < n ∧ n < 2 ^ 64 ∧ ∀ (H' : Hp) (r : Int), DeckAt H' d l → But d l H H' → 0 ≤ r → r < n → Q (.int r) H'
theorem sp_draw_len : ∀ vs H Q E, sp_draw vs H Q E → vs.length = 2 := fun _ _ _ _ ⟨_, _, _, e, _⟩ => by rw [e]; rfl
theorem dp_ints {K : PySem.W.Frag} {H : Hp} : ∀ ns : List Int, DpAll K H (ns.map V.int) (ns.map PyData.int)
  | [] => .nil
  | n :: ns => .cons (.int n) (dp_ints ns)
theorem eqv_nil : ∀ ds : List PyData, PyData.eqv (.list ds) (.list []) = ds.isEmpty
  | [] => rfl
  | _ :: _ => rfl
theorem deck_merge {l : Addr} {mx dr : Int} : mergeK [] (deckL l mx dr) = deckL l mx dr := by
  unfold mergeK deckL
  simp only [List.foldl_cons, List.foldl_nil]
  have h1 : putK ([] : List (Key × V)) kCells (.ref l) = [(kCells, V.ref l)] := rfl
  rw [h1]
  have h2 : putK [(kCells, V.ref l)] kMixed (.int mx) = [(kCells, V.ref l), (kMixed, V.int mx)] := putK_new _ (by rw [valV_neg ncm]; rfl)
  rw [h2]
  exact putK_new _ (by rw [valV_neg ncd, valV_neg nmd]; rfl)
/-- a slice of ints is one -/
theorem cut_ints (ns : List Int) (lo hi : Option Int) : ∃ ms : List Int, cutV (ns.map V.int) lo hi = ms.map V.int ∧ ms.length ≤ ns.length := by
  have hl := cutV_length (ns.map V.int) lo hi
  rw [List.length_map] at hl
  have h : cutV (ns.map V.int) lo hi = ((ns.drop (HT.sIx (ns.map V.int).length 0 lo)).take (HT.sIx (ns.map V.int).length (ns.map V.int).length hi - HT.sIx (ns.map V.int).length 0 lo)).map V.int := by
    unfold cutV
    rw [List.map_take, List.map_drop]
  refine ⟨_, h, ?_⟩
  rw [h, List.length_map] at hl
  exact hl
theorem int_at {ns : List Int} {i : Nat} {v : V} (h : (ns.map V.int)[i]? = some v) : ∃ z, v = .int z ∧ ns[i]? = some z := by
  rw [List.getElem?_map] at h
  cases e : ns[i]? with
  | none => rw [e] at h; cases h
  | some z => rw [e] at h; exact ⟨z, (Option.some.inj h).symm, rfl⟩
def sp_deck (K : PySem.W.Frag) : Sp := fun vs H Q _ => ∃ (a : Addr) (ns : List Int), vs = [.ref a] ∧ SqL K H a (ns.map V.int) ∧ ns.length ≤ 63 ∧ ∀ (H' : Hp) (d l : Addr), DeckAt H' d l → Same H H' → H d = none → H l = none → Q (.ref d) H'
theorem sp_deck_len {K : PySem.W.Frag} : ∀ vs H Q E, sp_deck K vs H Q E → vs.length = 1 := fun _ _ _ _ ⟨_, _, e, _⟩ => by rw [e]; rfl
/-- an item of a list that stands -/
def sp_pick (K : PySem.W.Frag) : Sp := fun vs H Q _ => ∃ (d l p : Addr) (xs : List V), vs = [.ref d, .ref p] ∧ DeckAt H d l ∧ (H p = some (.lst xs) ∧ p ≠ l ∨ H p = some (.tup xs)) ∧ 0 < xs.length ∧ xs.length < 2 ^ 64 ∧
  ∀ (H' : Hp) (v : V), DeckAt H' d l → But d l H H' → v ∈ xs → Q v H'
theorem sp_pick_len {K : PySem.W.Frag} : ∀ vs H Q E, sp_pick K vs H Q E → vs.length = 2 := fun _ _ _ _ ⟨_, _, _, _, e, _⟩ => by rw [e]; rfl
end Ft

namespace Ft
open PySem L2

/-! ### the mirror of the program's defs -/
def valueTwo (s : Int) : Int := if s % 2 = 0 then 0 else if s % 8 = 1 then 1 else -1
/-- a sign as an int: true is 1 -/
def sg (v : Bool) : Int := if v = true then 1 else -1
def halve (b : Nat) : Nat → Nat → Bool → Nat × Bool
  | 0, t, v => (t, v)
  | f + 1, t, v => if t % 2 = 0 then halve b f (t / 2) (if b % 8 = 3 ∨ b % 8 = 5 then !v else v) else (t, v)
def jac : Nat → Nat → Nat → Bool → Nat × Bool
  | 0, _, b, v => (b, v)
  | f + 1, t, b, v => if t = 0 then (b, v) else
    let r := halve b t t v
    jac f (b % r.1) r.1 (if r.1 % 4 = 3 ∧ b % 4 = 3 then !r.2 else r.2)
def valueOdd (top : Int) (b : Nat) : Int :=
  let r := jac b (top % (b : Int)).toNat b true
  if r.1 = 1 then sg r.2 else 0
def twos (z : Int) : Nat → Nat → Int → Nat × Int
  | 0, r, v => (r, v)
  | f + 1, r, v => if r % 2 = 0 then twos z f (r / 2) (v * z) else (r, v)
def valueRest (s : Int) (r : Nat) : Int :=
  if r = 0 then (if s = 1 then 1 else 0) else
    let q := twos (valueTwo s) r r 1
    q.2 * valueOdd s q.1
def valueAt (s n : Int) : Int := valueRest s (n % (s.natAbs : Int)).toNat
def sqs (p : Nat) : Nat → Nat → Nat
  | 0, r => r
  | f + 1, r => if r % (p * p) = 0 then sqs p f (r / (p * p)) else r
def wsq : Nat → Nat → Int → Nat → Nat × Int
  | 0, r, b, _ => (r, b)
  | f + 1, r, b, p => if p * p * p ≤ r then
      let r1 := sqs p r r
      if r1 % p = 0 then wsq f (r1 / p) (b * p) (p + 1) else wsq f r1 b (p + 1)
    else (r, b)
def without (m : Int) : Int :=
  let q := wsq m.natAbs m.natAbs (if 0 < m then 1 else -1) 2
  if Float64.isqrt q.1 * Float64.isqrt q.1 = q.1 then q.2 else q.2 * q.1
def anySign (m : Int) : Int := if without m % 4 = 1 then without m else 4 * without m
def isSign (n : Int) : Bool := decide (-400 ≤ n) && (decide (n ≤ 400) && (decide (n ≠ 0) && decide (anySign n = n)))

/-! ### promises -/
def sp1 (C : Int → Prop) (g : Int → V) : Sp := fun vs H Q _ => ∃ n, vs = [.int n] ∧ C n ∧ Q (g n) H
def sp2 (C : Int → Int → Prop) (g : Int → Int → V) : Sp := fun vs H Q _ => ∃ m n, vs = [.int m, .int n] ∧ C m n ∧ Q (g m n) H
def sp3 (C : Int → Int → Int → Prop) (g : Int → Int → Int → V) : Sp := fun vs H Q _ => ∃ l m n, vs = [.int l, .int m, .int n] ∧ C l m n ∧ Q (g l m n) H
theorem sp1_len {C g} : ∀ vs H Q E, sp1 C g vs H Q E → vs.length = 1 := fun _ _ _ _ ⟨_, e, _⟩ => by rw [e]; rfl
theorem sp2_len {C g} : ∀ vs H Q E, sp2 C g vs H Q E → vs.length = 2 := fun _ _ _ _ ⟨_, _, e, _⟩ => by rw [e]; rfl
theorem sp3_len {C g} : ∀ vs H Q E, sp3 C g vs H Q E → vs.length = 3 := fun _ _ _ _ ⟨_, _, _, e, _⟩ => by rw [e]; rfl
def sp_is_integer : Sp := sp1 (fun _ => True) fun _ => .bl true
def sp_is_between : Sp := sp3 (fun _ _ _ => True) fun n a b => .bl (decide (a ≤ n) && decide (n ≤ b))
def sp_check_integer : Sp := sp1 (fun _ => True) fun _ => .non
def sp_is_sign : Sp := sp1 (fun _ => True) fun n => .bl (isSign n)
def sp_check_sign : Sp := sp1 (fun n => isSign n = true) fun _ => .non
def sp_value_at_two : Sp := sp1 (fun _ => True) fun n => .int (valueTwo n)
def sp_value_at_odd : Sp := sp2 (fun _ b => 0 < b) fun t b => .int (valueOdd t b.toNat)
def sp_value_at : Sp := sp2 (fun s _ => s ≠ 0) fun s n => .int (valueAt s n)
def sp_sign_at : Sp := sp2 (fun s _ => isSign s = true) fun s n => .int (valueAt s n)
def sp_without_squares : Sp := sp1 (fun m => m ≠ 0 ∧ m.natAbs ≤ 160000) fun m => .int (without m)
def sp_any_sign_of : Sp := sp1 (fun m => m ≠ 0 ∧ m.natAbs ≤ 160000) fun m => .int (anySign m)
def sp_joined_sign : Sp := sp2 (fun a b => isSign a = true ∧ isSign b = true) fun a b => .int (anySign (a * b))

section
variable {P : Program} {w : World} {K : PySem.W.Frag} {mg : Str → Option Value} {base : Heap}
theorem ok_is_integer (D : Df K mg "is_integer" s_is_integer ["thing"]) (B : Bi mg)  : Cal P w K mg base 1 "is_integer" sp_is_integer := by
  obtain ⟨f, fd, F, m, b⟩ := D.ex
  have sc := sc_is_integer
  refine ⟨f, fd, _, F.ok sc sp1_len (fun cdv A outer s H vs Q E hr h => ?_), m, F.kp, b⟩
  obtain ⟨n, rfl, _, q⟩ := h
  have hu := hu_of hr
  refine ⟨_, (pss_one (ps_ret (pe_and (pe_callB call_isi (by rfl) B.isinstance (by decide +kernel) (pa_cons (pv 0) (pa_cons (pe_ty (n := "int") (by rfl) B.int_ (by decide +kernel)) pa_nil))) (pe_one (pe_not (pe_callB call_isi (by rfl) B.isinstance (by decide +kernel) (pa_cons (pv 0) (pa_cons (pe_ty (n := "bool") (by rfl) B.bool (by decide +kernel)) pa_nil)))))))), ?_⟩
  refine ⟨_, rfl, _, _, _, _, true, rfl, .ty _, .base (.int n), kit_int_int, true, rfl, iteT ?_⟩
  refine ⟨_, rfl, _, _, _, _, false, rfl, .ty _, .base (.int n), kit_int_bool, false, rfl, ?_⟩
  exact q
theorem ok_is_between (D : Df K mg "is_between" s_is_between ["thing", "least", "most"]) (c_is_integer : Cal P w K mg base 1 "is_integer" sp_is_integer) : Cal P w K mg base 2 "is_between" sp_is_between := by
  obtain ⟨f, fd, F, m, b⟩ := D.ex
  have sc := sc_is_between
  refine ⟨f, fd, _, F.ok sc sp3_len (fun cdv A outer s H vs Q E hr h => ?_), m, F.kp, b⟩
  obtain ⟨n, lo, hi, rfl, _, q⟩ := h
  have hu := hu_of hr
  refine ⟨_, (pss_one (ps_ret (pe_and (pe_c c_is_integer hr (by decide) (by rfl) (pa_cons (pv 0) pa_nil)) (pe_one (pe_chain op_le op_le (pv 1) (pv 0) (pv 2)))))), ?_⟩
  refine ⟨_, rfl, n, rfl, trivial, true, rfl, iteT ?_⟩
  refine ⟨_, rfl, _, rfl, lo, n, rfl, rfl, _, rfl, ?_⟩
  refine ifD (fun h => ?_) fun h => ?_
  · refine ⟨_, rfl, n, hi, rfl, rfl, ?_⟩
    simp only [decide_eq_true h, Bool.true_and] at q
    exact q
  · simp only [decide_eq_false h, Bool.false_and] at q
    exact q
theorem ok_check_integer (D : Df K mg "check_integer" s_check_integer ["thing"]) (c_is_integer : Cal P w K mg base 1 "is_integer" sp_is_integer) : Cal P w K mg base 2 "check_integer" sp_check_integer := by
  obtain ⟨f, fd, F, m, b⟩ := D.ex
  have sc := sc_check_integer
  refine ⟨f, fd, _, F.ok sc sp1_len (fun cdv A outer s H vs Q E hr h => ?_), m, F.kp, b⟩
  obtain ⟨n, rfl, _, q⟩ := h
  refine ⟨_, (pss_one (ps_if (pt_not (pt_val (pe_c c_is_integer hr (by decide) (by rfl) (pa_cons (pv 0) pa_nil))))
      (pss_one ps_never)
      pss_nil)), ?_⟩
  refine ⟨_, rfl, n, rfl, trivial, true, rfl, iteF ?_⟩
  exact q
theorem ok_value_at_two (D : Df K mg "value_at_two" s_value_at_two ["sign"]) : Cal P w K mg base 1 "value_at_two" sp_value_at_two := by
  obtain ⟨f, fd, F, m, b⟩ := D.ex
  have sc := sc_value_at_two
  refine ⟨f, fd, _, F.ok sc sp1_len (fun cdv A outer s H vs Q E hr h => ?_), m, F.kp, b⟩
  obtain ⟨n, rfl, _, q⟩ := h
  refine ⟨_, (pss_cons (ps_if (pt_cmpR op_eq (pe_op op_mod (pv 0) pe_int) pe_int (nomark _))
      (pss_one (ps_ret pe_int))
      pss_nil)
      (pss_one (ps_ret (pe_ifExp (pt_cmpR op_eq (pe_op op_mod (pv 0) pe_int) pe_int (nomark _)) pe_int (pe_un un_neg pe_int))))), ?_⟩
  replace q : Q (.int (valueTwo n)) H := q
  unfold valueTwo at q
  refine ⟨_, rfl, _, _, rfl, rfl, (by show (0 : Int) < 2; decide), rfl, _, rfl, ifI (fun e => ?_) fun e => ?_⟩
  · rw [if_pos e] at q; exact q
  · rw [if_neg e] at q
    refine ⟨_, rfl, _, _, rfl, rfl, (by show (0 : Int) < 8; decide), rfl, _, rfl, ifI (fun e2 => ?_) fun e2 => ?_⟩
    · rw [if_pos e2] at q; exact q
    · rw [if_neg e2] at q; exact ⟨_, rfl, q⟩
end
end Ft

namespace Ft
open PySem L2
theorem sg_not (v : Bool) : -(sg v) = sg (!v) := by cases v <;> decide
theorem sg_true : sg true = 1 := by decide
/-- the int in slot i, as a measure -/
def m0 (i : Nat) (σ : L2.St) : Nat := match σ[i]? with
  | some (some (.int z)) => z.toNat
  | _ => 0
theorem st3 {a b c a' b' c' : Int} (h1 : a = a') (h2 : b = b') (h3 : c = c') : [some (V.int a), some (V.int b), some (V.int c)] = [some (V.int a'), some (V.int b'), some (V.int c')] := by rw [h1, h2, h3]
theorem halve_go {b f t : Nat} {v : Bool} (h : t % 2 = 0) : halve b (f + 1) t v = halve b f (t / 2) (if b % 8 = 3 ∨ b % 8 = 5 then !v else v) := by
  show (if t % 2 = 0 then _ else _) = _
  rw [if_pos h]
theorem halve_stop {b f t : Nat} {v : Bool} (h : ¬ t % 2 = 0) : halve b f t v = (t, v) := by
  cases f with
  | zero => rfl
  | succ f => show (if t % 2 = 0 then _ else _) = _; rw [if_neg h]
theorem jac_stop {b f : Nat} {v : Bool} : jac f 0 b v = (b, v) := by
  cases f with
  | zero => rfl
  | succ f => show (if (0:Nat) = 0 then _ else _) = _; rw [if_pos rfl]
theorem jac_go {b f t t' : Nat} {v v' : Bool} (h : t ≠ 0) (e : halve b t t v = (t', v')) : jac (f + 1) t b v = jac f (b % t') t' (if t' % 4 = 3 ∧ b % 4 = 3 then !v' else v') := by
  show (if t = 0 then _ else _) = _
  rw [if_neg h]
  dsimp only
  rw [e]

section
variable {P : Program} {w : World} {K : PySem.W.Frag} {mg : Str → Option Value} {base : Heap}
theorem ok_value_at_odd (D : Df K mg "value_at_odd" s_value_at_odd ["top", "bottom"]) : Cal P w K mg base 1 "value_at_odd" sp_value_at_odd := by
  obtain ⟨f, fd, F, m, b⟩ := D.ex
  have sc := sc_value_at_odd
  refine ⟨f, fd, _, F.ok sc sp2_len (fun cdv A outer s H vs Q E hr h => ?_), m, F.kp, b⟩
  obtain ⟨t, b0, rfl, hb, q⟩ := h
  replace hb : 0 < b0 := hb
  replace q : Q (.int (valueOdd t b0.toNat)) H := q
  refine ⟨_, (pss_cons (ps_set (i := 2) sc.nd rfl (Or.inl rfl) pe_int)
      (pss_cons (ps_set (i := 0) sc.nd rfl (Or.inl rfl) (pe_op op_mod (pv 0) (pv 1)))
      (pss_cons (ps_while PassesOwn.never (pt_cmpR op_ne (pv 0) pe_int (nomark _))
      (pss_cons (ps_while PassesOwn.never (pt_cmpR op_eq (pe_op op_mod (pv 0) pe_int) pe_int (nomark _))
        (pss_cons (ps_set (i := 0) sc.nd rfl (Or.inl rfl) (pe_op op_fdivW (pv 0) pe_int))
          (pss_one (ps_if (PW.pt (pw_or (pt_cmpR op_eq (pe_op op_mod (pv 1) pe_int) pe_int (nomark _)) (pw_or1 (pt_cmpR op_eq (pe_op op_mod (pv 1) pe_int) pe_int (nomark _)))))
          (pss_one (ps_set (i := 2) sc.nd rfl (Or.inl rfl) (pe_un un_neg (pv 2))))
          pss_nil))))
        (pss_cons (ps_if (PW.pt (pw_and (pt_cmpR op_eq (pe_op op_mod (pv 0) pe_int) pe_int (nomark _)) (pw_and1 (pt_cmpR op_eq (pe_op op_mod (pv 1) pe_int) pe_int (nomark _)))))
        (pss_one (ps_set (i := 2) sc.nd rfl (Or.inl rfl) (pe_un un_neg (pv 2))))
        pss_nil)
        (pss_one (ps_par (i := 0) (j := 1) (by rfl) sc.nd rfl rfl (by decide) rfl rfl (pa_cons (pe_op op_mod (pv 1) (pv 0)) (pa_cons (pv 0) pa_nil)) (by rfl))))))
      (pss_one (ps_ret (pe_ifExp (pt_cmpR op_eq (pv 1) pe_int (nomark _)) (pv 2) pe_int)))))), ?_⟩
  obtain ⟨n0, rfl⟩ : ∃ n : Nat, b0 = n := ⟨b0.toNat, by omega⟩
  have hn : 0 < n0 := by omega
  have hm := Int.emod_nonneg t (b := (n0 : Int)) (by omega)
  have hl := Int.emod_lt_of_pos t hb
  obtain ⟨t0, ht0⟩ : ∃ n : Nat, t % (n0 : Int) = n := ⟨(t % (n0 : Int)).toNat, by omega⟩
  have qe : valueOdd t n0 = if (jac n0 t0 n0 true).1 = 1 then sg (jac n0 t0 n0 true).2 else 0 := by
    unfold valueOdd
    rw [ht0]
    rfl
  rw [Int.toNat_natCast, qe] at q
  refine ⟨_, rfl, _, rfl, _, _, rfl, rfl, hb, ?_⟩
  refine while_go (fun σ H' => H = H' ∧ ∃ (f tn bn : Nat) (v : Bool), σ = [some (.int (tn : Nat)), some (.int (bn : Nat)), some (.int (sg v))] ∧ 0 < bn ∧ tn ≤ f ∧ jac f tn bn v = jac n0 t0 n0 true) (fun σ _ => m0 0 σ)
    ⟨rfl, n0, t0, n0, true, st3 ht0 rfl rfl, hn, by omega, rfl⟩ ?_
  rintro σ _ ⟨rfl, f, tn, bn, v, rfl, hbn, hf, hj⟩
  refine ⟨_, rfl, rfl, _, rfl, ifNI (fun hne => ?_) fun he => ?_⟩
  · have htn : tn ≠ 0 := by omega
    obtain ⟨f', rfl⟩ : ∃ n, f = n + 1 := ⟨f - 1, by omega⟩
    refine ⟨fun σ' H' => H = H' ∧ ∃ (f tn' bn : Nat) (v : Bool), σ' = [some (.int (tn' : Nat)), some (.int (bn : Nat)), some (.int (sg v))] ∧ 0 < bn ∧ tn' ≤ f ∧ jac f tn' bn v = jac n0 t0 n0 true ∧ tn' < tn, ?_, ?_⟩
    · rintro σ' _ ⟨rfl, f2, tn', bn', v', rfl, h1, h2, h3, h4⟩
      exact ⟨_, (by show ((tn' : Int)).toNat < ((tn : Int)).toNat; omega), rfl, rfl, f2, tn', bn', v', rfl, h1, h2, h3⟩
    refine while_go (fun σ H' => H = H' ∧ ∃ (g tm : Nat) (u : Bool), σ = [some (.int (tm : Nat)), some (.int (bn : Nat)), some (.int (sg u))] ∧ 0 < tm ∧ tm ≤ g ∧ tm ≤ tn ∧ halve bn g tm u = halve bn tn tn v) (fun σ _ => m0 0 σ)
      ⟨rfl, tn, tn, v, rfl, by omega, Nat.le_refl _, Nat.le_refl _, rfl⟩ ?_
    rintro σ _ ⟨rfl, g, tm, u, rfl, h1, h2, h2b, h3⟩
    refine ⟨_, rfl, _, _, rfl, rfl, (by show (0 : Int) < 2; decide), rfl, _, rfl, ifI (fun e => ?_) fun e => ?_⟩
    · have e' : tm % 2 = 0 := by omega
      obtain ⟨g', rfl⟩ : ∃ n, g = n + 1 := ⟨g - 1, by omega⟩
      rw [halve_go e'] at h3
      refine ⟨fun σ' H' => H = H' ∧ ∃ (g tm' : Nat) (u : Bool), σ' = [some (.int (tm' : Nat)), some (.int (bn : Nat)), some (.int (sg u))] ∧ 0 < tm' ∧ tm' ≤ g ∧ tm' ≤ tn ∧ halve bn g tm' u = halve bn tn tn v ∧ tm' < tm, ?_, ?_⟩
      · rintro σ' _ ⟨rfl, f2, tn', v', rfl, h1, h2, h2b, h3, h4⟩
        exact ⟨_, (by show ((tn' : Int)).toNat < ((tm : Int)).toNat; omega), rfl, rfl, f2, tn', v', rfl, h1, h2, h2b, h3⟩
      refine ⟨_, rfl, _, _, rfl, rfl, ⟨by decide, by decide⟩, ?_⟩
      have ed : (tm : Int) / 2 = ((tm / 2 : Nat) : Int) := by omega
      refine ⟨_, rfl, _, _, rfl, rfl, (by show (0 : Int) < 8; decide), rfl, _, rfl, ifI (fun e3 => ?_) fun e3 => ?_⟩
      · have c : bn % 8 = 3 ∨ bn % 8 = 5 := by omega
        rw [if_pos c] at h3
        refine iteT ?_
        refine ⟨_, rfl, _, rfl, ?_⟩
        exact ⟨rfl, g', tm / 2, !u, st3 ed rfl (sg_not u), by omega, by omega, by omega, h3, by omega⟩
      · refine ⟨_, rfl, _, _, rfl, rfl, (by show (0 : Int) < 8; decide), rfl, _, rfl, ifI (fun e5 => ?_) fun e5 => ?_⟩
        · have c : bn % 8 = 3 ∨ bn % 8 = 5 := by omega
          rw [if_pos c] at h3
          refine ⟨_, rfl, _, rfl, ?_⟩
          exact ⟨rfl, g', tm / 2, !u, st3 ed rfl (sg_not u), by omega, by omega, by omega, h3, by omega⟩
        · have c : ¬ (bn % 8 = 3 ∨ bn % 8 = 5) := by omega
          rw [if_neg c] at h3
          exact ⟨rfl, g', tm / 2, u, st3 ed rfl rfl, by omega, by omega, by omega, h3, by omega⟩
    · have e' : ¬ tm % 2 = 0 := by omega
      rw [halve_stop e'] at h3
      have hg := jac_go (f := f') (b := bn) htn h3.symm
      rw [hj] at hg
      have hmod : bn % tm < tm := Nat.mod_lt _ h1
      have em : (bn : Int) % (tm : Int) = ((bn % tm : Nat) : Int) := by omega
      refine ⟨_, rfl, _, _, rfl, rfl, (by show (0 : Int) < 4; decide), rfl, _, rfl, ifI (fun e3 => ?_) fun e3 => ?_⟩
      · refine ⟨_, rfl, _, _, rfl, rfl, (by show (0 : Int) < 4; decide), rfl, _, rfl, ifI (fun e4 => ?_) fun e4 => ?_⟩
        · have c : tm % 4 = 3 ∧ bn % 4 = 3 := by omega
          rw [if_pos c] at hg
          refine ⟨_, rfl, _, rfl, ?_⟩
          refine ⟨_, rfl, _, rfl, _, _, rfl, rfl, (by show (0 : Int) < (tm : Int); omega), _, rfl, _, _, rfl, ?_⟩
          exact ⟨rfl, f', _, tm, !u, st3 em rfl (sg_not u), h1, by omega, hg.symm, by omega⟩
        · have c : ¬ (tm % 4 = 3 ∧ bn % 4 = 3) := by omega
          rw [if_neg c] at hg
          refine ⟨_, rfl, _, rfl, _, _, rfl, rfl, (by show (0 : Int) < (tm : Int); omega), _, rfl, _, _, rfl, ?_⟩
          exact ⟨rfl, f', _, tm, u, st3 em rfl rfl, h1, by omega, hg.symm, by omega⟩
      · have c : ¬ (tm % 4 = 3 ∧ bn % 4 = 3) := by omega
        rw [if_neg c] at hg
        refine iteF ?_
        refine ⟨_, rfl, _, rfl, _, _, rfl, rfl, (by show (0 : Int) < (tm : Int); omega), _, rfl, _, _, rfl, ?_⟩
        exact ⟨rfl, f', _, tm, u, st3 em rfl rfl, h1, by omega, hg.symm, by omega⟩
  · have htn : tn = 0 := by omega
    subst htn
    rw [jac_stop] at hj
    rw [← hj] at q
    dsimp only at q
    refine ⟨_, rfl, rfl, _, rfl, ifI (fun e => ?_) fun e => ?_⟩
    · rw [if_pos (by omega)] at q
      exact ⟨_, rfl, q⟩
    · rw [if_neg (by omega)] at q
      exact q
end
end Ft

namespace Ft
open PySem L2
theorem st4 {a b c d a' b' c' d' : Int} (h1 : a = a') (h2 : b = b') (h3 : c = c') (h4 : d = d') : [some (V.int a), some (V.int b), some (V.int c), some (V.int d)] = [some (V.int a'), some (V.int b'), some (V.int c'), some (V.int d')] := by rw [h1, h2, h3, h4]
theorem cdivN {i : Int} {n : Nat} (h0 : 0 < n) (h : n < 2 ^ 64) : CDivW i (n : Int) := wide_div (b := 64) (by omega) (by omega) (by decide) (by decide)
theorem cmulL {i : Int} {n : Nat} (h : n < 2 ^ 64) : CMul (n : Int) i := .inl ⟨by omega, by omega⟩
theorem cmulR {i : Int} {n : Nat} (h : n < 2 ^ 64) : CMul i (n : Int) := .inr ⟨by omega, by omega⟩
theorem twos_go {z : Int} {f r : Nat} {v : Int} (h : r % 2 = 0) : twos z (f + 1) r v = twos z f (r / 2) (v * z) := by
  show (if r % 2 = 0 then _ else _) = _
  rw [if_pos h]
theorem twos_stop {z : Int} {f r : Nat} {v : Int} (h : ¬ r % 2 = 0) : twos z f r v = (r, v) := by
  cases f with
  | zero => rfl
  | succ f => show (if r % 2 = 0 then _ else _) = _; rw [if_neg h]
theorem valueTwo_le (s : Int) : -1 ≤ valueTwo s ∧ valueTwo s ≤ 1 := by
  unfold valueTwo
  split
  · omega
  · split <;> omega
theorem sqs_go {p f r : Nat} (h : r % (p * p) = 0) : sqs p (f + 1) r = sqs p f (r / (p * p)) := by
  show (if r % (p * p) = 0 then _ else _) = _
  rw [if_pos h]
theorem sqs_stop {p f r : Nat} (h : ¬ r % (p * p) = 0) : sqs p f r = r := by
  cases f with
  | zero => rfl
  | succ f => show (if r % (p * p) = 0 then _ else _) = _; rw [if_neg h]
theorem wsq_stop {f r p : Nat} {b : Int} (h : ¬ p * p * p ≤ r) : wsq f r b p = (r, b) := by
  cases f with
  | zero => rfl
  | succ f => show (if p * p * p ≤ r then _ else _) = _; rw [if_neg h]
theorem wsq_go1 {f r p r1 : Nat} {b : Int} (h : p * p * p ≤ r) (e : sqs p r r = r1) (h1 : r1 % p = 0) : wsq (f + 1) r b p = wsq f (r1 / p) (b * p) (p + 1) := by
  show (if p * p * p ≤ r then _ else _) = _
  rw [if_pos h]
  dsimp only
  rw [e, if_pos h1]
theorem wsq_go2 {f r p r1 : Nat} {b : Int} (h : p * p * p ≤ r) (e : sqs p r r = r1) (h1 : ¬ r1 % p = 0) : wsq (f + 1) r b p = wsq f r1 b (p + 1) := by
  show (if p * p * p ≤ r then _ else _) = _
  rw [if_pos h]
  dsimp only
  rw [e, if_neg h1]
theorem cube_le {p r : Nat} (h : p * p * p ≤ r) (hp : 2 ≤ p) : p < r := by
  have h1 : 2 * p ≤ p * p := Nat.mul_le_mul_right p hp
  have h2 : p * p * 2 ≤ p * p * p := Nat.mul_le_mul_left (p * p) hp
  omega
theorem div_small {r q : Nat} (h : r % q = 0) (hr : 0 < r) (hq : 2 ≤ q) : 0 < r / q ∧ r / q < r := by
  refine ⟨?_, Nat.div_lt_self hr hq⟩
  have e := Nat.div_add_mod r q
  rw [h, Nat.add_zero] at e
  refine Nat.pos_of_ne_zero fun z => ?_
  rw [z, Nat.mul_zero] at e
  omega
theorem sq_small {p : Nat} (h : p ≤ 160001) : p * p < 2 ^ 64 := Nat.lt_of_le_of_lt (Nat.mul_le_mul h h) (by decide)
theorem isqrt_le (n : Nat) : Float64.isqrt n ≤ n := by
  have h := (Float64.isqrt_spec n).1
  rcases Nat.eq_zero_or_pos (Float64.isqrt n) with z | z
  · omega
  · exact Nat.le_trans (Nat.le_mul_of_pos_left _ z) h

section
variable {P : Program} {w : World} {K : PySem.W.Frag} {mg : Str → Option Value} {base : Heap}
theorem ok_value_at (D : Df K mg "value_at" s_value_at ["sign", "n"]) (B : Bi mg) (c_value_at_two : Cal P w K mg base 1 "value_at_two" sp_value_at_two) (c_value_at_odd : Cal P w K mg base 1 "value_at_odd" sp_value_at_odd) : Cal P w K mg base 2 "value_at" sp_value_at := by
  obtain ⟨f, fd, F, m, b⟩ := D.ex
  have sc := sc_value_at
  refine ⟨f, fd, _, F.ok sc sp2_len (fun cdv A outer s H vs Q E hr h => ?_), m, F.kp, b⟩
  obtain ⟨z, n, rfl, hz, q⟩ := h
  replace q : Q (.int (valueAt z n)) H := q
  replace hz : z ≠ 0 := hz
  refine ⟨_, (pss_cons (ps_set (i := 2) sc.nd rfl (Or.inl rfl) (pe_op op_mod (pv 1) (pe_callB call_abs (by rfl) B.abs (by decide +kernel) (pa_cons (pv 0) pa_nil))))
      (pss_cons (ps_if (pt_cmpR op_eq (pv 2) pe_int (nomark _))
      (pss_one (ps_ret (pe_ifExp (pt_cmpR op_eq (pv 0) pe_int (nomark _)) pe_int pe_int)))
      pss_nil)
      (pss_cons (ps_set (i := 3) sc.nd rfl (Or.inl rfl) pe_int)
      (pss_cons (ps_while PassesOwn.never (pt_cmpR op_eq (pe_op op_mod (pv 2) pe_int) pe_int (nomark _))
      (pss_cons (ps_set (i := 2) sc.nd rfl (Or.inl rfl) (pe_op op_fdivW (pv 2) pe_int))
        (pss_one (ps_set (i := 3) sc.nd rfl (Or.inl rfl) (pe_op op_mul (pv 3) (pe_c c_value_at_two hr (by decide) (by rfl) (pa_cons (pv 0) pa_nil)))))))
      (pss_one (ps_ret (pe_op op_mul (pv 3) (pe_c c_value_at_odd hr (by decide) (by rfl) (pa_cons (pv 0) (pa_cons (pv 2) pa_nil)))))))))), ?_⟩
  have ea : (if z < 0 then -z else z) = (z.natAbs : Int) := by split <;> omega
  have hp : (0 : Int) < (z.natAbs : Int) := by omega
  have hm := Int.emod_nonneg n (b := (z.natAbs : Int)) (by omega)
  obtain ⟨r, hrr⟩ : ∃ r : Nat, n % (z.natAbs : Int) = r := ⟨(n % (z.natAbs : Int)).toNat, by omega⟩
  unfold valueAt at q
  rw [hrr, Int.toNat_natCast] at q
  unfold valueRest at q
  refine ⟨_, rfl, _, rfl, z, rfl, n, _, rfl, rfl, (by show 0 < (if z < 0 then -z else z); rw [ea]; exact hp), ?_⟩
  have es : n % (if z < 0 then -z else z) = (r : Int) := by rw [ea]; exact hrr
  refine ⟨_, rfl, rfl, _, rfl, ifI (fun e => ?_) fun e => ?_⟩
  · have r0 : r = 0 := by rw [es] at e; omega
    rw [if_pos r0] at q
    refine ⟨_, rfl, rfl, _, rfl, ifI (fun e2 => ?_) fun e2 => ?_⟩
    · rw [if_pos e2] at q; exact q
    · rw [if_neg e2] at q; exact q
  · have r0 : r ≠ 0 := by rw [es] at e; omega
    rw [if_neg r0] at q
    dsimp only at q
    refine while_go (fun σ H' => H = H' ∧ ∃ (g t : Nat) (v : Int), σ = [some (.int z), some (.int n), some (.int (t : Nat)), some (.int v)] ∧ 0 < t ∧ t ≤ g ∧ -1 ≤ v ∧ v ≤ 1 ∧ twos (valueTwo z) g t v = twos (valueTwo z) r r 1) (fun σ _ => m0 2 σ)
      ⟨rfl, r, r, 1, st4 rfl rfl es rfl, by omega, Nat.le_refl _, by decide, by decide, rfl⟩ ?_
    rintro σ _ ⟨rfl, g, t, v, rfl, h1, h2, h3, h4, h5⟩
    refine ⟨_, rfl, _, _, rfl, rfl, (by show (0 : Int) < 2; decide), rfl, _, rfl, ifI (fun e => ?_) fun e => ?_⟩
    · have e' : t % 2 = 0 := by omega
      obtain ⟨g', rfl⟩ : ∃ n, g = n + 1 := ⟨g - 1, by omega⟩
      rw [twos_go e'] at h5
      refine ⟨fun σ' H' => H = H' ∧ ∃ (g t' : Nat) (v : Int), σ' = [some (.int z), some (.int n), some (.int (t' : Nat)), some (.int v)] ∧ 0 < t' ∧ t' ≤ g ∧ -1 ≤ v ∧ v ≤ 1 ∧ twos (valueTwo z) g t' v = twos (valueTwo z) r r 1 ∧ t' < t, ?_, ?_⟩
      · rintro σ' _ ⟨rfl, g2, t', v', rfl, k1, k2, k3, k4, k5, k6⟩
        exact ⟨_, (by show ((t' : Int)).toNat < ((t : Int)).toNat; omega), rfl, rfl, g2, t', v', rfl, k1, k2, k3, k4, k5⟩
      refine ⟨_, rfl, _, _, rfl, rfl, ⟨by decide, by decide⟩, ?_⟩
      have vt := valueTwo_le z
      have hv : -1 ≤ v * valueTwo z ∧ v * valueTwo z ≤ 1 := by
        obtain h | h | h : v = -1 ∨ v = 0 ∨ v = 1 := by omega
        all_goals (rw [h]; omega)
      refine ⟨_, rfl, _, rfl, z, rfl, trivial, _, _, rfl, rfl, .inl ⟨by omega, by omega⟩, ?_⟩
      exact ⟨rfl, g', t / 2, _, rfl, by omega, by omega, hv.1, hv.2, h5, by omega⟩
    · rw [twos_stop (by omega)] at h5
      rw [← h5] at q
      dsimp only at q
      refine ⟨_, rfl, _, rfl, _, rfl, z, _, rfl, (by show (0 : Int) < (t : Int); omega), _, _, rfl, rfl, .inl ⟨by omega, by omega⟩, ?_⟩
      exact q
theorem ok_without_squares (D : Df K mg "without_squares" s_without_squares ["m"]) (B : Bi mg)  : Cal P w K mg base 1 "without_squares" sp_without_squares := by
  obtain ⟨f, fd, F, m, b⟩ := D.ex
  have sc := sc_without_squares
  refine ⟨f, fd, _, F.ok sc sp1_len (fun cdv A outer s H vs Q E hr h => ?_), m, F.kp, b⟩
  obtain ⟨z, rfl, ⟨hz, hz2⟩, q⟩ := h
  replace q : Q (.int (without z)) H := q
  refine ⟨_, (pss_cons (ps_set (i := 1) sc.nd rfl (Or.inl rfl) (pe_callB call_abs (by rfl) B.abs (by decide +kernel) (pa_cons (pv 0) pa_nil)))
      (pss_cons (ps_set (i := 2) sc.nd rfl (Or.inl rfl) (pe_ifExp (pt_cmpR op_gt (pv 0) pe_int (nomark _)) pe_int (pe_un un_neg pe_int)))
      (pss_cons (ps_set (i := 3) sc.nd rfl (Or.inl rfl) pe_int)
      (pss_cons (ps_while PassesOwn.never (pt_cmpR op_le (pe_op op_mul (pe_op op_mul (pv 3) (pv 3)) (pv 3)) (pv 1) (nomark _))
      (pss_cons (ps_while PassesOwn.never (pt_cmpR op_eq (pe_op op_mod (pv 1) (pe_op op_mul (pv 3) (pv 3))) pe_int (nomark _))
        (pss_one (ps_set (i := 1) sc.nd rfl (Or.inl rfl) (pe_op op_fdivW (pv 1) (pe_op op_mul (pv 3) (pv 3))))))
        (pss_cons (ps_if (pt_cmpR op_eq (pe_op op_mod (pv 1) (pv 3)) pe_int (nomark _))
        (pss_cons (ps_set (i := 1) sc.nd rfl (Or.inl rfl) (pe_op op_fdivW (pv 1) (pv 3)))
          (pss_one (ps_set (i := 2) sc.nd rfl (Or.inl rfl) (pe_op op_mul (pv 2) (pv 3)))))
        pss_nil)
        (pss_one (ps_aug (i := 3) sc.nd rfl (Or.inl rfl) pe_int ip_add)))))
      (pss_cons (ps_set (i := 4) sc.nd rfl (Or.inl rfl) (pe_callBfun cr_isqrt (by rfl) B.isqrt (pa_cons (pv 1) pa_nil)))
      (pss_one (ps_ret (pe_ifExp (pt_cmpR op_eq (pe_op op_mul (pv 4) (pv 4)) (pv 1) (nomark _)) (pv 2) (pe_op op_mul (pv 2) (pv 1)))))))))), ?_⟩
  have ea : (if z < 0 then -z else z) = (z.natAbs : Int) := by split <;> omega
  have st5 : ∀ {b2 c2 d2 b' c' d' : Int} {x : Option V}, b2 = b' → c2 = c' → d2 = d' → [some (V.int z), some (V.int b2), some (V.int c2), some (V.int d2), x] = [some (V.int z), some (V.int b'), some (V.int c'), some (V.int d'), x] := fun h1 h2 h3 => by rw [h1, h2, h3]
  have st5r : ∀ {b2 c2 d2 b' : Int} {x : Option V}, b2 = b' → [some (V.int z), some (V.int b2), some (V.int c2), some (V.int d2), x] = [some (V.int z), some (V.int b'), some (V.int c2), some (V.int d2), x] := fun h1 => by rw [h1]
  unfold without at q
  refine ⟨_, rfl, z, rfl, ?_⟩
  refine ⟨_, rfl, _, _, rfl, rfl, _, rfl, ifD (fun e => ?_) fun e => ⟨_, rfl, ?_⟩⟩
  · rw [if_pos e] at q
    generalize hR : wsq z.natAbs z.natAbs 1 2 = R at q
    dsimp only at q
    refine while_go (fun σ H' => H = H' ∧ ∃ (f r p : Nat) (b : Int), σ = [some (.int z), some (.int (r : Nat)), some (.int b), some (.int (p : Nat)), none] ∧ 0 < r ∧ r ≤ 160000 ∧ 2 ≤ p ∧ p ≤ 160001 ∧ r < f + p ∧ wsq f r b p = R) (fun σ _ => m0 1 σ + 160002 - m0 3 σ)
      ⟨rfl, z.natAbs, z.natAbs, 2, _, st5 ea rfl rfl, by omega, by omega, by decide, by decide, by omega, hR⟩ ?_
    rintro σ _ ⟨rfl, f, r, p, b, rfl, r0, r1, p2, p3, hf, hw⟩
    have hpp := sq_small p3
    have hpl : p < 2 ^ 64 := by omega
    refine ⟨_, rfl, _, rfl, _, _, rfl, rfl, cmulL hpl, _, rfl, _, _, rfl, rfl, cmulR hpl, _, rfl, _, _, rfl, rfl, _, rfl, ifD (fun e => ?_) fun e => ?_⟩
    · have e' : p * p * p ≤ r := Int.ofNat_le.mp e
      have pr := cube_le e' p2
      have pp0 : 0 < p * p := Nat.mul_pos (by omega) (by omega)
      have pp2 : 2 ≤ p * p := Nat.le_trans p2 (Nat.le_mul_of_pos_left _ (by omega))
      obtain ⟨f', rfl⟩ : ∃ n, f = n + 1 := ⟨f - 1, by omega⟩
      refine ⟨fun σ' H' => H = H' ∧ ∃ (f r' p' : Nat) (b : Int), σ' = [some (.int z), some (.int (r' : Nat)), some (.int b), some (.int (p' : Nat)), none] ∧ 0 < r' ∧ r' ≤ 160000 ∧ 2 ≤ p' ∧ p' ≤ 160001 ∧ r' < f + p' ∧ wsq f r' b p' = R ∧ r' ≤ r ∧ p' = p + 1, ?_, ?_⟩
      · rintro σ' _ ⟨rfl, f2, r', p', b', rfl, k1, k2, k3, k4, k5, k6, k7, k8⟩
        exact ⟨_, (by show ((r' : Int)).toNat + 160002 - ((p' : Int)).toNat < ((r : Int)).toNat + 160002 - ((p : Int)).toNat; omega), rfl, rfl, f2, r', p', b', rfl, k1, k2, k3, k4, k5, k6⟩
      refine while_go (fun σ H' => H = H' ∧ ∃ (g t : Nat), σ = [some (.int z), some (.int (t : Nat)), some (.int b), some (.int (p : Nat)), none] ∧ 0 < t ∧ t ≤ g ∧ t ≤ r ∧ sqs p g t = sqs p r r) (fun σ _ => m0 1 σ)
        ⟨rfl, r, r, rfl, r0, Nat.le_refl _, Nat.le_refl _, rfl⟩ ?_
      rintro σ _ ⟨rfl, g, t, rfl, h1, h2, h3, h4⟩
      refine ⟨_, rfl, _, rfl, _, rfl, _, _, rfl, rfl, cmulL hpl, _, _, rfl, rfl, (by show (0 : Int) < ((p * p : Nat) : Int); omega), rfl, _, rfl, ifI (fun em => ?_) fun em => ?_⟩
      · have em' : t % (p * p) = 0 := Int.ofNat.inj em
        obtain ⟨g', rfl⟩ : ∃ n, g = n + 1 := ⟨g - 1, by omega⟩
        rw [sqs_go em'] at h4
        have ds := div_small em' h1 pp2
        refine ⟨fun σ' H' => H = H' ∧ ∃ (g t' : Nat), σ' = [some (.int z), some (.int (t' : Nat)), some (.int b), some (.int (p : Nat)), none] ∧ 0 < t' ∧ t' ≤ g ∧ t' ≤ r ∧ sqs p g t' = sqs p r r ∧ t' < t, ?_, ?_⟩
        · rintro σ' _ ⟨rfl, g2, t', rfl, k1, k2, k3, k4, k5⟩
          exact ⟨_, (by show ((t' : Int)).toNat < ((t : Int)).toNat; omega), rfl, rfl, g2, t', rfl, k1, k2, k3, k4⟩
        refine ⟨_, rfl, _, rfl, _, rfl, _, _, rfl, rfl, cmulL hpl, _, _, rfl, rfl, cdivN pp0 hpp, ?_⟩
        exact ⟨rfl, g', t / (p * p), rfl, ds.1, by omega, by omega, h4, ds.2⟩
      · have em' : ¬ t % (p * p) = 0 := fun z => em (congrArg Int.ofNat z)
        rw [sqs_stop em'] at h4
        refine ⟨_, rfl, _, rfl, _, _, rfl, rfl, (by show (0 : Int) < (p : Int); omega), rfl, _, rfl, ifI (fun ep => ?_) fun ep => ?_⟩
        · have ep' : t % p = 0 := Int.ofNat.inj ep
          have hg := wsq_go1 (f := f') (b := b) e' h4.symm ep'
          rw [hw] at hg
          have ds := div_small ep' h1 p2
          refine ⟨_, rfl, _, rfl, _, _, rfl, rfl, cdivN (by omega) hpl, ?_⟩
          refine ⟨_, rfl, _, rfl, _, _, rfl, rfl, cmulR hpl, ?_⟩
          refine ⟨_, rfl, _, _, rfl, rfl, ?_⟩
          exact ⟨rfl, f', t / p, p + 1, b * p, rfl, ds.1, by omega, by omega, by omega, by omega, hg.symm, by omega, rfl⟩
        · have ep' : ¬ t % p = 0 := fun z => ep (congrArg Int.ofNat z)
          have hg := wsq_go2 (f := f') (b := b) e' h4.symm ep'
          rw [hw] at hg
          refine ⟨_, rfl, _, _, rfl, rfl, ?_⟩
          exact ⟨rfl, f', t, p + 1, b, rfl, h1, by omega, by omega, by omega, by omega, hg.symm, by omega, rfl⟩
    · have e' : ¬ p * p * p ≤ r := fun z => e (Int.ofNat_le.mpr z)
      rw [wsq_stop e'] at hw
      subst hw
      dsimp only at q
      have hi := isqrt_le r
      refine ⟨_, rfl, _, rfl, by omega, by omega, ?_⟩
      refine ⟨_, rfl, _, rfl, _, _, rfl, rfl, cmulL (n := Float64.isqrt r) (by omega), _, rfl, rfl, _, rfl, ifI (fun er => ?_) fun er => ?_⟩
      · rw [if_pos (show Float64.isqrt r * Float64.isqrt r = r from Int.ofNat.inj er)] at q
        exact ⟨_, rfl, q⟩
      · rw [if_neg (show ¬ Float64.isqrt r * Float64.isqrt r = r from fun z => er (congrArg Int.ofNat z))] at q
        exact ⟨_, rfl, _, rfl, _, _, rfl, rfl, cmulR (by omega), q⟩
  · rw [if_neg e] at q
    generalize hR : wsq z.natAbs z.natAbs (-1) 2 = R at q
    dsimp only at q
    refine while_go (fun σ H' => H = H' ∧ ∃ (f r p : Nat) (b : Int), σ = [some (.int z), some (.int (r : Nat)), some (.int b), some (.int (p : Nat)), none] ∧ 0 < r ∧ r ≤ 160000 ∧ 2 ≤ p ∧ p ≤ 160001 ∧ r < f + p ∧ wsq f r b p = R) (fun σ _ => m0 1 σ + 160002 - m0 3 σ)
      ⟨rfl, z.natAbs, z.natAbs, 2, _, st5 ea rfl rfl, by omega, by omega, by decide, by decide, by omega, hR⟩ ?_
    rintro σ _ ⟨rfl, f, r, p, b, rfl, r0, r1, p2, p3, hf, hw⟩
    have hpp := sq_small p3
    have hpl : p < 2 ^ 64 := by omega
    refine ⟨_, rfl, _, rfl, _, _, rfl, rfl, cmulL hpl, _, rfl, _, _, rfl, rfl, cmulR hpl, _, rfl, _, _, rfl, rfl, _, rfl, ifD (fun e => ?_) fun e => ?_⟩
    · have e' : p * p * p ≤ r := Int.ofNat_le.mp e
      have pr := cube_le e' p2
      have pp0 : 0 < p * p := Nat.mul_pos (by omega) (by omega)
      have pp2 : 2 ≤ p * p := Nat.le_trans p2 (Nat.le_mul_of_pos_left _ (by omega))
      obtain ⟨f', rfl⟩ : ∃ n, f = n + 1 := ⟨f - 1, by omega⟩
      refine ⟨fun σ' H' => H = H' ∧ ∃ (f r' p' : Nat) (b : Int), σ' = [some (.int z), some (.int (r' : Nat)), some (.int b), some (.int (p' : Nat)), none] ∧ 0 < r' ∧ r' ≤ 160000 ∧ 2 ≤ p' ∧ p' ≤ 160001 ∧ r' < f + p' ∧ wsq f r' b p' = R ∧ r' ≤ r ∧ p' = p + 1, ?_, ?_⟩
      · rintro σ' _ ⟨rfl, f2, r', p', b', rfl, k1, k2, k3, k4, k5, k6, k7, k8⟩
        exact ⟨_, (by show ((r' : Int)).toNat + 160002 - ((p' : Int)).toNat < ((r : Int)).toNat + 160002 - ((p : Int)).toNat; omega), rfl, rfl, f2, r', p', b', rfl, k1, k2, k3, k4, k5, k6⟩
      refine while_go (fun σ H' => H = H' ∧ ∃ (g t : Nat), σ = [some (.int z), some (.int (t : Nat)), some (.int b), some (.int (p : Nat)), none] ∧ 0 < t ∧ t ≤ g ∧ t ≤ r ∧ sqs p g t = sqs p r r) (fun σ _ => m0 1 σ)
        ⟨rfl, r, r, rfl, r0, Nat.le_refl _, Nat.le_refl _, rfl⟩ ?_
      rintro σ _ ⟨rfl, g, t, rfl, h1, h2, h3, h4⟩
      refine ⟨_, rfl, _, rfl, _, rfl, _, _, rfl, rfl, cmulL hpl, _, _, rfl, rfl, (by show (0 : Int) < ((p * p : Nat) : Int); omega), rfl, _, rfl, ifI (fun em => ?_) fun em => ?_⟩
      · have em' : t % (p * p) = 0 := Int.ofNat.inj em
        obtain ⟨g', rfl⟩ : ∃ n, g = n + 1 := ⟨g - 1, by omega⟩
        rw [sqs_go em'] at h4
        have ds := div_small em' h1 pp2
        refine ⟨fun σ' H' => H = H' ∧ ∃ (g t' : Nat), σ' = [some (.int z), some (.int (t' : Nat)), some (.int b), some (.int (p : Nat)), none] ∧ 0 < t' ∧ t' ≤ g ∧ t' ≤ r ∧ sqs p g t' = sqs p r r ∧ t' < t, ?_, ?_⟩
        · rintro σ' _ ⟨rfl, g2, t', rfl, k1, k2, k3, k4, k5⟩
          exact ⟨_, (by show ((t' : Int)).toNat < ((t : Int)).toNat; omega), rfl, rfl, g2, t', rfl, k1, k2, k3, k4⟩
        refine ⟨_, rfl, _, rfl, _, rfl, _, _, rfl, rfl, cmulL hpl, _, _, rfl, rfl, cdivN pp0 hpp, ?_⟩
        exact ⟨rfl, g', t / (p * p), rfl, ds.1, by omega, by omega, h4, ds.2⟩
      · have em' : ¬ t % (p * p) = 0 := fun z => em (congrArg Int.ofNat z)
        rw [sqs_stop em'] at h4
        refine ⟨_, rfl, _, rfl, _, _, rfl, rfl, (by show (0 : Int) < (p : Int); omega), rfl, _, rfl, ifI (fun ep => ?_) fun ep => ?_⟩
        · have ep' : t % p = 0 := Int.ofNat.inj ep
          have hg := wsq_go1 (f := f') (b := b) e' h4.symm ep'
          rw [hw] at hg
          have ds := div_small ep' h1 p2
          refine ⟨_, rfl, _, rfl, _, _, rfl, rfl, cdivN (by omega) hpl, ?_⟩
          refine ⟨_, rfl, _, rfl, _, _, rfl, rfl, cmulR hpl, ?_⟩
          refine ⟨_, rfl, _, _, rfl, rfl, ?_⟩
          exact ⟨rfl, f', t / p, p + 1, b * p, rfl, ds.1, by omega, by omega, by omega, by omega, hg.symm, by omega, rfl⟩
        · have ep' : ¬ t % p = 0 := fun z => ep (congrArg Int.ofNat z)
          have hg := wsq_go2 (f := f') (b := b) e' h4.symm ep'
          rw [hw] at hg
          refine ⟨_, rfl, _, _, rfl, rfl, ?_⟩
          exact ⟨rfl, f', t, p + 1, b, rfl, h1, by omega, by omega, by omega, by omega, hg.symm, by omega, rfl⟩
    · have e' : ¬ p * p * p ≤ r := fun z => e (Int.ofNat_le.mpr z)
      rw [wsq_stop e'] at hw
      subst hw
      dsimp only at q
      have hi := isqrt_le r
      refine ⟨_, rfl, _, rfl, by omega, by omega, ?_⟩
      refine ⟨_, rfl, _, rfl, _, _, rfl, rfl, cmulL (n := Float64.isqrt r) (by omega), _, rfl, rfl, _, rfl, ifI (fun er => ?_) fun er => ?_⟩
      · rw [if_pos (show Float64.isqrt r * Float64.isqrt r = r from Int.ofNat.inj er)] at q
        exact ⟨_, rfl, q⟩
      · rw [if_neg (show ¬ Float64.isqrt r * Float64.isqrt r = r from fun z => er (congrArg Int.ofNat z))] at q
        exact ⟨_, rfl, _, rfl, _, _, rfl, rfl, cmulR (by omega), q⟩
theorem ok_any_sign_of (D : Df K mg "any_sign_of" s_any_sign_of ["m"]) (c_without_squares : Cal P w K mg base 1 "without_squares" sp_without_squares) : Cal P w K mg base 2 "any_sign_of" sp_any_sign_of := by
  obtain ⟨f, fd, F, m, b⟩ := D.ex
  have sc := sc_any_sign_of
  refine ⟨f, fd, _, F.ok sc sp1_len (fun cdv A outer s H vs Q E hr h => ?_), m, F.kp, b⟩
  obtain ⟨z, rfl, hz, q⟩ := h
  replace q : Q (.int (anySign z)) H := q
  refine ⟨_, (pss_cons (ps_set (i := 1) sc.nd rfl (Or.inl rfl) (pe_c c_without_squares hr (by decide) (by rfl) (pa_cons (pv 0) pa_nil)))
      (pss_one (ps_ret (pe_ifExp (pt_cmpR op_eq (pe_op op_mod (pv 1) pe_int) pe_int (nomark _)) (pv 1) (pe_op op_mul pe_int (pv 1)))))), ?_⟩
  unfold anySign at q
  refine ⟨_, rfl, z, rfl, hz, ?_⟩
  refine ⟨_, rfl, _, _, rfl, rfl, (by show (0 : Int) < 4; decide), rfl, _, rfl, ifI (fun e => ?_) fun e => ?_⟩
  · rw [if_pos e] at q; exact ⟨_, rfl, q⟩
  · rw [if_neg e] at q; exact ⟨_, rfl, _, _, rfl, rfl, .inl ⟨by decide, by decide⟩, q⟩
theorem ok_is_sign (D : Df K mg "is_sign" s_is_sign ["thing"]) (c_any_sign_of : Cal P w K mg base 2 "any_sign_of" sp_any_sign_of) (c_is_between : Cal P w K mg base 2 "is_between" sp_is_between) : Cal P w K mg base 3 "is_sign" sp_is_sign := by
  obtain ⟨f, fd, F, m, b⟩ := D.ex
  have sc := sc_is_sign
  refine ⟨f, fd, _, F.ok sc sp1_len (fun cdv A outer s H vs Q E hr h => ?_), m, F.kp, b⟩
  obtain ⟨z, rfl, _, q⟩ := h
  replace q : Q (.bl (isSign z)) H := q
  refine ⟨_, (pss_one (ps_ret (pe_and (pe_c c_is_between hr (by decide) (by rfl) (pa_cons (pv 0) (pa_cons (pe_un un_neg pe_int) (pa_cons pe_int pa_nil)))) (pe_and (pe_cmpR op_ne (pv 0) pe_int (nomark _)) (pe_one (pe_cmpR op_eq (pe_c c_any_sign_of hr (by decide) (by rfl) (pa_cons (pv 0) pa_nil)) (pv 0) (nomark _))))))), ?_⟩
  unfold isSign at q
  refine ⟨_, rfl, _, rfl, z, -400, 400, rfl, trivial, _, rfl, ?_⟩
  cases e1 : decide (-400 ≤ z)
  · rw [e1] at q; exact iteF q
  · cases e2 : decide (z ≤ 400)
    · rw [e1, e2] at q; exact iteF q
    · rw [e1, e2] at q
      refine iteT ?_
      refine ⟨_, rfl, rfl, _, rfl, ifNI (fun e => ?_) fun e => ?_⟩
      · rw [decide_eq_true e] at q
        have k1 := of_decide_eq_true e1
        have k2 := of_decide_eq_true e2
        refine ⟨_, rfl, z, rfl, ⟨e, by omega⟩, _, rfl, rfl, ?_⟩
        have ee : decide (V.int (anySign z) = V.int z) = decide (anySign z = z) := by
          by_cases h : anySign z = z
          · rw [decide_eq_true h, h]; exact decide_eq_true rfl
          · rw [decide_eq_false h]; exact decide_eq_false fun k => h (V.int.inj k)
        show Q (.bl (decide (V.int (anySign z) = V.int z))) H
        rw [ee]
        exact q
      · rw [show decide (z ≠ 0) = false from decide_eq_false fun k => k e] at q
        exact q
theorem ok_check_sign (D : Df K mg "check_sign" s_check_sign ["sign"]) (c_is_sign : Cal P w K mg base 3 "is_sign" sp_is_sign) : Cal P w K mg base 4 "check_sign" sp_check_sign := by
  obtain ⟨f, fd, F, m, b⟩ := D.ex
  have sc := sc_check_sign
  refine ⟨f, fd, _, F.ok sc sp1_len (fun cdv A outer s H vs Q E hr h => ?_), m, F.kp, b⟩
  obtain ⟨z, rfl, hs, q⟩ := h
  refine ⟨_, (pss_one (ps_if (pt_not (pt_val (pe_c c_is_sign hr (by decide) (by rfl) (pa_cons (pv 0) pa_nil))))
      (pss_one ps_never)
      pss_nil)), ?_⟩
  refine ⟨_, rfl, z, rfl, trivial, _, rfl, ?_⟩
  rw [show isSign z = true from hs]
  exact iteF q
theorem isSign_le {z : Int} (h : isSign z = true) : z.natAbs ≤ 400 ∧ z ≠ 0 ∧ anySign z = z := by
  unfold isSign at h
  simp only [Bool.and_eq_true, decide_eq_true_eq] at h
  omega
theorem fn_sign_at {f : Addr} {fd : FuncData} (F : Fun K "sign_at" "sign_at" s_sign_at f fd) (c_check_sign : Cal P w K mg base 4 "check_sign" sp_check_sign) (c_check_integer : Cal P w K mg base 2 "check_integer" sp_check_integer) (c_value_at : Cal P w K mg base 2 "value_at" sp_value_at) : FnOk P w K mg base CX0 5 f fd ["sign", "n"] sp_sign_at := by
  have sc := sc_sign_at
  refine F.ok sc sp2_len (fun cdv A outer s H vs Q E hr h => ?_)
  obtain ⟨z, n, rfl, hz, q⟩ := h
  have hl := isSign_le hz
  refine ⟨_, (pss_cons (ps_expr (pe_c c_check_sign hr (by decide) (by rfl) (pa_cons (pv 0) pa_nil)))
      (pss_cons (ps_expr (pe_c c_check_integer hr (by decide) (by rfl) (pa_cons (pv 1) pa_nil)))
      (pss_one (ps_ret (pe_c c_value_at hr (by decide) (by rfl) (pa_cons (pv 0) (pa_cons (pv 1) pa_nil))))))), ?_⟩
  refine ⟨_, rfl, z, rfl, hz, ?_⟩
  refine ⟨_, rfl, n, rfl, trivial, ?_⟩
  exact ⟨_, rfl, _, rfl, z, n, rfl, hl.2.1, q⟩
theorem ok_sign_at (D : Df K mg "sign_at" s_sign_at ["sign", "n"]) (c_check_sign : Cal P w K mg base 4 "check_sign" sp_check_sign) (c_check_integer : Cal P w K mg base 2 "check_integer" sp_check_integer) (c_value_at : Cal P w K mg base 2 "value_at" sp_value_at) : Cal P w K mg base 5 "sign_at" sp_sign_at := by
  obtain ⟨f, fd, F, m, b⟩ := D.ex
  exact ⟨f, fd, _, fn_sign_at F c_check_sign c_check_integer c_value_at, m, F.kp, b⟩
end
end Ft

namespace Ft
open PySem L2
theorem canLay_ints : ∀ ns : List Int, PyData.canLayAll0 (ns.map PyData.int) = true
  | [] => rfl
  | n :: ns => by
    show (true && PyData.canLayAll0 (ns.map PyData.int)) = true
    rw [canLay_ints ns]
    rfl
theorem depth_ints : ∀ ns : List Int, PyData.depthAll (ns.map PyData.int) = 0
  | [] => rfl
  | n :: ns => by
    show max 0 (PyData.depthAll (ns.map PyData.int)) = 0
    rw [depth_ints ns]
    rfl
theorem shaped_ints (ns : List Int) : SeqAt.shaped (.list (ns.map PyData.int)) = true := by
  unfold SeqAt.shaped
  rw [show PyData.canLay0 (.list (ns.map PyData.int)) = true from canLay_ints ns, show PyData.depth (.list (ns.map PyData.int)) = 0 + 1 from by rw [← depth_ints ns]; rfl]
  rfl
section
variable {P : Program} {w : World} {K : PySem.W.Frag} {mg : Str → Option Value} {base : Heap}
theorem ok_draw (D : Df K mg "_law_draw" s__law_draw ["_law_deck_here", "_law_many"]) (B : Bi mg) : Cal P w K mg base 1 "_law_draw" sp_draw := by
  obtain ⟨f, fd, F, m, b⟩ := D.ex
  have sc := sc__law_draw
  refine ⟨f, fd, _, F.ok sc sp_draw_len (fun cdv A outer s H vs Q E hr h => ?_), m, F.kp, b⟩
  obtain ⟨d, l, n, rfl, DK, hn0, hn1, q⟩ := h
  have hu := hu_of hr
  have h64 : (A.deeper (PyProof.Rows.envOfC "_law_draw" (defScope s__law_draw) s.heap.objs.size f cdv)).units + 64 < cLine := by have := hr.un; omega
  refine ⟨_, (pss_cons (ps_dput hu (pv 0) pe_str (pe_op op_add (pe_dget hu (pv 0) pe_str (fun _ _ => rfl)) pe_int) rfl)
      (pss_cons (ps_set (i := 2) sc.nd rfl (Or.inl rfl) (pe_op op_add (pe_dget hu (pv 0) pe_str (fun _ _ => rfl)) (pe_op op_mul pe_int (pe_dget hu (pv 0) pe_str (fun _ _ => rfl)))))
      (pss_cons (ps_if (pt_cmpR (op_neD h64) (pe_dget hu (pv 0) pe_str (fun _ _ => rfl)) (pe_lst pa_nil) (nomark _))
      (pss_cons (ps_set (i := 3) sc.nd rfl (Or.inl rfl) (pe_bm0 PySem.F.plainAttrs_list PySem.F.slot_list_pop PySem.F.type_list_pop mt_pop (pe_dget hu (pv 0) pe_str (fun _ _ => rfl))))
        (pss_cons (ps_if (pt_cmpR op_ge (pv 3) (pe_op op_pow pe_int pe_int) (nomark _))
        (pss_cons (ps_expr (pe_bm PySem.F.plainAttrs_list PySem.F.slot_list_append PySem.F.type_list_append mt_append (pe_dget hu (pv 0) pe_str (fun _ _ => rfl)) (pa_cons (pe_op op_fdivW (pv 3) (pe_callB (call_max2 rfl) (by rfl) B.max_ (by decide +kernel) (pa_cons pe_int (pa_cons (pv 1) pa_nil)))) pa_nil)))
          (pss_one (ps_ret (pe_op op_mod (pe_callTy call_int1 (by rfl) B.int_ (by decide +kernel) (pa_cons (pv 3) pa_nil)) (pv 1)))))
        pss_nil)
        (pss_one (ps_set (i := 2) sc.nd rfl (Or.inl rfl) (pe_op op_add (pv 2) (pe_op op_mod (pe_callTy call_int1 (by rfl) B.int_ (by decide +kernel) (pa_cons (pv 3) pa_nil)) pe_int))))))
      pss_nil)
      (pss_cons (ps_set (i := 2) sc.nd rfl (Or.inl rfl) (pe_op op_mod (pe_callTy call_int1 (by rfl) B.int_ (by decide +kernel) (pa_cons (pe_op op_add (pe_op op_mul (pv 2) pe_int) pe_int) pa_nil)) pe_int))
      (pss_cons (ps_set (i := 2) sc.nd rfl (Or.inl rfl) (pe_op op_mod (pe_callTy call_int1 (by rfl) B.int_ (by decide +kernel) (pa_cons (pe_op op_add (pe_op op_add (pe_op op_mul (pv 2) (pv 2)) (pe_op op_mul pe_int (pe_dget hu (pv 0) pe_str (fun _ _ => rfl)))) pe_int) pa_nil)) pe_int))
      (pss_cons (ps_set (i := 2) sc.nd rfl (Or.inl rfl) (pe_op op_mod (pe_callTy call_int1 (by rfl) B.int_ (by decide +kernel) (pa_cons (pe_op op_mul (pv 2) pe_int) pa_nil)) pe_int))
      (pss_one (ps_ret (pe_op op_mod (pe_callTy call_int1 (by rfl) B.int_ (by decide +kernel) (pa_cons (pe_op op_fdivW (pv 2) pe_int) pa_nil)) (pv 1)))))))))), ?_⟩
  have dl := DK.ne
  obtain ⟨mx, dr, cs, hd, hl, hcs⟩ := DK
  -- draws + 1
  have gd := DGet.k (k := kDraws) hd
  rw [deck_draws] at gd
  have pd := DPut.k (k := kDraws) (v := .int (dr + 1)) hd (Nat.lt_of_le_of_lt (Nat.le_of_eq rfl : (deckL l mx dr).length ≤ 3) (by decide))
  rw [deck_put] at pd
  refine ⟨_, rfl, d, _, rfl, gd, _, _, rfl, rfl, _, rfl, d, _, rfl, pd, ?_⟩
  generalize hH1 : upd H d (.dK (deckL l mx (dr + 1))) = H1
  have hd1 : H1 d = some (.dK (deckL l mx (dr + 1))) := by rw [← hH1]; exact upd_same
  have hl1 : H1 l = some (.lst (cs.map V.int)) := by rw [← hH1, upd_ne dl.symm]; exact hl
  have b1 : But d l H H1 := fun b o e h1 h2 => by rw [← hH1, upd_ne h1]; exact e
  have gd1 := DGet.k (k := kDraws) hd1
  rw [deck_draws] at gd1
  have gm1 := DGet.k (k := kMixed) hd1
  rw [deck_mixed] at gm1
  have gc1 := DGet.k (k := kCells) hd1
  rw [deck_cells] at gc1
  refine ⟨_, rfl, d, _, rfl, gm1, _, rfl, d, _, rfl, gd1, _, _, rfl, rfl, .inl ⟨by decide, by decide⟩, _, _, rfl, rfl, ?_⟩
  dsimp only [gName]
  refine tSeq_join (fun σ H2 => ∃ (z : Int) (o : Option V), σ = [some (.ref d), some (.int n), some (.int z), o] ∧ DeckAt H2 d l ∧ But d l H H2) (fun N hN => ?_) ?_
  · -- if cells != []
    refine ⟨_, rfl, d, _, rfl, gc1, Nat.zero_le _, fun p hp => ?_⟩
    have s2 : Same H1 (upd H1 p (.lst [])) := Same.upd_new hp
    generalize hH2 : upd H1 p (.lst []) = H2 at s2
    have hd2 := s2 _ _ hd1
    have hl2 := s2 _ _ hl1
    have hp2 : H2 p = some (.lst []) := by rw [← hH2]; exact upd_same
    have b2 : But d l H H2 := b1.trans (But.of s2)
    have gc2 := DGet.k (k := kCells) hd2
    rw [deck_cells] at gc2
    refine ⟨_, _, .lst (SqL.of hl2) (dp_ints cs), .lst (SqL.of hp2) .nil, shaped_ints cs, by decide, _, rfl, ?_⟩
    rw [eqv_nil]
    cases hcc : cs with
    | nil =>
      refine iteF ?_
      exact hN _ _ ⟨_, none, rfl, ⟨mx, dr + 1, [], hd2, by rw [hcc] at hl2; exact hl2, by decide⟩, b2⟩
    | cons c0 cr =>
      refine iteT ?_
      -- cell = cells.pop()
      have hlast : ∃ c, (cs.map V.int)[(cs.map V.int).length - 1]? = some (V.int c) := by
        have hn : cs.length - 1 < cs.length := by rw [hcc]; exact Nat.sub_lt (Nat.succ_pos _) (by decide)
        exact ⟨cs[cs.length - 1], by rw [List.length_map, List.getElem?_map, List.getElem?_eq_getElem hn]; rfl⟩
      obtain ⟨c, hlast⟩ := hlast
      have hdrop : (cs.map V.int).dropLast = cs.dropLast.map V.int := by rw [List.map_dropLast]
      have ldrop : cs.dropLast.length ≤ 62 := by rw [List.length_dropLast]; omega
      have hne : l ≠ d := dl.symm
      refine ⟨_, rfl, d, _, rfl, gc2, .inl ⟨rfl, _, SqL.of hl2⟩, l, _, _, rfl, rfl, hl2, hlast, ?_⟩
      rw [hdrop]
      generalize hH3 : upd H2 l (.lst (cs.dropLast.map V.int)) = H3
      have hl3 : H3 l = some (.lst (cs.dropLast.map V.int)) := by rw [← hH3]; exact upd_same
      have hd3 : H3 d = some (.dK (deckL l mx (dr + 1))) := by rw [← hH3, upd_ne dl]; exact hd2
      have b3 : But d l H H3 := b2.trans fun b o e _ h2 => by rw [← hH3, upd_ne h2]; exact e
      have gc3 := DGet.k (k := kCells) hd3
      rw [deck_cells] at gc3
      refine ⟨_, rfl, _, _, rfl, rfl, ⟨by decide, by decide, by decide⟩, _, _, rfl, rfl, _, rfl, ifD (fun hbig => ?_) fun hbig => ?_⟩
      · -- cells.append(cell // max(2, many)); return int(cell) % many
        have hmx : (if n > 2 then n else 2) = max 2 n := by by_cases h : n > 2 <;> simp only [h, if_true, if_false] <;> omega
        refine ⟨_, rfl, d, _, rfl, gc3, .inl ⟨rfl, _, SqL.of hl3⟩, _, rfl, _, rfl, 2, n, rfl, _, _, rfl, rfl, ?_, ?_⟩
        · show CDivW c (if n > 2 then n else 2)
          exact wide_div (b := 64) (by split <;> omega) (by split <;> omega) (by decide) (by decide)
        refine ⟨l, _, _, rfl, rfl, hl3, Nat.lt_of_le_of_lt (by rw [List.length_map]; exact ldrop) (by decide : (62 : Nat) < sizeLine), ?_⟩
        have happ : cs.dropLast.map V.int ++ [V.int (c / (if n > 2 then n else 2))] = (cs.dropLast ++ [c / (if n > 2 then n else 2)]).map V.int := by rw [List.map_append]; rfl
        refine ⟨_, rfl, .inl ⟨c, rfl, ?_⟩⟩
        refine ⟨_, rfl, _, _, rfl, rfl, hn0, ?_⟩
        refine q _ _ ⟨mx, dr + 1, cs.dropLast ++ [c / (if n > 2 then n else 2)], by rw [upd_ne dl]; exact hd3, by rw [upd_same]; exact congrArg (fun z => some (HO.lst z)) happ, by rw [List.length_append]; exact Nat.add_le_add ldrop (Nat.le_refl 1)⟩ (b3.trans fun b o e _ h2 => by rw [upd_ne h2]; exact e) (Int.emod_nonneg _ (by omega)) (Int.emod_lt_of_pos _ hn0)
      · refine ⟨_, rfl, _, rfl, .inl ⟨c, rfl, ?_⟩⟩
        refine ⟨_, _, rfl, rfl, (by show (0 : Int) < 2147483629; decide), _, _, rfl, rfl, ?_⟩
        exact hN _ _ ⟨_, _, rfl, ⟨mx, dr + 1, cs.dropLast, hd3, hl3, Nat.le_trans ldrop (by decide)⟩, b3⟩
  · rintro _ H4 ⟨z, o, rfl, DK4, b4⟩
    obtain ⟨mx, dr, cs, hd4, hl4, hcs4⟩ := id DK4
    have gd4 := DGet.k (k := kDraws) hd4
    rw [deck_draws] at gd4
    refine ⟨_, rfl, _, _, rfl, rfl, .inr ⟨by decide, by decide⟩, _, _, rfl, rfl, .inl ⟨_, rfl, _, _, rfl, rfl, (by show (0 : Int) < 2147483647; decide), ?_⟩⟩
    have y0 := Int.emod_nonneg (z * 39373 + 43) (b := 2147483647) (by decide)
    have y1 := Int.emod_lt_of_pos (z * 39373 + 43) (b := 2147483647) (by decide)
    refine ⟨_, rfl, _, rfl, _, _, rfl, rfl, .inl ⟨by omega, by omega⟩, _, rfl, d, _, rfl, gd4, _, _, rfl, rfl, .inl ⟨by decide, by decide⟩, _, _, rfl, rfl, _, _, rfl, rfl, .inl ⟨_, rfl, _, _, rfl, rfl, (by show (0 : Int) < 2147483587; decide), ?_⟩⟩
    refine ⟨_, rfl, _, _, rfl, rfl, .inr ⟨by decide, by decide⟩, .inl ⟨_, rfl, _, _, rfl, rfl, (by show (0 : Int) < 2147483563; decide), ?_⟩⟩
    refine ⟨_, rfl, _, _, rfl, rfl, ⟨by decide, by decide⟩, .inl ⟨_, rfl, _, rfl, _, _, rfl, rfl, hn0, ?_⟩⟩
    exact q _ _ DK4 b4 (Int.emod_nonneg _ (by omega)) (Int.emod_lt_of_pos _ hn0)
end
end Ft

namespace Ft
open PySem L2
section
variable {P : Program} {w : World} {K : PySem.W.Frag} {mg : Str → Option Value} {base : Heap}
theorem ok_pick (D : Df K mg "_law_pick" s__law_pick ["_law_deck_here", "_law_some"]) (B : Bi mg) (c__law_draw : Cal P w K mg base 1 "_law_draw" sp_draw) : Cal P w K mg base 2 "_law_pick" (sp_pick K) := by
  obtain ⟨f, fd, F, m, b⟩ := D.ex
  have sc := sc__law_pick
  refine ⟨f, fd, _, F.ok sc sp_pick_len (fun cdv A outer s H vs Q E hr h => ?_), m, F.kp, b⟩
  obtain ⟨d, l, p, xs, rfl, DK, hp, h0, h1, q⟩ := h
  refine ⟨_, (pss_one (ps_ret (pe_ix ix_seq (pv 1) (pe_c c__law_draw hr (by decide) (by rfl) (pa_cons (pv 0) (pa_cons (pe_callB call_len_seq (by rfl) B.len_ (by decide +kernel) (pa_cons (pv 1) pa_nil)) pa_nil))) (fun _ _ => rfl)))), ?_⟩
  have hs : SqL K H p xs ∨ SqT K H p xs := hp.imp (fun z => SqL.of z.1) SqT.of
  refine ⟨_, rfl, _, rfl, _, rfl, p, xs, rfl, hs, d, l, _, rfl, DK, by omega, by omega, fun H1 r DK1 b1 r0 r1 => ?_⟩
  obtain ⟨n, rfl⟩ : ∃ n : Nat, r = n := ⟨r.toNat, by omega⟩
  have hn : n < xs.length := by omega
  obtain ⟨mx, dr, cs, hd, hl, _⟩ := DK
  rcases hp with ⟨hp, hpl⟩ | hp
  · have hp1 := b1 _ _ hp (ne_of hp hd (by intro z; cases z)) hpl
    exact .inl ⟨p, xs, _, _, rfl, rfl, SqL.of hp1, atI_nat (List.getElem?_eq_getElem hn), q _ _ DK1 b1 (List.getElem_mem hn)⟩
  · have hp1 := b1 _ _ hp (ne_of hp hd (by intro z; cases z)) (ne_of hp hl (by intro z; cases z))
    exact .inr (.inl ⟨p, xs, _, _, rfl, rfl, SqT.of hp1, atI_nat (List.getElem?_eq_getElem hn), q _ _ DK1 b1 (List.getElem_mem hn)⟩)
theorem ok_deck (D : Df K mg "_law_deck" s__law_deck ["_law_script"]) (B : Bi mg)  : Cal P w K mg base 1 "_law_deck" (sp_deck K) := by
  obtain ⟨f, fd, F, m, b⟩ := D.ex
  have sc := sc__law_deck
  refine ⟨f, fd, _, F.ok sc sp_deck_len (fun cdv A outer s H vs Q E hr h => ?_), m, F.kp, b⟩
  obtain ⟨a, ns, rfl, hS, hlen, q⟩ := h
  have hu := hu_of hr
  refine ⟨_, (pss_cons (ps_set (i := 1) sc.nd rfl (Or.inl rfl) pe_int)
      (pss_cons (ps_for PassesOwn.never rfl (pi_list (pe_slice sl_list (pv 0) po_none (po_some pe_int))) (pg_name (i := 2) sc.nd rfl (Or.inl rfl))
      (pss_one (ps_set (i := 1) sc.nd rfl (Or.inl rfl) (pe_op op_mod (pe_callTy call_int1 (by rfl) B.int_ (by decide +kernel) (pa_cons (pe_op op_add (pe_op op_add (pe_op op_mul (pv 1) pe_int) (pe_op op_mod (pe_callTy call_int1 (by rfl) B.int_ (by decide +kernel) (pa_cons (pv 2) pa_nil)) pe_int)) pe_int) pa_nil)) pe_int))))
      (pss_one (ps_ret (pe_disp (pps_cons pe_str (pe_revL (pe_callTy call_list_of (by rfl) B.list (by decide +kernel) (pa_cons (pe_slice sl_list (pv 0) po_none (po_some pe_int)) pa_nil))) (pps_cons pe_str (pv 1) (pps_cons pe_str pe_int pps_nil))) (by rfl) (by rfl) (fun z => by cases z) (by decide)))))), ?_⟩
  refine ⟨_, rfl, _, rfl, a, _, rfl, hS, fun p hp => ?_⟩
  obtain ⟨ms, hms, lms⟩ := cut_ints ns none (some 63)
  rw [hms]
  have s1 : Same H (upd H p (.lst (ms.map V.int))) := Same.upd_new hp
  generalize hH1 : upd H p (.lst (ms.map V.int)) = H1 at s1
  have hp1 : H1 p = some (.lst (ms.map V.int)) := by rw [← hH1]; exact upd_same
  refine ⟨p, rfl, ⟨_, SqL.of hp1⟩, for_list (K := K) (a := p) (xs := ms.map V.int) (fun i σ H2 => H1 = H2 ∧ ∃ (z : Int) (o : Option V), σ = [some (.ref a), some (.int z), o]) ⟨rfl, _, none, rfl⟩ (fun i σ H2 _ ⟨e, _⟩ => by rw [← e]; exact SqL.of hp1) ?_ ?_⟩
  · rintro i x σ _ hi ⟨rfl, z, o, rfl⟩
    obtain ⟨c, rfl, _⟩ := int_at hi
    refine ⟨_, rfl, _, _, rfl, rfl, .inr ⟨by decide, by decide⟩, _, rfl, .inl ⟨c, rfl, _, _, rfl, rfl, (by show (0 : Int) < 2147483629; decide), _, _, rfl, rfl, _, _, rfl, rfl, .inl ⟨_, rfl, _, _, rfl, rfl, (by show (0 : Int) < 2147483587; decide), ?_⟩⟩⟩
    exact ⟨rfl, _, _, rfl⟩
  · rintro σ _ ⟨rfl, z, o, rfl⟩
    intro d hd
    have s2 : Same H1 (upd H1 d (.dK [])) := Same.upd_new hd
    generalize hH2 : upd H1 d (.dK []) = H2 at s2
    have hd2 : H2 d = some (.dK []) := by rw [← hH2]; exact upd_same
    refine ⟨_, rfl, _, rfl, a, _, rfl, s2.seq (s1.seq hS), fun p2 hp2 => ?_⟩
    rw [hms]
    have s3 : Same H2 (upd H2 p2 (.lst (ms.map V.int))) := Same.upd_new hp2
    generalize hH3 : upd H2 p2 (.lst (ms.map V.int)) = H3 at s3
    have h3 : H3 p2 = some (.lst (ms.map V.int)) := by rw [← hH3]; exact upd_same
    refine ⟨p2, _, rfl, .inl (SqL.of h3), fun p3 hp3 => ?_⟩
    have s4 : Same H3 (upd H3 p3 (.lst (ms.map V.int))) := Same.upd_new hp3
    generalize hH4 : upd H3 p3 (.lst (ms.map V.int)) = H4 at s4
    have h4 : H4 p3 = some (.lst (ms.map V.int)) := by rw [← hH4]; exact upd_same
    refine ⟨p3, _, rfl, SqL.of h4, fun l hl => ?_⟩
    have s5 : Same H4 (upd H4 l (.lst (ms.map V.int).reverse)) := Same.upd_new hl
    generalize hH5 : upd H4 l (.lst (ms.map V.int).reverse) = H5 at s5
    have h5 : H5 l = some (.lst (ms.reverse.map V.int)) := by rw [← hH5, List.map_reverse]; exact upd_same
    have sA := s1.trans (s2.trans (s3.trans (s4.trans s5)))
    have hd5 : H5 d = some (.dK []) := s5 _ _ (s4 _ _ (s3 _ _ hd2))
    have dl : d ≠ l := ne_of hd5 h5 (by intro z; cases z)
    refine ⟨_, rfl, hd5, deckL l z 0, rfl, (by show (3 : Nat) ≤ 15; decide), ?_⟩
    rw [deck_merge]
    have hd0 : H d = none := s1.free hd
    have hl0 : H l = none := s1.free (s2.free (s3.free (s4.free hl)))
    refine q _ d l ⟨z, 0, ms.reverse, upd_same, by rw [upd_ne dl.symm]; exact h5, by rw [List.length_reverse]; omega⟩ (fun b u e => ?_) hd0 hl0
    rw [upd_ne (ne_of_none e hd0)]
    exact sA _ _ e
end
end Ft

namespace Ft
open PySem L2
/-- two keywords, in the other order -/
def swapV : List V → List V → List V := fun us zs => match us, zs with
  | [], [a, b] => [b, a]
  | _, _ => []
def swapU : List Value → List Value → List Value := fun us zs => match us, zs with
  | [], [a, b] => [b, a]
  | _, _ => []
theorem swap_rel : ∀ {vs : List V} {us : List Value} {zs : List V} {ws : List Value}, Vals vs us → Vals zs ws → Vals (swapV vs zs) (swapU us ws)
  | _, _, _, _, .nil, .nil => .nil
  | _, _, _, _, .nil, .cons _ .nil => .nil
  | _, _, _, _, .nil, .cons a (.cons b .nil) => .cons b (.cons a .nil)
  | _, _, _, _, .nil, .cons _ (.cons _ (.cons _ _)) => .nil
  | _, _, _, _, .cons _ _, _ => .nil
theorem kb_sign_at {K : PySem.W.Frag} {f : Addr} {fd : FuncData} (F : Fun K "sign_at" "sign_at" s_sign_at f fd) : KBinds K fd ["sign", "n"] ["n", "sign"] swapU swapV := by
  obtain ⟨oc, od, kV, doc, pm, an, cdv, ct, osl, rfl, lk, hcd⟩ := F.ex
  refine ⟨fun s us ws _ hl => ?_, swap_rel⟩
  match us, ws, hl with
  | [], [a, b], _ => exact .of_eq rfl
end Ft

namespace Ft
open PySem L2
/-! ### numbers as pairs -/
abbrev Fq := Int × Int
def low (a b : Int) : Fq := (a / ((Nat.gcd a.natAbs b.natAbs : Nat) : Int), b / ((Nat.gcd a.natAbs b.natAbs : Nat) : Int))
def nsum (x y : Fq) : Fq := low (x.1 * y.2 + y.1 * x.2) (x.2 * y.2)
def nprod (x y : Fq) : Fq := low (x.1 * y.1) (x.2 * y.2)
/-- of at most b bits, over a positive number -/
def Small (b : Nat) (x : Fq) : Prop := x.1.natAbs < 2 ^ b ∧ x.2.natAbs < 2 ^ b ∧ 0 < x.2
/-- the value v is the number x -/
def Fr (H : Hp) (v : V) (x : Fq) : Prop := ∃ t, v = .ref t ∧ H t = some (.tup [.int x.1, .int x.2])
theorem Fr.same {H H' : Hp} {v : V} {x : Fq} (h : Fr H v x) (s : Same H H') : Fr H' v x := by
  obtain ⟨t, e, z⟩ := h
  exact ⟨t, e, s _ _ z⟩
theorem Fr.new {H : Hp} {p : Addr} {a b : Int} : Fr (upd H p (.tup [.int a, .int b])) (.ref p) (a, b) := ⟨p, rfl, upd_same⟩
theorem two0 {a b : V} : atI [a, b] 0 = some a := atI_nat (j := 0) rfl
theorem two1 {a b : V} : atI [a, b] 1 = some b := atI_nat (j := 1) rfl
theorem fr0 {K : PySem.W.Frag} {H : Hp} {v : V} {x : Fq} {Q : VK} (h : Fr H v x) (q : Q (.int x.1) H) : rIx K v (.int 0) H Q := by
  obtain ⟨t, rfl, z⟩ := h
  exact .inr (.inl ⟨t, _, 0, _, rfl, rfl, SqT.of z, two0, q⟩)
theorem fr1 {K : PySem.W.Frag} {H : Hp} {v : V} {x : Fq} {Q : VK} (h : Fr H v x) (q : Q (.int x.2) H) : rIx K v (.int 1) H Q := by
  obtain ⟨t, rfl, z⟩ := h
  exact .inr (.inl ⟨t, _, 1, _, rfl, rfl, SqT.of z, two1, q⟩)
def sp_low : Sp := fun vs H Q _ => ∃ a b : Int, vs = [.int a, .int b] ∧ 0 < b ∧ b.natAbs < 2 ^ 8001 ∧ ∀ H' v, Same H H' → Fr H' v (low a b) → Q v H'
def sp_num (g : Fq → Fq → Fq) : Sp := fun vs H Q _ => ∃ u v x y, vs = [u, v] ∧ Fr H u x ∧ Fr H v y ∧ Small 4000 x ∧ Small 4000 y ∧ ∀ H' r, Same H H' → Fr H' r (g x y) → Q r H'
theorem gcd_bit {a b : Int} (h : 0 < b) : 0 < ((Nat.gcd a.natAbs b.natAbs : Nat) : Int) ∧ Nat.gcd a.natAbs b.natAbs ≤ b.natAbs := by
  have h1 : 0 < b.natAbs := by omega
  have h2 := Nat.gcd_pos_of_pos_right a.natAbs h1
  exact ⟨by omega, Nat.le_of_dvd h1 (Nat.gcd_dvd_right _ _)⟩
section
variable {P : Program} {w : World} {K : PySem.W.Frag} {mg : Str → Option Value} {base : Heap}
theorem ok_lowest_terms (D : Df K mg "lowest_terms" s_lowest_terms ["top", "bottom"]) (B : Bi mg)  : Cal P w K mg base 1 "lowest_terms" sp_low := by
  obtain ⟨f, fd, F, m, b⟩ := D.ex
  have sc := sc_lowest_terms
  refine ⟨f, fd, _, F.ok sc (fun _ _ _ _ ⟨_, _, e, _⟩ => by rw [e]; rfl) (fun cdv A outer s H vs Q E hr h => ?_), m, F.kp, b⟩
  obtain ⟨x, y, rfl, h0, h1, q⟩ := h
  refine ⟨_, (pss_cons (ps_set (i := 2) sc.nd rfl (Or.inl rfl) (pe_callBfun cr_gcd (by rfl) B.gcd (pa_cons (pv 0) (pa_cons (pv 1) pa_nil))))
      (pss_one (ps_ret (pe_tup (pa_cons (pe_op op_fdivW (pv 0) (pv 2)) (pa_cons (pe_op op_fdivW (pv 1) (pv 2)) pa_nil)))))), ?_⟩
  have g := gcd_bit (a := x) h0
  have gb : ∀ i : Int, CDivW i ((Nat.gcd x.natAbs y.natAbs : Nat) : Int) := fun i => wide_div (b := 8001) g.1 (Nat.lt_of_le_of_lt g.2 h1) (by decide) (by decide)
  refine ⟨_, rfl, _, rfl, x, y, rfl, ?_⟩
  refine ⟨_, rfl, _, rfl, _, _, rfl, rfl, gb x, _, rfl, _, rfl, _, _, rfl, rfl, gb y, ?_⟩
  exact ⟨(by show (2 : Nat) ≤ sizeLine; decide), fun p hp => q _ _ (Same.upd_new hp) Fr.new⟩
theorem mulS {i j : Int} (h1 : i.natAbs < 2 ^ 4000) (h2 : j.natAbs < 2 ^ 4000) : CMulW i j := wide_mul h1 h2 (by decide) (by decide) (by decide)
theorem ok_number_product (D : Df K mg "number_product" s_number_product ["one", "other"]) (c_lowest_terms : Cal P w K mg base 1 "lowest_terms" sp_low) : Cal P w K mg base 2 "number_product" (sp_num nprod) := by
  obtain ⟨f, fd, F, m, b⟩ := D.ex
  have sc := sc_number_product
  refine ⟨f, fd, _, F.ok sc (fun _ _ _ _ ⟨_, _, _, _, e, _⟩ => by rw [e]; rfl) (fun cdv A outer s H vs Q E hr h => ?_), m, F.kp, b⟩
  obtain ⟨u, v, x, y, rfl, hu, hv, sx, sy, q⟩ := h
  refine ⟨_, (pss_one (ps_ret (pe_c c_lowest_terms hr (by decide) (by rfl) (pa_cons (pe_op op_mulW (pe_ix ix_seq (pv 0) pe_int (fun _ _ => rfl)) (pe_ix ix_seq (pv 1) pe_int (fun _ _ => rfl))) (pa_cons (pe_op op_mulW (pe_ix ix_seq (pv 0) pe_int (fun _ _ => rfl)) (pe_ix ix_seq (pv 1) pe_int (fun _ _ => rfl))) pa_nil))))), ?_⟩
  refine ⟨_, rfl, fr0 hu ⟨_, rfl, fr0 hv ⟨_, _, rfl, rfl, mulS sx.1 sy.1, ?_⟩⟩⟩
  refine ⟨_, rfl, fr1 hu ⟨_, rfl, fr1 hv ⟨_, _, rfl, rfl, mulS sx.2.1 sy.2.1, ?_⟩⟩⟩
  exact ⟨_, _, rfl, Int.mul_pos sx.2.2 sy.2.2, Nat.lt_trans (wide_lt sx.2.1 sy.2.1) (Nat.pow_lt_pow_right (by decide) (by decide)), q⟩
theorem ok_number_sum (D : Df K mg "number_sum" s_number_sum ["one", "other"]) (c_lowest_terms : Cal P w K mg base 1 "lowest_terms" sp_low) : Cal P w K mg base 2 "number_sum" (sp_num nsum) := by
  obtain ⟨f, fd, F, m, b⟩ := D.ex
  have sc := sc_number_sum
  refine ⟨f, fd, _, F.ok sc (fun _ _ _ _ ⟨_, _, _, _, e, _⟩ => by rw [e]; rfl) (fun cdv A outer s H vs Q E hr h => ?_), m, F.kp, b⟩
  obtain ⟨u, v, x, y, rfl, hu, hv, sx, sy, q⟩ := h
  refine ⟨_, (pss_one (ps_ret (pe_c c_lowest_terms hr (by decide) (by rfl) (pa_cons (pe_op op_add (pe_op op_mulW (pe_ix ix_seq (pv 0) pe_int (fun _ _ => rfl)) (pe_ix ix_seq (pv 1) pe_int (fun _ _ => rfl))) (pe_op op_mulW (pe_ix ix_seq (pv 1) pe_int (fun _ _ => rfl)) (pe_ix ix_seq (pv 0) pe_int (fun _ _ => rfl)))) (pa_cons (pe_op op_mulW (pe_ix ix_seq (pv 0) pe_int (fun _ _ => rfl)) (pe_ix ix_seq (pv 1) pe_int (fun _ _ => rfl))) pa_nil))))), ?_⟩
  refine ⟨_, rfl, fr0 hu ⟨_, rfl, fr1 hv ⟨_, _, rfl, rfl, mulS sx.1 sy.2.1, ?_⟩⟩⟩
  refine ⟨_, rfl, fr0 hv ⟨_, rfl, fr1 hu ⟨_, _, rfl, rfl, mulS sy.1 sx.2.1, ?_⟩⟩⟩
  refine ⟨_, _, rfl, rfl, ?_⟩
  refine ⟨_, rfl, fr1 hu ⟨_, rfl, fr1 hv ⟨_, _, rfl, rfl, mulS sx.2.1 sy.2.1, ?_⟩⟩⟩
  exact ⟨_, _, rfl, Int.mul_pos sx.2.2 sy.2.2, Nat.lt_trans (wide_lt sx.2.1 sy.2.1) (Nat.pow_lt_pow_right (by decide) (by decide)), q⟩
theorem ok_check_between (D : Df K mg "check_between" s_check_between ["thing", "least", "most"]) (c_is_between : Cal P w K mg base 2 "is_between" sp_is_between) : Cal P w K mg base 3 "check_between" (sp3 (fun n a b => a ≤ n ∧ n ≤ b) fun _ _ _ => .non) := by
  obtain ⟨f, fd, F, m, b⟩ := D.ex
  have sc := sc_check_between
  refine ⟨f, fd, _, F.ok sc sp3_len (fun cdv A outer s H vs Q E hr h => ?_), m, F.kp, b⟩
  obtain ⟨n, lo, hi, rfl, hb, q⟩ := h
  refine ⟨_, (pss_one (ps_if (pt_not (pt_val (pe_c c_is_between hr (by decide) (by rfl) (pa_cons (pv 0) (pa_cons (pv 1) (pa_cons (pv 2) pa_nil))))))
      (pss_one ps_never)
      pss_nil)), ?_⟩
  refine ⟨_, rfl, _, rfl, _, rfl, n, lo, hi, rfl, trivial, _, rfl, ?_⟩
  rw [decide_eq_true hb.1, decide_eq_true hb.2]
  exact iteF q
end
end Ft

set_option exponentiation.threshold 9000
namespace Ft
open PySem L2
/-! ### powers -/
def sp_raised : Sp := fun vs H Q _ => ∃ b e : Nat, vs = [.int (b : Int), .int (e : Int)] ∧ 0 < b ∧ b ^ e < 2 ^ 4000 ∧ Q (.int ((b ^ e : Nat) : Int)) H
def sp_power : Sp := fun vs H Q _ => ∃ b e : Nat, vs = [.int (b : Int), .int (e : Int)] ∧ 0 < b ∧ e ≤ 4000 ∧ b ^ e < 2 ^ 4000 ∧ Q (.int ((b ^ e : Nat) : Int)) H
theorem sq_pow (s q : Nat) : (s * s) ^ q = s ^ (2 * q) := by rw [Nat.mul_pow, ← Nat.pow_add, Nat.two_mul]
theorem pow_even {s e : Nat} (h : e % 2 = 0) : (s * s) ^ (e / 2) = s ^ e := by
  rw [sq_pow]; congr 1; omega
theorem pow_odd {s e : Nat} (h : e % 2 = 1) : s * (s * s) ^ (e / 2) = s ^ e := by
  have e1 : e = 2 * (e / 2) + 1 := by omega
  rw [sq_pow, Nat.mul_comm]
  exact (Nat.pow_succ (n := s) (m := 2 * (e / 2))).symm.trans (congrArg (s ^ ·) e1.symm)
theorem natS {n : Nat} (h : n < 2 ^ 4000) : ((n : Int)).natAbs < 2 ^ 4000 := h
/-- the number of turns left, by slot 1 -/
theorem mul_le_of {r s M : Nat} (h : r * s = M) (hr : 0 < r) (hs : 0 < s) : r ≤ M ∧ s ≤ M := by
  subst h
  exact ⟨Nat.le_mul_of_pos_right _ hs, Nat.le_mul_of_pos_left _ hr⟩
section
variable {P : Program} {w : World} {K : PySem.W.Frag} {mg : Str → Option Value} {base : Heap}
theorem ok_raised (D : Df K mg "raised" s_raised ["base", "exponent"]) : Cal P w K mg base 1 "raised" sp_raised := by
  obtain ⟨f, fd, F, m, b⟩ := D.ex
  have sc := sc_raised
  refine ⟨f, fd, _, F.ok sc (fun _ _ _ _ ⟨_, _, e, _⟩ => by rw [e]; rfl) (fun cdv A outer s H vs Q E hr h => ?_), m, F.kp, b⟩
  obtain ⟨x, n, rfl, hx, hM, q⟩ := h
  refine ⟨_, (pss_cons (ps_set (i := 2) sc.nd rfl (Or.inl rfl) pe_int)
      (pss_cons (ps_set (i := 3) sc.nd rfl (Or.inl rfl) (pv 0))
      (pss_cons (ps_while PassesOwn.never (pt_cmpR op_gt (pv 1) pe_int (nomark _))
      (pss_cons (ps_if (pt_cmpR op_eq (pe_op op_mod (pv 1) pe_int) pe_int (nomark _))
        (pss_one (ps_set (i := 2) sc.nd rfl (Or.inl rfl) (pe_op op_mulW (pv 2) (pv 3))))
        pss_nil)
        (pss_cons (ps_set (i := 3) sc.nd rfl (Or.inl rfl) (pe_op op_mulW (pv 3) (pv 3)))
        (pss_one (ps_set (i := 1) sc.nd rfl (Or.inl rfl) (pe_op op_fdivW (pv 1) pe_int))))))
      (pss_one (ps_ret (pv 2)))))), ?_⟩
  generalize hMM : x ^ n = M at hM q
  refine ⟨_, rfl, ?_⟩
  refine while_go (fun σ H' => H = H' ∧ ∃ (e r s : Nat), σ = [some (.int (x : Nat)), some (.int (e : Nat)), some (.int (r : Nat)), some (.int (s : Nat))] ∧ 0 < r ∧ 0 < s ∧ r * s ^ e = M) (fun σ _ => m0 1 σ)
    ⟨rfl, n, 1, x, rfl, by decide, hx, by rw [Nat.one_mul]; exact hMM⟩ ?_
  rintro σ _ ⟨rfl, e, r, t, rfl, r0, t0, hm⟩
  have hp : 0 < t ^ e := Nat.pow_pos t0
  have lr := mul_le_of hm r0 hp
  have rS : ((r : Int)).natAbs < 2 ^ 4000 := Nat.lt_of_le_of_lt lr.1 hM
  refine ⟨_, rfl, _, _, rfl, rfl, _, rfl, ifD (fun h => ?_) fun h => ?_⟩
  · have e0 : e ≠ 0 := by omega
    have tS : ((t : Int)).natAbs < 2 ^ 4000 := Nat.lt_of_le_of_lt (Nat.le_trans (Nat.le_self_pow e0 t) lr.2) hM
    refine ⟨fun σ' H' => H = H' ∧ ∃ (e' r s : Nat), σ' = [some (.int (x : Nat)), some (.int (e' : Nat)), some (.int (r : Nat)), some (.int (s : Nat))] ∧ 0 < r ∧ 0 < s ∧ r * s ^ e' = M ∧ e' < e, ?_, ?_⟩
    · rintro σ' _ ⟨rfl, e', r', s', rfl, h1, h2, h3, h4⟩
      exact ⟨_, (by show ((e' : Int)).toNat < ((e : Int)).toNat; omega), rfl, rfl, e', r', s', rfl, h1, h2, h3⟩
    refine ⟨_, rfl, _, _, rfl, rfl, (by show (0 : Int) < 2; decide), rfl, _, rfl, ifI (fun k => ?_) fun k => ?_⟩
    · have k' : e % 2 = 1 := by omega
      refine ⟨_, rfl, _, rfl, _, _, rfl, rfl, mulS rS tS, ?_⟩
      refine ⟨_, rfl, _, rfl, _, _, rfl, rfl, mulS tS tS, ?_⟩
      refine ⟨_, rfl, _, _, rfl, rfl, ⟨by decide, by decide⟩, ?_⟩
      refine ⟨rfl, e / 2, r * t, t * t, rfl, Nat.mul_pos r0 t0, Nat.mul_pos t0 t0, ?_, by omega⟩
      rw [Nat.mul_assoc, pow_odd k']
      exact hm
    · have k' : e % 2 = 0 := by omega
      refine ⟨_, rfl, _, rfl, _, _, rfl, rfl, mulS tS tS, ?_⟩
      refine ⟨_, rfl, _, _, rfl, rfl, ⟨by decide, by decide⟩, ?_⟩
      refine ⟨rfl, e / 2, r, t * t, rfl, r0, Nat.mul_pos t0 t0, ?_, by omega⟩
      rw [pow_even k']
      exact hm
  · have e0 : e = 0 := by omega
    subst e0
    rw [Nat.pow_zero, Nat.mul_one] at hm
    subst hm
    exact ⟨_, rfl, q⟩
theorem ok_power (D : Df K mg "_law_power" s__law_power ["_law_x", "_law_k"]) (B : Bi mg) : Cal P w K mg base 1 "_law_power" sp_power := by
  obtain ⟨f, fd, F, m, b⟩ := D.ex
  have sc := sc__law_power
  refine ⟨f, fd, _, F.ok sc (fun _ _ _ _ ⟨_, _, e, _⟩ => by rw [e]; rfl) (fun cdv A outer s H vs Q E hr h => ?_), m, F.kp, b⟩
  obtain ⟨x, n, rfl, hx, hn, hM, q⟩ := h
  refine ⟨_, (pss_cons (ps_set (i := 2) sc.nd rfl (Or.inl rfl) pe_int)
      (pss_cons (ps_for PassesOwn.never rfl (pi_range1 rfl B.range (pa_cons (pv 1) pa_nil)) (pg_name (i := 3) sc.nd rfl (Or.inl rfl))
      (pss_one (ps_set (i := 2) sc.nd rfl (Or.inl rfl) (pe_op op_mulW (pv 2) (pv 0)))))
      (pss_one (ps_ret (pv 2))))), ?_⟩
  have hS : ∀ i, i ≤ n → (((x ^ i : Nat) : Int)).natAbs < 2 ^ 4000 := fun i hi => Nat.lt_of_le_of_lt (Nat.pow_le_pow_right hx hi) hM
  refine ⟨_, rfl, (n : Int), rfl, (by omega), (by omega), for_range (lo := 0) (n := ((n : Int)).toNat) (fun i σ H' => H = H' ∧ ∃ o : Option V, σ = [some (.int (x : Nat)), some (.int (n : Nat)), some (.int ((x ^ i : Nat) : Int)), o]) ⟨rfl, none, rfl⟩ ?_ ?_⟩
  · rintro i σ _ hi ⟨rfl, o, rfl⟩
    have hin : i < n := by omega
    refine ⟨_, rfl, _, rfl, _, _, rfl, rfl, wide_mul (hS i (by omega)) (Nat.lt_of_le_of_lt (Nat.le_self_pow (by omega) x) hM : ((x : Int)).natAbs < 2 ^ 4000) (by decide) (by decide) (by decide), ?_⟩
    refine ⟨rfl, some (V.int (0 + (i : Int))), ?_⟩
    rw [Nat.pow_succ]
    rfl
  · rintro σ _ ⟨rfl, o, rfl⟩
    rw [Int.toNat_natCast]
    exact ⟨_, rfl, q⟩
end
/-- the sum of the powers, by the values of a sign -/
def psumTo (s : Int) (e : Nat) : Nat → Int
  | 0 => 0
  | n + 1 => psumTo s e n + valueAt s (1 + (n : Int)) * (((1 + n) ^ e : Nat) : Int)
def psum (s : Int) (e : Nat) : Int := psumTo s e s.natAbs
theorem mul_one {a b : Int} (h1 : a.natAbs ≤ 1) (h2 : b.natAbs ≤ 1) : (a * b).natAbs ≤ 1 := by
  rw [Int.natAbs_mul]
  exact Nat.mul_le_mul h1 h2
theorem twos_one {z : Int} (hz : z.natAbs ≤ 1) : ∀ (f r : Nat) (v : Int), v.natAbs ≤ 1 → (twos z f r v).2.natAbs ≤ 1
  | 0, r, v, h => h
  | f + 1, r, v, h => by
    by_cases e : r % 2 = 0
    · rw [twos_go e]
      exact twos_one hz f (r / 2) (v * z) (mul_one h hz)
    · rw [twos_stop e]
      exact h
theorem valueAt_one (s n : Int) : (valueAt s n).natAbs ≤ 1 := by
  unfold valueAt valueRest
  split
  · split <;> decide
  · refine mul_one (twos_one ?_ _ _ _ (by decide)) ?_
    · have := valueTwo_le s
      omega
    · unfold valueOdd sg
      dsimp only
      split
      · split <;> decide
      · decide
section
variable {P : Program} {w : World} {K : PySem.W.Frag} {mg : Str → Option Value} {base : Heap}
def sp_psum : Sp := fun vs H Q _ => ∃ (s : Int) (e : Nat), vs = [.int s, .int (e : Int)] ∧ s ≠ 0 ∧ s.natAbs ≤ 400 ∧ e ≤ 24 ∧ Q (.int (psum s e)) H
theorem pow_400 {a e : Nat} (ha : a ≤ 400) (he : e ≤ 24) : a ^ e < 2 ^ 4000 :=
  Nat.lt_of_le_of_lt (Nat.le_trans (Nat.pow_le_pow_left ha e) (Nat.pow_le_pow_right (by decide) he)) (Nat.lt_of_lt_of_le (show 400 ^ 24 < 2 ^ 256 by decide) (Nat.pow_le_pow_right (by decide) (by decide)))
theorem ok_power_sum (D : Df K mg "power_sum" s_power_sum ["sign", "e"]) (B : Bi mg) (c_value_at : Cal P w K mg base 2 "value_at" sp_value_at) (c_raised : Cal P w K mg base 1 "raised" sp_raised) : Cal P w K mg base 3 "power_sum" sp_psum := by
  obtain ⟨f, fd, F, m, b⟩ := D.ex
  have sc := sc_power_sum
  refine ⟨f, fd, _, F.ok sc (fun _ _ _ _ ⟨_, _, e, _⟩ => by rw [e]; rfl) (fun cdv A outer s H vs Q E hr h => ?_), m, F.kp, b⟩
  obtain ⟨z, e, rfl, z0, hz, he, q⟩ := h
  refine ⟨_, (pss_cons (ps_set (i := 2) sc.nd rfl (Or.inl rfl) pe_int)
      (pss_cons (ps_for PassesOwn.never rfl (pi_range2 (by rfl) B.range (pa_cons pe_int (pa_cons (pe_op op_add (pe_callB call_abs (by rfl) B.abs (by decide +kernel) (pa_cons (pv 0) pa_nil)) pe_int) pa_nil))) (pg_name (i := 3) sc.nd rfl (Or.inl rfl))
      (pss_one (ps_aug (i := 2) sc.nd rfl (Or.inl rfl) (pe_op op_mulW (pe_c c_value_at hr (by decide) (by rfl) (pa_cons (pv 0) (pa_cons (pv 3) pa_nil))) (pe_c c_raised hr (by decide) (by rfl) (pa_cons (pv 3) (pa_cons (pv 1) pa_nil)))) ip_add)))
      (pss_one (ps_ret (pv 2))))), ?_⟩
  have ea : (if z < 0 then -z else z) = (z.natAbs : Int) := by split <;> omega
  refine ⟨_, rfl, z, rfl, _, _, rfl, rfl, 1, _, rfl, (by rw [ea]; omega), ?_⟩
  rw [ea]
  refine for_range (lo := 1) (n := ((z.natAbs : Int) + 1 - 1).toNat) (fun i σ H' => H = H' ∧ ∃ o : Option V, σ = [some (.int z), some (.int (e : Nat)), some (.int (psumTo z e i)), o]) ⟨rfl, none, rfl⟩ ?_ ?_
  · rintro i σ _ hi ⟨rfl, o, rfl⟩
    have hin : i < z.natAbs := by omega
    have hp : (1 + i) ^ e < 2 ^ 4000 := pow_400 (by omega) he
    refine ⟨_, rfl, _, rfl, _, rfl, z, _, rfl, z0, ?_⟩
    refine ⟨_, rfl, _, rfl, 1 + i, e, ?_, by omega, hp, ?_⟩
    · show [V.int ((1 : Int) + (i : Int)), V.int (e : Int)] = _
      rw [Int.natCast_add]; rfl
    refine ⟨_, _, rfl, rfl, wide_mul (a := 4000) (b := 4000) (Nat.lt_of_le_of_lt (valueAt_one z _) (Nat.one_lt_two_pow (by decide))) hp (by decide) (by decide) (by decide), ?_⟩
    exact ⟨_, _, rfl, rfl, rfl, some (V.int (1 + (i : Int))), rfl⟩
  · rintro σ _ ⟨rfl, o, rfl⟩
    have e1 : ((z.natAbs : Int) + 1 - 1).toNat = z.natAbs := by omega
    rw [e1]
    exact ⟨_, rfl, q⟩
end
end Ft

set_option exponentiation.threshold 9000
namespace Ft
open PySem L2
/-! ### Bernoulli's numbers, with bounds on the way -/
def smallB (x : Fq) : Bool := Nat.blt x.1.natAbs (2 ^ 4000) && Nat.blt x.2.natAbs (2 ^ 4000) && decide (0 < x.2)
theorem smallB_of {x : Fq} (h : smallB x = true) : Small 4000 x := by
  unfold smallB at h
  simp only [Bool.and_eq_true, decide_eq_true_eq, Nat.blt_eq] at h
  exact ⟨h.1.1, h.1.2, h.2⟩
def plainIn (n : Nat) : Nat → List Fq → Fq → Option Fq
  | _, [], t => some t
  | i, p :: ps, t =>
    if smallB (PySem.W.mcComb ((n : Int) + 1) (i : Int), 1) && smallB (nprod p (PySem.W.mcComb ((n : Int) + 1) (i : Int), 1)) && smallB (nsum t (nprod p (PySem.W.mcComb ((n : Int) + 1) (i : Int), 1))) then
      plainIn n (i + 1) ps (nsum t (nprod p (PySem.W.mcComb ((n : Int) + 1) (i : Int), 1)))
    else none
def plainTo : Nat → Option (List Fq)
  | 0 => some [(1, 1)]
  | k + 1 => match plainTo k with
    | none => none
    | some l => match plainIn (k + 1) 0 l (0, 1) with
      | none => none
      | some t => if smallB (nprod t (-1, ((k + 1 : Nat) : Int) + 1)) then some (l ++ [nprod t (-1, ((k + 1 : Nat) : Int) + 1)]) else none
def bernGo (m : Nat) (k : Nat) (P : Nat → Int) : Nat → List Fq → Fq → Option Fq
  | _, [], t => some t
  | i, p :: ps, t =>
    if smallB (P (k - i), 1) && smallB (PySem.W.mcComb (k : Int) (i : Int) * ((m ^ i : Nat) : Int), 1) && smallB (PySem.W.mcComb (k : Int) (i : Int) * ((m ^ i : Nat) : Int) * P (k - i), (m : Int)) && smallB (nprod p (PySem.W.mcComb (k : Int) (i : Int) * ((m ^ i : Nat) : Int) * P (k - i), (m : Int))) &&
      smallB (nsum t (nprod p (PySem.W.mcComb (k : Int) (i : Int) * ((m ^ i : Nat) : Int) * P (k - i), (m : Int)))) then
      bernGo m k P (i + 1) ps (nsum t (nprod p (PySem.W.mcComb (k : Int) (i : Int) * ((m ^ i : Nat) : Int) * P (k - i), (m : Int))))
    else none
theorem plain_small : ∀ (k : Nat) (l : List Fq), plainTo k = some l → l.length = k + 1 ∧ ∀ x ∈ l, Small 4000 x
  | 0, l, h => by
    obtain rfl : [((1 : Int), (1 : Int))] = l := Option.some.inj h
    refine ⟨rfl, fun x hx => ?_⟩
    obtain rfl := List.mem_singleton.mp hx
    exact smallB_of (by decide +kernel)
  | k + 1, l, h => by
    unfold plainTo at h
    split at h
    · cases h
    · rename_i l0 h0
      have ih := plain_small k l0 h0
      split at h
      · cases h
      · split at h
        · rename_i hs
          obtain rfl := Option.some.inj h
          refine ⟨by rw [List.length_append, ih.1]; rfl, fun x hx => ?_⟩
          rcases List.mem_append.mp hx with hx | hx
          · exact ih.2 x hx
          · obtain rfl := List.mem_singleton.mp hx
            exact smallB_of hs
        · cases h
theorem plain_all : (List.range 25).all (fun i => (plainTo i).isSome) = true := by decide +kernel
theorem plain_some {k : Nat} (h : k ≤ 24) : ∃ l, plainTo k = some l := by
  have c := List.all_eq_true.mp plain_all k (List.mem_range.mpr (by omega))
  cases e : plainTo k with
  | none => rw [e] at c; cases c
  | some l => exact ⟨l, rfl⟩
theorem plain_step {k : Nat} {l' : List Fq} (h : plainTo (k + 1) = some l') : ∃ l R, plainTo k = some l ∧ plainIn (k + 1) 0 l (0, 1) = some R ∧ Small 4000 (nprod R (-1, ((k + 1 : Nat) : Int) + 1)) ∧ l' = l ++ [nprod R (-1, ((k + 1 : Nat) : Int) + 1)] := by
  unfold plainTo at h
  split at h
  · cases h
  · rename_i l0 h0
    split at h
    · cases h
    · rename_i R hR
      split at h
      · rename_i hs
        exact ⟨l0, R, h0, hR, smallB_of hs, (Option.some.inj h).symm⟩
      · cases h
theorem plainIn_step {n i : Nat} {p : Fq} {ps : List Fq} {t R : Fq} (h : plainIn n i (p :: ps) t = some R) :
    Small 4000 (PySem.W.mcComb ((n : Int) + 1) (i : Int), 1) ∧ Small 4000 (nprod p (PySem.W.mcComb ((n : Int) + 1) (i : Int), 1)) ∧ Small 4000 (nsum t (nprod p (PySem.W.mcComb ((n : Int) + 1) (i : Int), 1))) ∧
      plainIn n (i + 1) ps (nsum t (nprod p (PySem.W.mcComb ((n : Int) + 1) (i : Int), 1))) = some R := by
  unfold plainIn at h
  split at h
  · rename_i c
    simp only [Bool.and_eq_true] at c
    exact ⟨smallB_of c.1.1, smallB_of c.1.2, smallB_of c.2, h⟩
  · cases h
theorem bernGo_step {m k : Nat} {P : Nat → Int} {i : Nat} {p : Fq} {ps : List Fq} {t R : Fq} (h : bernGo m k P i (p :: ps) t = some R) :
    (P (k - i)).natAbs < 2 ^ 4000 ∧ (PySem.W.mcComb (k : Int) (i : Int) * ((m ^ i : Nat) : Int)).natAbs < 2 ^ 4000 ∧ Small 4000 (PySem.W.mcComb (k : Int) (i : Int) * ((m ^ i : Nat) : Int) * P (k - i), (m : Int)) ∧
      Small 4000 (nprod p (PySem.W.mcComb (k : Int) (i : Int) * ((m ^ i : Nat) : Int) * P (k - i), (m : Int))) ∧ Small 4000 (nsum t (nprod p (PySem.W.mcComb (k : Int) (i : Int) * ((m ^ i : Nat) : Int) * P (k - i), (m : Int)))) ∧
      bernGo m k P (i + 1) ps (nsum t (nprod p (PySem.W.mcComb (k : Int) (i : Int) * ((m ^ i : Nat) : Int) * P (k - i), (m : Int)))) = some R := by
  unfold bernGo at h
  split at h
  · rename_i c
    simp only [Bool.and_eq_true] at c
    exact ⟨(smallB_of c.1.1.1.1).1, (smallB_of c.1.1.1.2).1, smallB_of c.1.1.2, smallB_of c.1.2, smallB_of c.2, h⟩
  · cases h
/-- the values us are the numbers l -/
def Frs (H : Hp) (us : List V) (l : List Fq) : Prop := us.length = l.length ∧ ∀ (i : Nat) (u : V) (x : Fq), us[i]? = some u → l[i]? = some x → Fr H u x
theorem Frs.same {H H' : Hp} {us : List V} {l : List Fq} (h : Frs H us l) (s : Same H H') : Frs H' us l := ⟨h.1, fun i u x e1 e2 => (h.2 i u x e1 e2).same s⟩
theorem Frs.one {H : Hp} {v : V} {x : Fq} (h : Fr H v x) : Frs H [v] [x] := by
  refine ⟨rfl, fun i u y e1 e2 => ?_⟩
  cases i with
  | zero =>
    obtain rfl := Option.some.inj e1
    obtain rfl := Option.some.inj e2
    exact h
  | succ i => cases e1
theorem Frs.snoc {H : Hp} {us : List V} {l : List Fq} {v : V} {x : Fq} (h : Frs H us l) (hv : Fr H v x) : Frs H (us ++ [v]) (l ++ [x]) := by
  refine ⟨by rw [List.length_append, List.length_append, h.1]; rfl, fun i u y e1 e2 => ?_⟩
  rcases Nat.lt_or_ge i us.length with hi | hi
  · rw [List.getElem?_append_left hi] at e1
    rw [List.getElem?_append_left (by rw [← h.1]; exact hi)] at e2
    exact h.2 i u y e1 e2
  · rw [List.getElem?_append_right hi] at e1
    rw [List.getElem?_append_right (by rw [← h.1]; exact hi)] at e2
    rw [← h.1] at e2
    exact (Frs.one hv).2 _ u y e1 e2
theorem Frs.get {H : Hp} {us : List V} {l : List Fq} (h : Frs H us l) {i : Nat} (hi : i < us.length) : ∃ u x, us[i]? = some u ∧ l[i]? = some x ∧ Fr H u x ∧ x ∈ l ∧ l.drop i = x :: l.drop (i + 1) := by
  have hl : i < l.length := by rw [← h.1]; exact hi
  refine ⟨us[i], l[i], List.getElem?_eq_getElem hi, List.getElem?_eq_getElem hl, h.2 i _ _ (List.getElem?_eq_getElem hi) (List.getElem?_eq_getElem hl), List.getElem_mem hl, ?_⟩
  exact List.drop_eq_getElem_cons hl
def sp_plain : Sp := fun vs H Q _ => ∃ (k : Nat) (l : List Fq), vs = [.int (k : Int)] ∧ k ≤ 24 ∧ plainTo k = some l ∧ ∀ H' p us, Same H H' → H' p = some (.lst us) → Frs H' us l → Q (.ref p) H'
section
variable {P : Program} {w : World} {K : PySem.W.Frag} {mg : Str → Option Value} {base : Heap}
theorem ok_plain_numbers (D : Df K mg "plain_numbers" s_plain_numbers ["k"]) (B : Bi mg) (c_number_sum : Cal P w K mg base 2 "number_sum" (sp_num nsum)) (c_number_product : Cal P w K mg base 2 "number_product" (sp_num nprod)) : Cal P w K mg base 3 "plain_numbers" sp_plain := by
  obtain ⟨f, fd, F, m, b⟩ := D.ex
  have sc := sc_plain_numbers
  refine ⟨f, fd, _, F.ok sc (fun _ _ _ _ ⟨_, _, e, _⟩ => by rw [e]; rfl) (fun cdv A outer s H vs Q E hr h => ?_), m, F.kp, b⟩
  obtain ⟨k, l, rfl, hk, hl, q⟩ := h
  refine ⟨_, (pss_cons (ps_set (i := 1) sc.nd rfl (Or.inl rfl) (pe_lst (pa_cons (pe_tup (pa_cons pe_int (pa_cons pe_int pa_nil))) pa_nil)))
      (pss_cons (ps_for PassesOwn.never rfl (pi_range2 (by rfl) B.range (pa_cons pe_int (pa_cons (pe_op op_add (pv 0) pe_int) pa_nil))) (pg_name (i := 2) sc.nd rfl (Or.inl rfl))
      (pss_cons (ps_set (i := 3) sc.nd rfl (Or.inl rfl) (pe_tup (pa_cons pe_int (pa_cons pe_int pa_nil))))
        (pss_cons (ps_for PassesOwn.never rfl (pi_enum (by rfl) B.enumerate (pa_cons (pv 1) pa_nil)) (pg_tup rfl (pgs_cons (pg_name (i := 4) sc.nd rfl (Or.inl rfl)) (pgs_cons (pg_name (i := 5) sc.nd rfl (Or.inl rfl)) pgs_nil)))
        (pss_one (ps_set (i := 3) sc.nd rfl (Or.inl rfl) (pe_c c_number_sum hr (by decide) (by rfl) (pa_cons (pv 3) (pa_cons (pe_c c_number_product hr (by decide) (by rfl) (pa_cons (pv 5) (pa_cons (pe_tup (pa_cons (pe_callBfun cr_comb (by rfl) B.comb (pa_cons (pe_op op_add (pv 2) pe_int) (pa_cons (pv 4) pa_nil))) (pa_cons pe_int pa_nil))) pa_nil))) pa_nil))))))
        (pss_one (ps_expr (pe_bm PySem.F.plainAttrs_list PySem.F.slot_list_append PySem.F.type_list_append mt_append (pv 1) (pa_cons (pe_c c_number_product hr (by decide) (by rfl) (pa_cons (pv 3) (pa_cons (pe_tup (pa_cons (pe_un un_neg pe_int) (pa_cons (pe_op op_add (pv 2) pe_int) pa_nil))) pa_nil))) pa_nil)))))))
      (pss_one (ps_ret (pv 1))))), ?_⟩
  refine ⟨(by show (2 : Nat) ≤ sizeLine; decide), fun p1 hp1 => ?_⟩
  have s1 : Same H (upd H p1 (.tup [V.int 1, V.int 1])) := Same.upd_new hp1
  have f1 : Fr (upd H p1 (.tup [V.int 1, V.int 1])) (.ref p1) (1, 1) := Fr.new
  generalize hH1 : upd H p1 (.tup [V.int 1, V.int 1]) = H1 at s1 f1
  refine ⟨(by show (1 : Nat) ≤ sizeLine; decide), fun p hp => ?_⟩
  have s2 : Same H1 (upd H1 p (.lst [V.ref p1])) := Same.upd_new hp
  have hpl : (upd H1 p (.lst [V.ref p1])) p = some (.lst [V.ref p1]) := upd_same
  generalize hH2 : upd H1 p (.lst [V.ref p1]) = H2 at s2 hpl
  have hp0 : H p = none := s1.free hp
  have s02 : Same H H2 := s1.trans s2
  refine ⟨_, rfl, _, _, rfl, rfl, 1, _, rfl, (by omega), ?_⟩
  refine for_range (lo := 1) (n := ((k : Int) + 1 - 1).toNat) (fun i σ H' => Same H H' ∧ ∃ (us : List V) (l : List Fq) (o1 o2 o3 o4 : Option V), σ = [some (.int (k : Int)), some (.ref p), o1, o2, o3, o4] ∧ H' p = some (.lst us) ∧ Frs H' us l ∧ plainTo i = some l) ⟨s02, [V.ref p1], [(1, 1)], none, none, none, none, rfl, hpl, (Frs.one f1).same s2, rfl⟩ ?_ ?_
  · rintro i σ H3 hi ⟨s3, us, l3, o1, o2, o3, o4, rfl, hp3, hf3, hl3⟩
    have hik : i < k := by omega
    obtain ⟨l4, hl4⟩ := plain_some (show i + 1 ≤ 24 by omega)
    obtain ⟨l3', R, e3, hR, hRs, rfl⟩ := plain_step hl4
    obtain rfl : l3 = l3' := Option.some.inj (hl3.symm.trans e3)
    have sm := plain_small i l3 hl3
    refine ⟨(by show (2 : Nat) ≤ sizeLine; decide), fun p4 hp4 => ?_⟩
    have s4 : Same H3 (upd H3 p4 (.tup [V.int 0, V.int 1])) := Same.upd_new hp4
    have f4 : Fr (upd H3 p4 (.tup [V.int 0, V.int 1])) (.ref p4) (0, 1) := Fr.new
    generalize hH4 : upd H3 p4 (.tup [V.int 0, V.int 1]) = H4 at s4 f4
    have hp4' := s4 _ _ hp3
    refine ⟨_, rfl, p, _, rfl, SqL.of hp4', ?_⟩
    refine for_it (walk_enum (xs := us)) (fun j σ H' => Same H4 H' ∧ ∃ (v : V) (t : Fq) (o3 o4 : Option V), σ = [some (.int (k : Int)), some (.ref p), some (.int (1 + (i : Int))), some v, o3, o4] ∧ Fr H' v t ∧ Small 4000 t ∧ plainIn (i + 1) j (l3.drop j) t = some R) ⟨Same.refl _, _, _, _, _, rfl, f4, smallB_of (by decide +kernel), hR⟩ (fun j σ H' _ ⟨s5, _⟩ => SqL.of (s5 _ _ hp4')) ?_ ?_
    · rintro j x σ H5 H6 hj ⟨s5, v, t, o3, o4, rfl, fv, tS, hin⟩ ⟨T, u, y, rfl, hT, rfl, hu, hy⟩
      obtain rfl : u = V.int (j : Nat) := (Option.some.inj hu).symm
      obtain ⟨y', x, hy', hx, _, hxm, hdrop⟩ := hf3.get hj
      obtain rfl : y = y' := Option.some.inj (hy.symm.trans hy')
      have fy : Fr H3 y x := hf3.2 j y x hy' hx
      rw [hdrop] at hin
      obtain ⟨k1, k2, k3, k4⟩ := plainIn_step hin
      have s6 : Same H5 (upd H5 T (.tup [V.int (j : Nat), y])) := Same.upd_new hT
      have hTT : (upd H5 T (.tup [V.int (j : Nat), y])) T = some (.tup [V.int (j : Nat), y]) := upd_same
      generalize hH6 : upd H5 T (.tup [V.int (j : Nat), y]) = H6 at s6 hTT
      refine ⟨T, _, rfl, SqT.of hTT, rfl, ?_⟩
      refine ⟨_, _, rfl, _, _, rfl, rfl, ?_⟩
      have sl := sm.1
      have ul := hf3.1
      have ci : (1 : Int) + (i : Int) + 1 = ((i + 1 : Nat) : Int) + 1 := by omega
      refine ⟨_, rfl, _, rfl, _, rfl, _, _, rfl, rfl, _, rfl, _, _, rfl, (by omega), (by omega), (by omega), ?_⟩
      refine ⟨(by show (2 : Nat) ≤ sizeLine; decide), fun p5 hp5 => ?_⟩
      rw [ci]
      have s7 : Same H6 (upd H6 p5 (.tup [V.int (PySem.W.mcComb (((i + 1 : Nat) : Int) + 1) (j : Int)), V.int 1])) := Same.upd_new hp5
      have f7 : Fr (upd H6 p5 (.tup [V.int (PySem.W.mcComb (((i + 1 : Nat) : Int) + 1) (j : Int)), V.int 1])) (.ref p5) (PySem.W.mcComb (((i + 1 : Nat) : Int) + 1) (j : Int), 1) := Fr.new
      generalize hH7 : upd H6 p5 (.tup [V.int (PySem.W.mcComb (((i + 1 : Nat) : Int) + 1) (j : Int)), V.int 1]) = H7 at s7 f7
      have s37 : Same H3 H7 := s4.trans (s5.trans (s6.trans s7))
      refine ⟨_, _, x, _, rfl, fy.same s37, f7, sm.2 x hxm, k1, fun H8 r s8 f8 => ?_⟩
      refine ⟨_, _, t, _, rfl, fv.same (s6.trans (s7.trans s8)), f8, tS, k2, fun H9 r9 s9 f9 => ?_⟩
      exact ⟨s5.trans (s6.trans (s7.trans (s8.trans s9))), _, _, _, _, rfl, f9, k3, k4⟩
    · rintro σ H5 ⟨s5, v, t, o3, o4, rfl, fv, tS, hin⟩
      have hd : l3.drop us.length = [] := by rw [hf3.1]; exact List.drop_length
      rw [hd] at hin
      obtain rfl : t = R := Option.some.inj hin
      have hp5 := s5 _ _ hp4'
      have ci : (1 : Int) + (i : Int) + 1 = ((i + 1 : Nat) : Int) + 1 := by omega
      rw [← ci] at hl4
      refine ⟨_, rfl, .inl ⟨rfl, _, SqL.of hp5⟩, _, rfl, _, rfl, _, rfl, _, _, rfl, rfl, ?_⟩
      refine ⟨(by show (2 : Nat) ≤ sizeLine; decide), fun p6 hp6 => ?_⟩
      have s6 : Same H5 (upd H5 p6 (.tup [V.int (-1), V.int (1 + (i : Int) + 1)])) := Same.upd_new hp6
      have f6 : Fr (upd H5 p6 (.tup [V.int (-1), V.int (1 + (i : Int) + 1)])) (.ref p6) (-1, 1 + (i : Int) + 1) := Fr.new
      have fin : ∀ (H7 : Hp) (r : V), Same (upd H5 p6 (.tup [V.int (-1), V.int (1 + (i : Int) + 1)])) H7 → Fr H7 r (nprod t (-1, 1 + (i : Int) + 1)) →
          H7 p = some (.lst us) ∧ us.length < sizeLine ∧ Same H (upd H7 p (.lst (us ++ [r]))) ∧ Frs (upd H7 p (.lst (us ++ [r]))) (us ++ [r]) (l3 ++ [nprod t (-1, 1 + (i : Int) + 1)]) := by
        intro H7 r s7 f7
        have s37 := s4.trans (s5.trans (s6.trans s7))
        have h7 : H7 p = some (.lst us) := s7 _ _ (s6 _ _ hp5)
        refine ⟨h7, Nat.lt_of_le_of_lt (by have := hf3.1; have := sm.1; omega : us.length ≤ 25) (by decide), fun b o e => ?_, Frs.snoc ?_ ?_⟩
        · rw [upd_ne (ne_of_none e hp0)]
          exact s37 _ _ (s3 _ _ e)
        · refine ⟨hf3.1, fun i u x e1 e2 => ?_⟩
          obtain ⟨a, e, z⟩ := (hf3.2 i u x e1 e2).same s37
          exact ⟨a, e, by rw [upd_ne (ne_of z h7 (by intro z; cases z))]; exact z⟩
        · obtain ⟨a, e, z⟩ := f7
          exact ⟨a, e, by rw [upd_ne (ne_of z h7 (by intro z; cases z))]; exact z⟩
      refine ⟨_, _, t, _, rfl, fv.same s6, f6, tS, ⟨(by show (1 : Nat) < 2 ^ 4000; exact Nat.one_lt_two_pow (by decide)), Nat.lt_of_le_of_lt (by omega : (1 + (i : Int) + 1).natAbs ≤ 2 ^ 5) (Nat.pow_lt_pow_right (by decide) (by decide)), by show (0 : Int) < 1 + (i : Int) + 1; omega⟩, fun H7 r s7 f7 => ?_⟩
      have z := fin H7 r s7 f7
      refine ⟨p, _, _, rfl, rfl, z.1, z.2.1, ?_⟩
      exact ⟨z.2.2.1, _, _, _, _, _, _, rfl, upd_same, z.2.2.2, hl4⟩
  · rintro σ H3 ⟨s3, us, l3, o1, o2, o3, o4, rfl, hp3, hf3, hl3⟩
    have e1 : ((k : Int) + 1 - 1).toNat = k := by omega
    rw [e1] at hl3
    obtain rfl : l3 = l := Option.some.inj (hl3.symm.trans hl)
    exact ⟨_, rfl, q _ p us s3 hp3 hf3⟩
end
end Ft

set_option exponentiation.threshold 9000
namespace Ft
open PySem L2
theorem kb_bernoulli {K : PySem.W.Frag} {f : Addr} {fd : FuncData} (F : Fun K "bernoulli" "bernoulli" s_bernoulli f fd) : KBinds K fd ["k", "sign"] ["sign", "k"] swapU swapV := by
  obtain ⟨oc, od, kV, doc, pm, an, cdv, ct, osl, rfl, lk, hcd⟩ := F.ex
  refine ⟨fun s us ws _ hl => ?_, swap_rel⟩
  match us, ws, hl with
  | [], [a, b], _ => exact .of_eq rfl
theorem comb_all : (List.range 26).all (fun a => (List.range 26).all fun b => Nat.blt (PySem.W.mcComb (a : Int) (b : Int)).natAbs (2 ^ 64)) = true := by decide +kernel
theorem comb_small {a b : Nat} (ha : a < 26) (hb : b < 26) : (PySem.W.mcComb (a : Int) (b : Int)).natAbs < 2 ^ 4000 := by
  have c := List.all_eq_true.mp (List.all_eq_true.mp comb_all a (List.mem_range.mpr ha)) b (List.mem_range.mpr hb)
  rw [Nat.blt_eq] at c
  exact Nat.lt_trans c (Nat.pow_lt_pow_right (by decide) (by decide))
/-- the program's number -/
def IsBern (k : Nat) (s : Int) (x : Fq) : Prop := ∃ l, plainTo k = some l ∧ bernGo s.natAbs k (psum s) 0 l (0, 1) = some x
def sp_bern : Sp := fun vs H Q _ => ∃ (k : Nat) (s : Int) (x : Fq), vs = [.int (k : Int), .int s] ∧ k ≤ 24 ∧ isSign s = true ∧ IsBern k s x ∧ ∀ H' v, Same H H' → Fr H' v x → Q v H'
section
variable {P : Program} {w : World} {K : PySem.W.Frag} {mg : Str → Option Value} {base : Heap}
theorem fn_bernoulli {f : Addr} {fd : FuncData} (F : Fun K "bernoulli" "bernoulli" s_bernoulli f fd) (B : Bi mg) (c_check_between : Cal P w K mg base 3 "check_between" (sp3 (fun n a b => a ≤ n ∧ n ≤ b) fun _ _ _ => .non)) (c_check_sign : Cal P w K mg base 4 "check_sign" sp_check_sign) (c_plain_numbers : Cal P w K mg base 3 "plain_numbers" sp_plain) (c_raised : Cal P w K mg base 1 "raised" sp_raised) (c_power_sum : Cal P w K mg base 3 "power_sum" sp_psum)
    (c_number_sum : Cal P w K mg base 2 "number_sum" (sp_num nsum)) (c_number_product : Cal P w K mg base 2 "number_product" (sp_num nprod)) : FnOk P w K mg base CX0 5 f fd ["k", "sign"] sp_bern := by
  have sc := sc_bernoulli
  refine F.ok sc (fun _ _ _ _ ⟨_, _, _, e, _⟩ => by rw [e]; rfl) (fun cdv A outer s H vs Q E hr h => ?_)
  obtain ⟨k, z, x, rfl, hk, hz, ⟨l, hl, hb⟩, q⟩ := h
  have hu := hu_of hr
  refine ⟨_, (pss_cons (ps_expr (pe_c c_check_between hr (by decide) (by rfl) (pa_cons (pv 0) (pa_cons pe_int (pa_cons pe_int pa_nil)))))
      (pss_cons (ps_expr (pe_c c_check_sign hr (by decide) (by rfl) (pa_cons (pv 1) pa_nil)))
      (pss_cons (ps_set (i := 2) sc.nd rfl (Or.inl rfl) (pe_callB call_abs (by rfl) B.abs (by decide +kernel) (pa_cons (pv 1) pa_nil)))
      (pss_cons (ps_set (i := 3) sc.nd rfl (Or.inl rfl) (pe_tup (pa_cons pe_int (pa_cons pe_int pa_nil))))
      (pss_cons (ps_for PassesOwn.never rfl (pi_enum (by rfl) B.enumerate (pa_cons (pe_c c_plain_numbers hr (by decide) (by rfl) (pa_cons (pv 0) pa_nil)) pa_nil)) (pg_tup rfl (pgs_cons (pg_name (i := 4) sc.nd rfl (Or.inl rfl)) (pgs_cons (pg_name (i := 5) sc.nd rfl (Or.inl rfl)) pgs_nil)))
      (pss_cons (ps_set (i := 6) sc.nd rfl (Or.inl rfl) (pe_op op_mulW (pe_op op_mulW (pe_callBfun cr_comb (by rfl) B.comb (pa_cons (pv 0) (pa_cons (pv 4) pa_nil))) (pe_c c_raised hr (by decide) (by rfl) (pa_cons (pv 2) (pa_cons (pv 4) pa_nil)))) (pe_c c_power_sum hr (by decide) (by rfl) (pa_cons (pv 1) (pa_cons (pe_op op_sub (pv 0) (pv 4)) pa_nil)))))
        (pss_one (ps_set (i := 3) sc.nd rfl (Or.inl rfl) (pe_c c_number_sum hr (by decide) (by rfl) (pa_cons (pv 3) (pa_cons (pe_c c_number_product hr (by decide) (by rfl) (pa_cons (pv 5) (pa_cons (pe_tup (pa_cons (pv 6) (pa_cons (pv 2) pa_nil))) pa_nil))) pa_nil)))))))
      (pss_one (ps_ret (pv 3)))))))), ?_⟩
  have hzl := isSign_le hz
  have ea : (if z < 0 then -z else z) = (z.natAbs : Int) := by split <;> omega
  have sm := plain_small k l hl
  refine ⟨_, rfl, _, _, _, rfl, ⟨by omega, by omega⟩, ?_⟩
  refine ⟨_, rfl, z, rfl, hz, ?_⟩
  refine ⟨_, rfl, z, rfl, ?_⟩
  rw [ea]
  refine ⟨(by show (2 : Nat) ≤ sizeLine; decide), fun p1 hp1 => ?_⟩
  have s1 : Same H (upd H p1 (.tup [V.int 0, V.int 1])) := Same.upd_new hp1
  have f1 : Fr (upd H p1 (.tup [V.int 0, V.int 1])) (.ref p1) (0, 1) := Fr.new
  generalize hH1 : upd H p1 (.tup [V.int 0, V.int 1]) = H1 at s1 f1
  refine ⟨_, rfl, k, l, rfl, hk, hl, fun H2 p us s2 hp hf => ?_⟩
  refine ⟨p, _, rfl, SqL.of hp, ?_⟩
  refine for_it (walk_enum (xs := us)) (fun j σ H' => Same H2 H' ∧ ∃ (v : V) (t : Fq) (o3 o4 o5 : Option V), σ = [some (.int (k : Int)), some (.int z), some (.int (z.natAbs : Int)), some v, o3, o4, o5] ∧ Fr H' v t ∧ Small 4000 t ∧ bernGo z.natAbs k (psum z) j (l.drop j) t = some x) ⟨Same.refl _, _, _, _, _, _, rfl, f1.same s2, smallB_of (by decide +kernel), hb⟩ (fun j σ H' _ ⟨s5, _⟩ => SqL.of (s5 _ _ hp)) ?_ ?_
  · rintro j x0 σ H5 H6 hj ⟨s5, v, t, o3, o4, o5, rfl, fv, tS, hin⟩ ⟨T, u, y, rfl, hT, rfl, hu, hy⟩
    obtain rfl : u = V.int (j : Nat) := (Option.some.inj hu).symm
    obtain ⟨y', x', hy', hx, _, hxm, hdrop⟩ := hf.get hj
    obtain rfl : y = y' := Option.some.inj (hy.symm.trans hy')
    have fy : Fr H2 y x' := hf.2 j y x' hy' hx
    rw [hdrop] at hin
    obtain ⟨k1, k2, k3, k4, k5, k6⟩ := bernGo_step hin
    have s6 : Same H5 (upd H5 T (.tup [V.int (j : Nat), y])) := Same.upd_new hT
    have hTT : (upd H5 T (.tup [V.int (j : Nat), y])) T = some (.tup [V.int (j : Nat), y]) := upd_same
    generalize hH6 : upd H5 T (.tup [V.int (j : Nat), y]) = H6 at s6 hTT
    have sl := sm.1
    have ul := hf.1
    have hjk : j ≤ k := by omega
    refine ⟨T, _, rfl, SqT.of hTT, rfl, ?_⟩
    refine ⟨_, _, rfl, _, _, rfl, rfl, ?_⟩
    have hpw : z.natAbs ^ j < 2 ^ 4000 := pow_400 hzl.1 (by omega)
    refine ⟨_, rfl, _, rfl, _, _, rfl, (by omega), (by omega), (by omega), ?_⟩
    refine ⟨_, rfl, _, rfl, z.natAbs, j, rfl, (by omega), hpw, ?_⟩
    refine ⟨_, _, rfl, rfl, ?_, ?_⟩
    · exact wide_mul (comb_small (by omega) (by omega)) hpw (by decide) (by decide) (by decide)
    have ek : (k : Int) - (j : Int) = ((k - j : Nat) : Int) := by omega
    refine ⟨_, rfl, _, rfl, _, rfl, _, _, rfl, rfl, z, k - j, ?_, hzl.2.1, hzl.1, by omega, ?_⟩
    · show [V.int z, V.int ((k : Int) - (j : Int))] = _
      rw [ek]
    refine ⟨_, _, rfl, rfl, wide_mul k2 k1 (by decide) (by decide) (by decide), ?_⟩
    refine ⟨_, rfl, _, rfl, _, rfl, _, rfl, ?_⟩
    refine ⟨(by show (2 : Nat) ≤ sizeLine; decide), fun p5 hp5 => ?_⟩
    generalize hH7 : upd H6 p5 _ = H7
    have s7 : Same H6 H7 := by rw [← hH7]; exact Same.upd_new hp5
    have f7 : Fr H7 (.ref p5) (PySem.W.mcComb (k : Int) (j : Int) * ((z.natAbs ^ j : Nat) : Int) * psum z (k - j), (z.natAbs : Int)) := by rw [← hH7]; exact Fr.new
    have s27 : Same H2 H7 := s5.trans (s6.trans s7)
    refine ⟨_, _, x', _, rfl, fy.same s27, f7, sm.2 x' hxm, k3, fun H8 r s8 f8 => ?_⟩
    refine ⟨_, _, t, _, rfl, fv.same (s6.trans (s7.trans s8)), f8, tS, k4, fun H9 r9 s9 f9 => ?_⟩
    exact ⟨s5.trans (s6.trans (s7.trans (s8.trans s9))), _, _, _, _, _, rfl, f9, k5, k6⟩
  · rintro σ H5 ⟨s5, v, t, o3, o4, o5, rfl, fv, tS, hin⟩
    have hd : l.drop us.length = [] := by rw [hf.1]; exact List.drop_length
    rw [hd] at hin
    obtain rfl : t = x := Option.some.inj hin
    exact ⟨_, rfl, q _ _ (s1.trans (s2.trans s5)) fv⟩
end
end Ft

namespace Ft
open PySem L2
def lawBad (n : Int) : Bool := decide (n = 0) || (!decide (n % 4 = 1) && !(decide (n % 16 = 8) || decide (n % 16 = 12)))
def lawM (n : Int) : Int := if n % 4 = 1 then n else n / 4
def lawHit (m : Int) (i : Nat) : Bool := decide (m % (((2 + i) * (2 + i) : Nat) : Int) = 0)
def lawSign (n : Int) : Bool := if lawBad n = true then false else ((List.range 19).filter (lawHit (lawM n))).isEmpty
def sp_lawSign : Sp := fun vs H Q _ => ∃ n : Int, vs = [.int n] ∧ ∀ H', Same H H' → Q (.bl (lawSign n)) H'
theorem abs_if (z : Int) : (if z < 0 then -z else z) = (z.natAbs : Int) := by split <;> omega
theorem app_some {α : Type} (xs : List α) (x : α) : (xs ++ [x]).isEmpty = false := by cases xs <;> rfl
theorem sign_check : (List.range 145).all (fun i => !(lawSign ((i : Int) - 72)) || isSign ((i : Int) - 72)) = true := by decide +kernel
theorem lawSign_isSign {z : Int} (h : z.natAbs ≤ 72) (hs : lawSign z = true) : isSign z = true := by
  have c := List.all_eq_true.mp sign_check (z + 72).toNat (List.mem_range.mpr (by omega))
  have e : (((z + 72).toNat : Nat) : Int) - 72 = z := by omega
  rw [e, hs] at c
  exact c
section
variable {P : Program} {w : World} {K : PySem.W.Frag} {mg : Str → Option Value} {base : Heap}
theorem ok_lawSign (D : Df K mg "_law_is_sign" s__law_is_sign ["_law_number"]) (B : Bi mg) : Cal P w K mg base 1 "_law_is_sign" sp_lawSign := by
  obtain ⟨f, fd, F, m, b⟩ := D.ex
  have sc := sc__law_is_sign
  refine ⟨f, fd, _, F.ok sc (fun _ _ _ _ ⟨_, e, _⟩ => by rw [e]; rfl) (fun cdv A outer s H vs Q E hr h => ?_), m, F.kp, b⟩
  obtain ⟨n, rfl, q⟩ := h
  have h64 : (A.deeper (PyProof.Rows.envOfC "_law_is_sign" (defScope s__law_is_sign) s.heap.objs.size f cdv)).units + 64 < cLine := by have := hr.un; omega
  refine ⟨_, (pss_cons (ps_if (PW.pt (pw_or (pt_cmpR op_eq (pv 0) pe_int (nomark _)) (pw_or1 (PW.pt (pw_and (pt_cmpR op_ne (pe_op op_mod (pe_callTy call_int1 (by rfl) B.int_ (by decide +kernel) (pa_cons (pv 0) pa_nil)) pe_int) pe_int (nomark _)) (pw_and1 (pt_cmpR op_notIn_seq (pe_op op_mod (pe_callTy call_int1 (by rfl) B.int_ (by decide +kernel) (pa_cons (pv 0) pa_nil)) pe_int) (pe_tup (pa_cons pe_int (pa_cons pe_int pa_nil))) (by rfl))))))))
      (pss_one (ps_ret pe_bl))
      pss_nil)
      (pss_cons (ps_set (i := 1) sc.nd rfl (Or.inr rfl) (pe_ifExp (pt_cmpR op_eq (pe_op op_mod (pe_callTy call_int1 (by rfl) B.int_ (by decide +kernel) (pa_cons (pv 0) pa_nil)) pe_int) pe_int (nomark _)) (pv 0) (pe_op op_fdivW (pv 0) pe_int)))
      (pss_one (ps_ret (pe_cmpR (op_eqD h64) (pe_lc (own := [("_law_k", 2)]) (g := gName 2)  (by rfl) sc.nd (pi_range2 (by rfl) B.range (pa_cons pe_int (pa_cons pe_int pa_nil))) (blkOk_by (own := [("_law_k", 2)]) (N := N__law_is_sign) (sc := defScope s__law_is_sign) (by decide +kernel)) (fun _ _ _ _ _ => (pg_name (i := 2) sc.nd rfl (Or.inl rfl))) (fun _ _ _ _ _ => (pts_one (pt_cmpR op_eq (pe_op op_mod (pe_callTy call_int1 (by rfl) B.int_ (by decide +kernel) (pa_cons (pv 1) pa_nil)) (pe_op op_mul (pv 2) (pv 2))) pe_int (nomark _)))) (fun _ _ _ _ _ => (pv 2))) (pe_lst pa_nil) (nomark _)))))), ?_⟩
  -- behind the first test
  have rest : ∀ H1 : Hp, Same H H1 → lawBad n = false → (∀ H', Same H1 H' → Q (.bl (((List.range 19).filter (lawHit (lawM n))).isEmpty)) H') := fun H1 s1 hb H' s2 => by
    have e := q H' (s1.trans s2)
    unfold lawSign at e
    rw [if_neg (by rw [hb]; decide)] at e
    exact e
  have bad : ∀ H1 : Hp, Same H H1 → lawBad n = true → Q (.bl false) H1 := fun H1 s1 hb => by
    have e := q H1 s1
    unfold lawSign at e
    rw [if_pos hb] at e
    exact e
  refine tSeq_join (fun σ H1 => σ = [some (.int n), none, none] ∧ Same H H1 ∧ lawBad n = false) (fun N hN => ?_) ?_
  · refine ⟨_, rfl, rfl, _, rfl, ifI (fun e => ?_) fun e => ?_⟩
    · refine bad H (Same.refl H) ?_
      unfold lawBad
      rw [decide_eq_true e, Bool.true_or]
    have e1 : decide (n = 0) = false := decide_eq_false e
    refine ⟨_, rfl, .inl ⟨n, rfl, _, _, rfl, rfl, (by show (0 : Int) < 4; decide), rfl, _, rfl, ifNI (fun e => ?_) fun e => ?_⟩⟩
    · have e3 : decide (n % 4 = 1) = false := decide_eq_false e
      refine ⟨_, rfl, .inl ⟨n, rfl, _, _, rfl, rfl, (by show (0 : Int) < 16; decide), (by decide), fun p hp => ?_⟩⟩
      refine ⟨p, _, rfl, .inr (SqT.of upd_same), rfl, rfl, _, rfl, ?_⟩
      have ee : inV (V.int (n % 16)) [V.int 8, V.int 12] = (decide (n % 16 = 8) || decide (n % 16 = 12)) := by
        unfold inV
        simp only [List.any_cons, List.any_nil, eqV, Bool.or_false]
        have h : ∀ a b : Int, (a == b) = decide (b = a) := fun a b => by
          by_cases k : b = a
          · subst k; simp
          · rw [decide_eq_false k]; exact beq_eq_false_iff_ne.mpr (Ne.symm k)
        rw [h, h]
      show if (!inV (V.int (n % 16)) [V.int 8, V.int 12]) = true then _ else _
      rw [ee]
      have s1 : Same H (upd H p (.tup [V.int 8, V.int 12])) := Same.upd_new hp
      cases hc : (decide (n % 16 = 8) || decide (n % 16 = 12)) with
      | false =>
        refine iteT ?_
        refine bad _ s1 ?_
        unfold lawBad
        rw [e1, e3, hc]
        rfl
      | true =>
        refine iteF ?_
        refine hN _ _ ⟨rfl, s1, ?_⟩
        unfold lawBad
        rw [e1, e3, hc]
        rfl
    · have e3 : decide (n % 4 = 1) = true := decide_eq_true e
      refine iteF ?_
      refine hN _ _ ⟨rfl, Same.refl H, ?_⟩
      unfold lawBad
      rw [e1, e3]
      rfl
  · rintro _ H1 ⟨rfl, s1, hb⟩
    have rest1 := rest H1 s1 hb
    refine tSeq_join (fun σ H2 => H1 = H2 ∧ σ = [some (.int n), some (.int (lawM n)), none]) (fun N hN => ?_) ?_
    · unfold lawM at hN
      refine ⟨_, rfl, .inl ⟨n, rfl, _, _, rfl, rfl, (by show (0 : Int) < 4; decide), rfl, _, rfl, ifI (fun e => ?_) fun e => ?_⟩⟩
      · rw [if_pos e] at hN
        exact ⟨_, rfl, hN _ _ ⟨rfl, rfl⟩⟩
      · rw [if_neg e] at hN
        exact ⟨_, rfl, _, _, rfl, rfl, ⟨by decide, by decide⟩, hN _ _ ⟨rfl, rfl⟩⟩
    · rintro _ _ ⟨rfl, rfl⟩
      refine ⟨2, 21, rfl, (by decide), fun D hD => ?_⟩
      refine lc_range (lo := 2) (n := 19) (fun i H' => Same H1 H' ∧ ∃ acc : List Int, H' D = some (.lst (acc.map V.int)) ∧ acc.length ≤ i ∧ acc.isEmpty = ((List.range i).filter (lawHit (lawM n))).isEmpty) ⟨Same.upd_new hD, [], upd_same, Nat.le_refl _, rfl⟩ ?_ ?_
      · rintro i H' hi ⟨s2, acc, hacc, hl, he⟩
        refine ⟨rfl, ?_⟩
        have hrange : (List.range (i + 1)).filter (lawHit (lawM n)) = (List.range i).filter (lawHit (lawM n)) ++ if lawHit (lawM n) i = true then [i] else [] := by
          rw [List.range_succ, List.filter_append]
          congr 1
          cases h : lawHit (lawM n) i <;> simp [h]
        have hk : (2 : Int) + (i : Int) = ((2 + i : Nat) : Int) := by omega
        have hkk : ((2 : Int) + (i : Int)) * ((2 : Int) + (i : Int)) = (((2 + i) * (2 + i) : Nat) : Int) := by rw [hk]; rfl
        have hpos : 0 < (2 + i) * (2 + i) := Nat.mul_pos (by omega) (by omega)
        refine ⟨_, rfl, .inl ⟨_, rfl, _, rfl, _, rfl, _, _, rfl, rfl, .inl ⟨by omega, by omega⟩, _, _, rfl, rfl, (by show (0 : Int) < ((2 : Int) + (i : Int)) * ((2 : Int) + (i : Int)); rw [hkk]; omega), rfl, _, rfl, ifI (fun e => ?_) fun e => ?_⟩⟩
        · rw [hkk] at e
          have hh : lawHit (lawM n) i = true := decide_eq_true e
          refine ⟨_, rfl, acc.map V.int, hacc, Nat.lt_of_le_of_lt (by rw [List.length_map]; omega : (acc.map V.int).length ≤ 19) (by decide), ?_⟩
          refine ⟨fun b u e2 => ?_, acc ++ [(2 : Int) + (i : Int)], by rw [upd_same, List.map_append]; rfl, by rw [List.length_append]; exact Nat.add_le_add hl (Nat.le_refl 1), ?_⟩
          · rw [upd_ne (ne_of_none e2 hD)]
            exact s2 _ _ e2
          · rw [hrange, hh, if_pos rfl, app_some, app_some]
        · rw [hkk] at e
          have hh : lawHit (lawM n) i = false := decide_eq_false e
          refine ⟨s2, acc, hacc, by omega, ?_⟩
          rw [hrange, hh, if_neg Bool.false_ne_true, List.append_nil]
          exact he
      · rintro H' ⟨s2, acc, hacc, hl, he⟩
        refine ⟨Nat.zero_le _, fun p hp => ?_⟩
        have s3 : Same H' (upd H' p (.lst [])) := Same.upd_new hp
        have hacc2 := s3 _ _ hacc
        refine ⟨_, _, .lst (SqL.of hacc2) (dp_ints acc), .lst (SqL.of upd_same) .nil, shaped_ints acc, by decide, ?_⟩
        rw [eqv_nil, List.isEmpty_map, he]
        exact rest1 _ (s2.trans s3)
/-- a sign of the law is one of the program, and small -/
def sp_sign : Sp := fun vs H Q _ => ∃ (d l : Addr), vs = [.ref d] ∧ DeckAt H d l ∧ ∀ (H' : Hp) (z : Int), DeckAt H' d l → But d l H H' → isSign z = true → z.natAbs ≤ 65 → Q (.int z) H'
theorem ok_sign (D : Df K mg "_law_sign" s__law_sign ["_law_deck_here"]) (B : Bi mg) (c_draw : Cal P w K mg base 1 "_law_draw" sp_draw) (c_pick : Cal P w K mg base 2 "_law_pick" (sp_pick K)) (c_isS : Cal P w K mg base 1 "_law_is_sign" sp_lawSign) : Cal P w K mg base 3 "_law_sign" sp_sign := by
  obtain ⟨f, fd, F, m, b⟩ := D.ex
  have sc := sc__law_sign
  refine ⟨f, fd, _, F.ok sc (fun _ _ _ _ ⟨_, _, e, _⟩ => by rw [e]; rfl) (fun cdv A outer s H vs Q E hr h => ?_), m, F.kp, b⟩
  obtain ⟨d, l, rfl, DK, q⟩ := h
  refine ⟨_, (pss_cons (ps_if (pt_cmpR op_eq (pe_c c_draw hr (by decide) (by rfl) (pa_cons (pv 0) (pa_cons pe_int pa_nil))) pe_int (nomark _))
      (pss_one (ps_ret (pe_c c_pick hr (by decide) (by rfl) (pa_cons (pv 0) (pa_cons (pe_lst (pa_cons pe_int (pa_cons (pe_un un_neg pe_int) (pa_cons (pe_un un_neg pe_int) (pa_cons pe_int (pa_cons (pe_un un_neg pe_int) (pa_cons pe_int (pa_cons (pe_un un_neg pe_int) (pa_cons pe_int (pa_cons pe_int pa_nil)))))))))) pa_nil)))))
      pss_nil)
      (pss_cons (ps_set (i := 1) sc.nd rfl (Or.inl rfl) (pe_op op_sub (pe_c c_draw hr (by decide) (by rfl) (pa_cons (pv 0) (pa_cons pe_int pa_nil))) pe_int))
      (pss_cons (ps_for PassesOwn.never rfl (pi_range1 rfl B.range (pa_cons pe_int pa_nil)) (pg_name (i := 2) sc.nd rfl (Or.inl rfl))
      (pss_one (ps_if (pt_val (pe_c c_isS hr (by decide) (by rfl) (pa_cons (pe_op op_add (pv 1) (pv 2)) pa_nil)))
        (pss_one (ps_ret (pe_op op_add (pv 1) (pv 2))))
        pss_nil)))
      (pss_one (ps_ret pe_int))))), ?_⟩
  refine ⟨_, rfl, d, l, _, rfl, DK, by decide, by decide, fun H1 r D1 b1 r0 r1 => ?_⟩
  refine ⟨rfl, _, rfl, ifI (fun e => ?_) fun e => ?_⟩
  · refine ⟨_, rfl, ?_⟩
    refine ⟨_, rfl, _, rfl, _, rfl, _, rfl, (by decide), fun p hp => ?_⟩
    have n1 := D1.new hp
    refine ⟨d, l, p, _, rfl, D1.same (Same.upd_new hp), .inl ⟨upd_same, n1.2⟩, (by show 0 < 9; decide), (by show 9 < 2 ^ 64; decide), fun H2 v D2 b2 hv => ?_⟩
    have hz : ∃ z : Int, v = .int z ∧ isSign z = true ∧ z.natAbs ≤ 65 := by
      simp only [List.mem_cons, List.not_mem_nil, or_false] at hv
      rcases hv with h | h | h | h | h | h | h | h | h <;> exact ⟨_, h, by decide +kernel, by decide⟩
    obtain ⟨z, rfl, hz, hz2⟩ := hz
    exact q _ z D2 ((b1.trans (But.of (Same.upd_new hp))).trans b2) hz hz2
  · refine ⟨_, rfl, d, l, _, rfl, D1, by decide, by decide, fun H2 t D2 b2 t0 t1 => ?_⟩
    refine ⟨_, _, rfl, rfl, ?_⟩
    have b12 := b1.trans b2
    refine ⟨6, rfl, by decide, by decide, for_range (lo := 0) (n := 6) (fun i σ H' => DeckAt H' d l ∧ But d l H H' ∧ ∃ (o : Option V), σ = [some (.ref d), some (.int (t - 64)), o]) ⟨D2, b12, none, rfl⟩ ?_ ?_⟩
    · rintro i σ H3 hi ⟨D3, b3, o, rfl⟩
      refine ⟨_, rfl, _, rfl, _, _, rfl, rfl, _, rfl, fun H4 s4 => ⟨_, rfl, ?_⟩⟩
      cases hs : lawSign (t - 64 + (0 + (i : Int))) with
      | true =>
        refine iteT ?_
        refine ⟨_, rfl, _, rfl, _, _, rfl, rfl, ?_⟩
        exact q _ _ (D3.same s4) (b3.trans (But.of s4)) (lawSign_isSign (by omega) hs) (by omega)
      | false =>
        refine iteF ?_
        exact ⟨D3.same s4, b3.trans (But.of s4), _, rfl⟩
    · rintro σ H3 ⟨D3, b3, o, rfl⟩
      exact q _ 1 D3 b3 (by decide +kernel) (by decide)
end
end Ft

namespace Ft
open PySem L2
/-! ### the law's values of signs -/
def lawPrime (s : Int) (p : Nat) : Int :=
  if s % (p : Int) = 0 then 0 else if p = 2 then (if s % 8 = 1 then 1 else -1) else
    if (List.range (p / 2)).any (fun i => decide ((((1 + i) * (1 + i) % p : Nat) : Int) = s % (p : Int))) = true then 1 else -1
def leastD (n : Nat) : Nat := 2 + ((List.range (n - 1)).filter fun i => decide (n % (2 + i) = 0)).headD 0
def valsStep (s : Int) (l : List Int) (n : Nat) : Int := if leastD n = n then lawPrime s n else l.getD (leastD n) 0 * l.getD (n / leastD n) 0
def valsTo (s : Int) : Nat → List Int
  | 0 => [0, 1]
  | i + 1 => valsTo s i ++ [valsStep s (valsTo s i) (2 + i)]
def lawVals (s : Int) : List Int := if s = 1 then [1] else valsTo s (s.natAbs - 2)
theorem flat_ints {α : Type} (g : α → Int) : ∀ l : List α, (l.map fun j => V.int (g j)).all flatV = true
  | [] => rfl
  | x :: l => by
    rw [List.map_cons, List.all_cons, flat_ints g l]
    rfl
theorem inV_any {α : Type} (a : Int) (g : α → Int) : ∀ l : List α, inV (V.int a) (l.map fun j => V.int (g j)) = l.any fun j => decide (g j = a)
  | [] => rfl
  | x :: l => by
    have ih := inV_any a g l
    unfold inV at ih ⊢
    rw [List.map_cons, List.any_cons, List.any_cons, ih]
    have e : eqV (V.int (g x)) (V.int a) = decide (g x = a) := by
      show (g x == a) = decide (g x = a)
      by_cases h : g x = a
      · rw [h]; simp
      · rw [decide_eq_false h]; exact beq_eq_false_iff_ne.mpr h
    rw [e]
def sp_prime : Sp := fun vs H Q _ => ∃ (s : Int) (p : Nat), vs = [.int s, .int (p : Int)] ∧ 2 ≤ p ∧ p ≤ 400 ∧ ∀ H', Same H H' → Q (.int (lawPrime s p)) H'
section
variable {P : Program} {w : World} {K : PySem.W.Frag} {mg : Str → Option Value} {base : Heap}
theorem ok_prime (D : Df K mg "_law_at_prime" s__law_at_prime ["_law_sign_here", "_law_p"]) (B : Bi mg)  : Cal P w K mg base 1 "_law_at_prime" sp_prime := by
  obtain ⟨f, fd, F, m, b⟩ := D.ex
  have sc := sc__law_at_prime
  refine ⟨f, fd, _, F.ok sc (fun _ _ _ _ ⟨_, _, e, _⟩ => by rw [e]; rfl) (fun cdv A outer s H vs Q E hr h => ?_), m, F.kp, b⟩
  obtain ⟨z, p, rfl, h2, h4, q⟩ := h
  refine ⟨_, (pss_cons (ps_if (pt_cmpR op_eq (pe_op op_mod (pe_callTy call_int1 (by rfl) B.int_ (by decide +kernel) (pa_cons (pv 0) pa_nil)) (pv 1)) pe_int (nomark _))
      (pss_one (ps_ret pe_int))
      pss_nil)
      (pss_cons (ps_if (pt_cmpR op_eq (pv 1) pe_int (nomark _))
      (pss_one (ps_ret (pe_ifExp (pt_cmpR op_eq (pe_op op_mod (pe_callTy call_int1 (by rfl) B.int_ (by decide +kernel) (pa_cons (pv 0) pa_nil)) pe_int) pe_int (nomark _)) pe_int (pe_un un_neg pe_int))))
      pss_nil)
      (pss_one (ps_ret (pe_ifExp (pt_cmpR op_in_seq (pe_op op_mod (pe_callTy call_int1 (by rfl) B.int_ (by decide +kernel) (pa_cons (pv 0) pa_nil)) (pv 1)) (pe_lc (own := [("_law_x", 2)]) (g := gName 2) (tt := tYes) (by rfl) sc.nd (pi_range2 (by rfl) B.range (pa_cons pe_int (pa_cons (pe_op op_add (pe_op op_fdivW (pv 1) pe_int) pe_int) pa_nil))) (blkOk_by (own := [("_law_x", 2)]) (N := N__law_at_prime) (sc := defScope s__law_at_prime) (by decide +kernel)) (fun _ _ _ _ _ => (pg_name (i := 2) sc.nd rfl (Or.inl rfl))) (fun _ _ _ _ _ => pts_nil) (fun _ _ _ _ _ => (pe_op op_mod (pe_callTy call_int1 (by rfl) B.int_ (by decide +kernel) (pa_cons (pe_op op_mul (pv 2) (pv 2)) pa_nil)) (pv 1)))) (by rfl)) pe_int (pe_un un_neg pe_int)))))), ?_⟩
  unfold lawPrime at q
  have p0 : (0 : Int) < (p : Int) := by omega
  refine ⟨_, rfl, .inl ⟨z, rfl, _, rfl, _, _, rfl, rfl, p0, rfl, _, rfl, ifI (fun e => ?_) fun e => ?_⟩⟩
  · have := q H (Same.refl H)
    rw [if_pos e] at this
    exact this
  rw [if_neg e] at q
  refine ⟨_, rfl, rfl, _, rfl, ifI (fun e2 => ?_) fun e2 => ?_⟩
  · have := q H (Same.refl H)
    rw [if_pos (show p = 2 by omega)] at this
    refine ⟨_, rfl, .inl ⟨z, rfl, _, _, rfl, rfl, (by show (0 : Int) < 8; decide), rfl, _, rfl, ifI (fun e3 => ?_) fun e3 => ?_⟩⟩
    · rw [if_pos e3] at this; exact this
    · rw [if_neg e3] at this; exact ⟨_, rfl, this⟩
  rw [if_neg (show ¬ p = 2 by omega)] at q
  refine ⟨_, rfl, .inl ⟨z, rfl, _, rfl, _, _, rfl, rfl, p0, ?_⟩⟩
  refine ⟨_, rfl, _, _, rfl, rfl, ⟨by decide, by decide⟩, _, _, rfl, rfl, 1, _, rfl, (by omega), fun D hD => ?_⟩
  have en : ((p : Int) / 2 + 1 - 1).toNat = p / 2 := by omega
  refine lc_range (lo := 1) (n := ((p : Int) / 2 + 1 - 1).toNat) (fun i H' => Same H H' ∧ H' D = some (.lst ((List.range i).map fun j : Nat => V.int (((1 + j) * (1 + j) % p : Nat) : Int)))) ⟨Same.upd_new hD, upd_same⟩ ?_ ?_
  · rintro i H1 hi ⟨s1, h1⟩
    refine ⟨rfl, ?_⟩
    have hi2 : i < 400 := by omega
    have hk : (1 : Int) + (i : Int) = ((1 + i : Nat) : Int) := by omega
    refine ⟨_, rfl, _, rfl, _, _, rfl, rfl, .inl ⟨by omega, by omega⟩, .inl ⟨_, rfl, _, rfl, _, _, rfl, rfl, p0, _, h1, ?_, ?_⟩⟩
    · rw [List.length_map, List.length_range]
      exact Nat.lt_trans hi2 (by decide)
    · refine ⟨fun b o e => ?_, ?_⟩
      · rw [upd_ne (ne_of_none e hD)]
        exact s1 _ _ e
      · rw [upd_same, List.range_succ, List.map_append]
        show some (HO.lst (_ ++ [V.int (((1 : Int) + (i : Int)) * ((1 : Int) + (i : Int)) % (p : Int))])) = _
        rw [hk]
        rfl
  · rintro H1 ⟨s1, h1⟩
    rw [en] at h1
    refine ⟨D, _, rfl, .inl (SqL.of h1), rfl, flat_ints _ _, _, rfl, ?_⟩
    have qq := q H1 s1
    have ev := inV_any (z % (p : Int)) (fun j : Nat => ((((1 + j) * (1 + j) % p : Nat) : Int))) (List.range (p / 2))
    show if inV (V.int (z % (p : Int))) _ = true then _ else _
    rw [ev]
    cases hc : (List.range (p / 2)).any fun j => decide ((((1 + j) * (1 + j) % p : Nat) : Int) = z % (p : Int)) with
    | true =>
      rw [hc] at qq
      exact iteT qq
    | false =>
      rw [hc] at qq
      exact iteF ⟨_, rfl, qq⟩
end
theorem leastD_spec {n : Nat} (h : 2 ≤ n) : 2 ≤ leastD n ∧ leastD n ≤ n ∧ n % leastD n = 0 ∧ ∃ r, (List.range (n - 1)).filter (fun i => decide (n % (2 + i) = 0)) = (leastD n - 2) :: r := by
  have hm : n - 2 ∈ (List.range (n - 1)).filter (fun i => decide (n % (2 + i) = 0)) := by
    refine List.mem_filter.mpr ⟨List.mem_range.mpr (by omega), decide_eq_true ?_⟩
    rw [show 2 + (n - 2) = n by omega, Nat.mod_self]
  unfold leastD
  cases e : (List.range (n - 1)).filter (fun i => decide (n % (2 + i) = 0)) with
  | nil => rw [e] at hm; cases hm
  | cons a r =>
    have ha : a ∈ (List.range (n - 1)).filter (fun i => decide (n % (2 + i) = 0)) := by rw [e]; exact List.mem_cons_self
    have h1 := List.mem_range.mp (List.mem_filter.mp ha).1
    have h2 := of_decide_eq_true (List.mem_filter.mp ha).2
    show 2 ≤ 2 + a ∧ 2 + a ≤ n ∧ n % (2 + a) = 0 ∧ _
    exact ⟨by omega, by omega, h2, r, by show a :: r = (2 + a - 2) :: r; rw [Nat.add_sub_cancel_left]⟩
theorem valsTo_len (s : Int) : ∀ i, (valsTo s i).length = 2 + i
  | 0 => rfl
  | i + 1 => by
    show (valsTo s i ++ [_]).length = _
    rw [List.length_append, valsTo_len s i]; rfl
theorem lawPrime_one (s : Int) (p : Nat) : (lawPrime s p).natAbs ≤ 1 := by
  unfold lawPrime
  split
  · decide
  · split
    · split <;> decide
    · split <;> decide
theorem getD_one {l : List Int} (h : ∀ x ∈ l, x.natAbs ≤ 1) (i : Nat) : (l.getD i 0).natAbs ≤ 1 := by
  rw [List.getD_eq_getElem?_getD]
  cases e : l[i]? with
  | none => exact Nat.zero_le 1
  | some x => exact h x (List.mem_of_getElem? e)
theorem valsTo_one (s : Int) : ∀ i, ∀ x ∈ valsTo s i, x.natAbs ≤ 1
  | 0, x, h => by
    rcases List.mem_cons.mp h with h | h
    · subst h; decide
    · obtain rfl := List.mem_singleton.mp h; decide
  | i + 1, x, h => by
    rcases List.mem_append.mp (show x ∈ valsTo s i ++ [valsStep s (valsTo s i) (2 + i)] from h) with h | h
    · exact valsTo_one s i x h
    · obtain rfl := List.mem_singleton.mp h
      unfold valsStep
      split
      · exact lawPrime_one _ _
      · exact mul_one (getD_one (valsTo_one s i) _) (getD_one (valsTo_one s i) _)
theorem getD_at {l : List Int} {i : Nat} (h : i < l.length) : (l.map V.int)[i]? = some (V.int (l.getD i 0)) := by
  rw [List.getElem?_map, List.getElem?_eq_getElem h, List.getD_eq_getElem?_getD, List.getElem?_eq_getElem h]
  rfl
theorem filter_succ (f : Nat → Bool) (j : Nat) : (List.range (j + 1)).filter f = (List.range j).filter f ++ if f j = true then [j] else [] := by
  rw [List.range_succ, List.filter_append]
  congr 1
  cases h : f j <;> simp [h]
theorem filter_len (f : Nat → Bool) (j : Nat) : ((List.range j).filter f).length ≤ j := by
  have := List.length_filter_le f (List.range j)
  rw [List.length_range] at this
  exact this
def sp_vals : Sp := fun vs H Q _ => ∃ s : Int, vs = [.int s] ∧ (s = 1 ∨ 3 ≤ s.natAbs) ∧ s.natAbs ≤ 400 ∧ ∀ H' p, Same H H' → H p = none → H' p = some (.lst ((lawVals s).map V.int)) → Q (.ref p) H'
section
variable {P : Program} {w : World} {K : PySem.W.Frag} {mg : Str → Option Value} {base : Heap}
theorem ok_vals (D : Df K mg "_law_values" s__law_values ["_law_sign_here"]) (B : Bi mg) (c__law_at_prime : Cal P w K mg base 1 "_law_at_prime" sp_prime) : Cal P w K mg base 2 "_law_values" sp_vals := by
  obtain ⟨f, fd, F, m, b⟩ := D.ex
  have sc := sc__law_values
  refine ⟨f, fd, _, F.ok sc (fun _ _ _ _ ⟨_, e, _⟩ => by rw [e]; rfl) (fun cdv A outer s H vs Q E hr h => ?_), m, F.kp, b⟩
  obtain ⟨z, rfl, hz, hz4, q⟩ := h
  have hu := hu_of hr
  refine ⟨_, (pss_cons (ps_if (pt_cmpR op_eq (pv 0) pe_int (nomark _))
      (pss_one (ps_ret (pe_lst (pa_cons pe_int pa_nil))))
      pss_nil)
      (pss_cons (ps_set (i := 1) sc.nd rfl (Or.inl rfl) (pe_lst (pa_cons pe_int (pa_cons pe_int pa_nil))))
      (pss_cons (ps_for PassesOwn.never rfl (pi_range2 (by rfl) B.range (pa_cons pe_int (pa_cons (pe_callB call_abs (by rfl) B.abs (by decide +kernel) (pa_cons (pv 0) pa_nil)) pa_nil))) (pg_name (i := 2) sc.nd rfl (Or.inr rfl))
      (pss_cons (ps_set (i := 4) sc.nd rfl (Or.inl rfl) (pe_ix ix_seq (pe_lc (own := [("_law_p", 3)]) (g := gName 3)  (by rfl) sc.nd (pi_range2 (by rfl) B.range (pa_cons pe_int (pa_cons (pe_op op_add (pv 2) pe_int) pa_nil))) (blkOk_by (own := [("_law_p", 3)]) (N := N__law_values) (sc := defScope s__law_values) (by decide +kernel)) (fun _ _ _ _ _ => (pg_name (i := 3) sc.nd rfl (Or.inl rfl))) (fun _ _ _ _ _ => (pts_one (pt_cmpR op_eq (pe_op op_mod (pe_callTy call_int1 (by rfl) B.int_ (by decide +kernel) (pa_cons (pv 2) pa_nil)) (pv 3)) pe_int (nomark _)))) (fun _ _ _ _ _ => (pv 3))) pe_int (fun _ _ => rfl)))
        (pss_one (ps_expr (pe_bm PySem.F.plainAttrs_list PySem.F.slot_list_append PySem.F.type_list_append mt_append (pv 1) (pa_cons (pe_ifExp (pt_cmpR op_eq (pv 4) (pv 2) (nomark _)) (pe_c c__law_at_prime hr (by decide) (by rfl) (pa_cons (pv 0) (pa_cons (pv 2) pa_nil))) (pe_op op_mul (pe_ix ix_seq (pv 1) (pv 4) (fun _ _ => rfl)) (pe_ix ix_seq (pv 1) (pe_op op_fdivW (pv 2) (pv 4)) (fun _ _ => rfl)))) pa_nil))))))
      (pss_one (ps_ret (pv 1)))))), ?_⟩
  unfold lawVals at q
  refine ⟨_, rfl, rfl, _, rfl, ifI (fun e => ?_) fun e => ?_⟩
  · rw [if_pos e] at q
    exact ⟨(by show (1 : Nat) ≤ sizeLine; decide), fun p hp => q _ p (Same.upd_new hp) hp upd_same⟩
  rw [if_neg e] at q
  have h3 : 3 ≤ z.natAbs := hz.resolve_left e
  dsimp only [tNext]
  refine ⟨(by show (2 : Nat) ≤ sizeLine; decide), fun p hp => ?_⟩
  have ea : (if z < 0 then -z else z) = (z.natAbs : Int) := by split <;> omega
  have s1 : Same H (upd H p (.lst [V.int 0, V.int 1])) := Same.upd_new hp
  have h1 : (upd H p (.lst [V.int 0, V.int 1])) p = some (.lst [V.int 0, V.int 1]) := upd_same
  generalize hH1 : upd H p (.lst [V.int 0, V.int 1]) = H1 at s1 h1
  refine ⟨_, rfl, z, rfl, 2, _, rfl, (by rw [ea]; omega), ?_⟩
  rw [ea]
  refine for_range (lo := 2) (n := ((z.natAbs : Int) - 2).toNat) (fun i σ H' => Same H H' ∧ ∃ o2 o4 : Option V, σ = [some (.int z), some (.ref p), o2, none, o4] ∧ H' p = some (.lst ((valsTo z i).map V.int))) ⟨s1, none, none, rfl, h1⟩ ?_ ?_
  · rintro i σ H2 hi ⟨s2, o2, o4, rfl, h2⟩
    have hin : i < z.natAbs - 2 := by omega
    have en : (2 : Int) + (i : Int) = ((2 + i : Nat) : Int) := by omega
    obtain ⟨l2, ln, lm, r, lr⟩ := leastD_spec (show 2 ≤ 2 + i by omega)
    have vl := valsTo_len z i
    dsimp only [gName]
    refine ⟨_, rfl, _, _, rfl, rfl, 2, _, rfl, (by omega), fun D1 hD1 => ?_⟩
    refine lc_range (lo := 2) (n := ((2 : Int) + (i : Int) + 1 - 2).toNat) (fun j H' => Same H2 H' ∧ H' D1 = some (.lst (((List.range j).filter fun i' => decide ((2 + i) % (2 + i') = 0)).map fun j : Nat => V.int ((2 + j : Nat) : Int)))) ⟨Same.upd_new hD1, upd_same⟩ ?_ ?_
    · rintro j H3 hj ⟨s3, h3⟩
      refine ⟨rfl, ?_⟩
      have ej : (2 : Int) + (j : Int) = ((2 + j : Nat) : Int) := by omega
      refine ⟨_, rfl, .inl ⟨_, rfl, _, rfl, _, _, rfl, rfl, (by show (0 : Int) < 2 + (j : Int); omega), rfl, _, rfl, ifI (fun e => ?_) fun e => ?_⟩⟩
      · rw [en, ej] at e
        have e' : (2 + i) % (2 + j) = 0 := Int.ofNat.inj e
        refine ⟨_, rfl, _, h3, ?_, fun b o e2 => ?_, ?_⟩
        · rw [List.length_map]
          exact Nat.lt_of_le_of_lt (Nat.le_trans (filter_len _ _) (by omega : j ≤ 400)) (by decide)
        · rw [upd_ne (ne_of_none e2 hD1)]
          exact s3 _ _ e2
        · rw [upd_same, filter_succ, if_pos (decide_eq_true e'), List.map_append]
          show some (HO.lst (_ ++ [V.int (2 + (j : Int))])) = _
          rw [ej]
          rfl
      · rw [en, ej] at e
        have e' : ¬ (2 + i) % (2 + j) = 0 := fun z => e (congrArg Int.ofNat z)
        refine ⟨s3, ?_⟩
        rw [h3, filter_succ, if_neg (by rw [decide_eq_false e']; decide), List.append_nil]
    · rintro H3 ⟨s3, h3⟩
      have e4 : ((2 : Int) + (i : Int) + 1 - 2).toNat = 2 + i - 1 := by omega
      rw [e4, lr] at h3
      have el : (2 + (leastD (2 + i) - 2) : Nat) = leastD (2 + i) := by omega
      have at_0 : atI (((leastD (2 + i) - 2) :: r).map fun j : Nat => V.int ((2 + j : Nat) : Int)) 0 = some (V.int ((leastD (2 + i) : Nat) : Int)) := by
        refine atI_nat (j := 0) ?_
        show some (V.int ((2 + (leastD (2 + i) - 2) : Nat) : Int)) = _
        rw [el]
      have hp3 := s3 _ _ h2
      have sl : 2 + i < 400 := by omega
      have hstep : ∀ y : Int, y = valsStep z (valsTo z i) (2 + i) → ∀ H4 : Hp, Same H3 H4 → H4 p = some (.lst ((valsTo z i).map V.int)) ∧ ((valsTo z i).map V.int).length < sizeLine ∧ Same H (upd H4 p (.lst ((valsTo z i).map V.int ++ [V.int y]))) ∧
          (upd H4 p (.lst ((valsTo z i).map V.int ++ [V.int y]))) p = some (.lst ((valsTo z (i + 1)).map V.int)) := by
        rintro y rfl H4 s4
        refine ⟨s4 _ _ hp3, ?_, fun b o e => ?_, ?_⟩
        · rw [List.length_map, vl]
          exact Nat.lt_trans sl (by decide)
        · rw [upd_ne (ne_of_none e hp)]
          exact s4 _ _ (s3 _ _ (s2 _ _ e))
        · rw [upd_same]
          show _ = some (HO.lst ((valsTo z i ++ [valsStep z (valsTo z i) (2 + i)]).map V.int))
          rw [List.map_append]
          rfl
      refine .inl ⟨D1, _, 0, _, rfl, rfl, SqL.of h3, at_0, ?_⟩
      refine ⟨_, rfl, .inl ⟨rfl, _, SqL.of hp3⟩, _, rfl, _, rfl, rfl, _, rfl, ifI (fun e => ?_) fun e => ?_⟩
      · rw [en] at e
        have e' : leastD (2 + i) = 2 + i := Int.ofNat.inj e
        refine ⟨_, rfl, _, rfl, z, 2 + i, ?_, by omega, by omega, fun H4 s4 => ?_⟩
        · show [V.int z, V.int (2 + (i : Int))] = _
          rw [en]
        have hs := hstep (lawPrime z (2 + i)) (by unfold valsStep; rw [if_pos e']) H4 s4
        exact ⟨p, _, _, rfl, rfl, hs.1, hs.2.1, hs.2.2.1, _, _, rfl, hs.2.2.2⟩
      · rw [en] at e
        have e' : ¬ leastD (2 + i) = 2 + i := fun z => e (congrArg Int.ofNat z)
        have d1 : (2 + i) / leastD (2 + i) < 2 + i := Nat.div_lt_self (by omega) l2
        have a1 : atI ((valsTo z i).map V.int) ((leastD (2 + i) : Nat) : Int) = some (V.int ((valsTo z i).getD (leastD (2 + i)) 0)) := atI_nat (getD_at (by omega))
        have a2 : atI ((valsTo z i).map V.int) ((2 + (i : Int)) / ((leastD (2 + i) : Nat) : Int)) = some (V.int ((valsTo z i).getD ((2 + i) / leastD (2 + i)) 0)) := by
          rw [en]
          exact atI_nat (j := (2 + i) / leastD (2 + i)) (getD_at (by omega))
        have b1 := getD_one (valsTo_one z i) (leastD (2 + i))
        refine ⟨_, rfl, _, rfl, .inl ⟨p, _, _, _, rfl, rfl, SqL.of hp3, a1, ?_⟩⟩
        refine ⟨_, rfl, _, rfl, _, rfl, _, _, rfl, rfl, cdivN (by omega) (by omega), .inl ⟨p, _, _, _, rfl, rfl, SqL.of hp3, a2, ?_⟩⟩
        refine ⟨_, _, rfl, rfl, .inl ⟨by omega, by omega⟩, ?_⟩
        have hs := hstep ((valsTo z i).getD (leastD (2 + i)) 0 * (valsTo z i).getD ((2 + i) / leastD (2 + i)) 0) (by unfold valsStep; rw [if_neg e']) H3 (Same.refl H3)
        exact ⟨p, _, _, rfl, rfl, hs.1, hs.2.1, hs.2.2.1, _, _, rfl, hs.2.2.2⟩
  · rintro σ H2 ⟨s2, o2, o4, rfl, h2⟩
    have e1 : ((z.natAbs : Int) - 2).toNat = z.natAbs - 2 := by omega
    rw [e1] at h2
    exact ⟨_, rfl, q _ p s2 hp h2⟩
end
end Ft

set_option exponentiation.threshold 9000
namespace Ft
open PySem L2
theorem kit_tup_tup {K : PySem.W.Frag} : PySem.W.kitOne K (.type "tuple") (.type "tuple") = some true := kit_ty (by decide +kernel)
def Good (x : Fq) : Prop := Small 4000 x ∧ Nat.gcd x.1.natAbs x.2.natAbs = 1
def sp_isNum : Sp := fun vs H Q _ => ∃ v x, vs = [v] ∧ Fr H v x ∧ Good x ∧ ∀ H', Same H H' → Q (.bl true) H'
section
variable {P : Program} {w : World} {K : PySem.W.Frag} {mg : Str → Option Value} {base : Heap}
theorem ok_isNum (D : Df K mg "_law_is_number" s__law_is_number ["_law_thing"]) (B : Bi mg)  : Cal P w K mg base 1 "_law_is_number" sp_isNum := by
  obtain ⟨f, fd, F, m, b⟩ := D.ex
  have sc := sc__law_is_number
  refine ⟨f, fd, _, F.ok sc (fun _ _ _ _ ⟨_, _, e, _⟩ => by rw [e]; rfl) (fun cdv A outer s H vs Q E hr h => ?_), m, F.kp, b⟩
  obtain ⟨v, x, rfl, hv, hx, q⟩ := h
  have h64 : (A.deeper (PyProof.Rows.envOfC "_law_is_number" (defScope s__law_is_number) s.heap.objs.size f cdv)).units + 64 < cLine := by have := hr.un; omega
  refine ⟨_, (pss_cons (ps_if (PW.pt (pw_or (pt_not (pt_val (pe_callB (id := "isinstance") (r := rIsi K) call_isi (by rfl) B.isinstance (by decide +kernel) (pa_cons (pv 0) (pa_cons (pe_ty (n := "tuple") (by rfl) B.tuple (by decide +kernel)) pa_nil))))) (pw_or (pt_cmpR op_ne (pe_callB call_len_seq (by rfl) B.len_ (by decide +kernel) (pa_cons (pv 0) pa_nil)) pe_int (nomark _)) (pw_or1 (pt_cmpR (op_neD h64) (pe_lc (own := [("_law_x", 1)]) (g := gName 1)  (by rfl) sc.nd (pi_tup (pv 0)) (blkOk_by (own := [("_law_x", 1)]) (N := N__law_is_number) (sc := defScope s__law_is_number) (by decide +kernel)) (fun _ _ _ _ _ => (pg_name (i := 1) sc.nd rfl (Or.inl rfl))) (fun _ _ _ _ _ => (pts_one (PW.pt (pw_or (pt_not (pt_val (pe_callB (id := "isinstance") (r := rIsi K) call_isi (by rfl) B.isinstance (by decide +kernel) (pa_cons (pv 1) (pa_cons (pe_ty (n := "int") (by rfl) B.int_ (by decide +kernel)) pa_nil))))) (pw_or1 (pt_val (pe_callB (id := "isinstance") (r := rIsi K) call_isi (by rfl) B.isinstance (by decide +kernel) (pa_cons (pv 1) (pa_cons (pe_ty (n := "bool") (by rfl) B.bool (by decide +kernel)) pa_nil))))))))) (fun _ _ _ _ _ => (pv 1))) (pe_lst pa_nil) (nomark _))))))
      (pss_one (ps_ret pe_bl))
      pss_nil)
      (pss_cons (ps_par (i := 2) (j := 3) (by rfl) sc.nd rfl rfl (by decide) rfl rfl (pa_cons (pe_callB call_abs (by rfl) B.abs (by decide +kernel) (pa_cons (pe_ix ix_seq (pv 0) pe_int (fun _ _ => rfl)) pa_nil)) (pa_cons (pe_ix ix_seq (pv 0) pe_int (fun _ _ => rfl)) pa_nil)) (by rfl))
      (pss_cons (ps_while PassesOwn.never (pt_cmpR op_gt (pv 3) pe_int (nomark _))
      (pss_one (ps_par (i := 2) (j := 3) (by rfl) sc.nd rfl rfl (by decide) rfl rfl (pa_cons (pv 3) (pa_cons (pe_op op_mod (pe_callTy call_int1 (by rfl) B.int_ (by decide +kernel) (pa_cons (pv 2) pa_nil)) (pv 3)) pa_nil)) (by rfl))))
      (pss_one (ps_ret (pe_and (pe_cmpR op_ge (pe_ix ix_seq (pv 0) pe_int (fun _ _ => rfl)) pe_int (nomark _)) (pe_one (pe_cmpR op_eq (pv 2) pe_int (nomark _))))))))), ?_⟩
  obtain ⟨T, rfl, hT⟩ := id hv
  have x0 : 0 < x.2 := hx.1.2.2
  refine tSeq_join (fun σ H1 => σ = [some (.ref T), none, none, none] ∧ Same H H1) (fun N hN => ?_) ?_
  · refine ⟨_, rfl, _, _, _, _, true, rfl, .ty _, .base (.tup hT), kit_tup_tup, true, rfl, iteF ?_⟩
    refine ⟨_, rfl, T, _, rfl, .inr (SqT.of hT), rfl, _, rfl, ifNI (fun e => absurd rfl e) fun _ => ?_⟩
    refine ⟨_, rfl, T, rfl, ⟨_, SqT.of hT⟩, fun D1 hD1 => ?_⟩
    have i0 : ([V.int x.1, V.int x.2] : List V).length = 2 := rfl
    refine lc_it (walk_tup (xs := [V.int x.1, V.int x.2])) (fun i H' => Same H H' ∧ H' D1 = some (.lst [])) ⟨Same.upd_new hD1, upd_same⟩ (fun i H' _ ⟨s2, _⟩ => SqT.of (s2 _ _ hT)) ?_ ?_
    · rintro i u H2 H3 hi ⟨s2, h2⟩ ⟨rfl, hu⟩
      have hz : ∃ z : Int, u = .int z := by
        match i, hu with
        | 0, hu => exact ⟨_, (Option.some.inj hu).symm⟩
        | 1, hu => exact ⟨_, (Option.some.inj hu).symm⟩
        | n + 2, hu => cases hu
      obtain ⟨z, rfl⟩ := hz
      refine ⟨rfl, ?_⟩
      refine ⟨_, rfl, _, _, _, _, true, rfl, .ty _, .base (.int z), kit_int_int, true, rfl, iteF ?_⟩
      refine ⟨_, rfl, _, _, _, _, false, rfl, .ty _, .base (.int z), kit_int_bool, false, rfl, iteF ?_⟩
      exact ⟨s2, h2⟩
    · rintro H2 ⟨s2, h2⟩
      refine ⟨Nat.zero_le _, fun p hp => ?_⟩
      have s3 : Same H2 (upd H2 p (.lst [])) := Same.upd_new hp
      refine ⟨_, _, .lst (SqL.of (s3 _ _ h2)) .nil, .lst (SqL.of upd_same) .nil, by decide, by decide, _, rfl, iteF ?_⟩
      exact hN _ _ ⟨rfl, s2.trans s3⟩
  · rintro _ H1 ⟨rfl, s1⟩
    have hv1 := hv.same s1
    refine ⟨_, rfl, fr0 hv1 ⟨_, rfl, ?_⟩⟩
    refine ⟨_, rfl, fr1 hv1 ⟨_, _, rfl, ?_⟩⟩
    have ea : (if x.1 < 0 then -x.1 else x.1) = (x.1.natAbs : Int) := by split <;> omega
    have eb : x.2 = (x.2.natAbs : Int) := by omega
    refine while_go (fun σ H' => H1 = H' ∧ ∃ a b : Nat, σ = [some (.ref T), none, some (.int (a : Nat)), some (.int (b : Nat))] ∧ Nat.gcd a b = 1) (fun σ _ => m0 3 σ)
      ⟨rfl, x.1.natAbs, x.2.natAbs, ?_, hx.2⟩ ?_
    · show [some (V.ref T), none, some (V.int (if x.1 < 0 then -x.1 else x.1)), some (V.int x.2)] = _
      rw [ea, ← eb]
    rintro σ _ ⟨rfl, a, b, rfl, hg⟩
    refine ⟨_, rfl, _, _, rfl, rfl, _, rfl, ifD (fun h => ?_) fun h => ?_⟩
    · have hb : 0 < b := by omega
      refine ⟨fun σ' H' => H1 = H' ∧ ∃ a' b' : Nat, σ' = [some (.ref T), none, some (.int (a' : Nat)), some (.int (b' : Nat))] ∧ Nat.gcd a' b' = 1 ∧ b' < b, ?_, ?_⟩
      · rintro σ' _ ⟨rfl, a', b', rfl, h1, h2⟩
        exact ⟨_, (by show ((b' : Int)).toNat < ((b : Int)).toNat; omega), rfl, rfl, a', b', rfl, h1⟩
      refine ⟨_, rfl, _, rfl, .inl ⟨_, rfl, _, rfl, _, _, rfl, rfl, (by show (0 : Int) < (b : Int); omega), _, _, rfl, ?_⟩⟩
      refine ⟨rfl, b, a % b, rfl, ?_, Nat.mod_lt _ hb⟩
      rw [← hg, Nat.gcd_comm b, ← Nat.gcd_rec, Nat.gcd_comm]
    · have hb : b = 0 := by omega
      subst hb
      rw [Nat.gcd_zero_right] at hg
      subst hg
      refine ⟨_, rfl, fr1 hv1 ⟨_, _, rfl, rfl, _, rfl, ?_⟩⟩
      rw [decide_eq_true (show (1 : Int) ≤ x.2 by omega)]
      refine iteT ⟨_, rfl, rfl, ?_⟩
      exact q H1 s1
end
end Ft

set_option exponentiation.threshold 9000
namespace Ft
open PySem L2
def smallI (a : Int) : Bool := Nat.blt a.natAbs (2 ^ 4000)
theorem smallI_of {a : Int} (h : smallI a = true) : a.natAbs < 2 ^ 4000 := by
  unfold smallI at h
  rw [Nat.blt_eq] at h
  exact h
/-- the law's own way to the sum, from the numbers -/
def endGo (k N : Nat) : Nat → List Fq → Fq → Int → Option Fq
  | _, [], t, _ => some t
  | i, p :: ps, t, w =>
    if smallI w && smallI (w * p.1) && smallI (w * p.1 * ((N ^ (k - i) : Nat) : Int)) && smallB (t.1 * p.2 + w * p.1 * ((N ^ (k - i) : Nat) : Int) * t.2, t.2 * p.2) then
      endGo k N (i + 1) ps (t.1 * p.2 + w * p.1 * ((N ^ (k - i) : Nat) : Int) * t.2, t.2 * p.2) (w * ((k - i : Nat) : Int) / ((i + 1 : Nat) : Int))
    else none
theorem endGo_step {k N i : Nat} {p : Fq} {ps : List Fq} {t R : Fq} {w : Int} (h : endGo k N i (p :: ps) t w = some R) :
    w.natAbs < 2 ^ 4000 ∧ (w * p.1).natAbs < 2 ^ 4000 ∧ (w * p.1 * ((N ^ (k - i) : Nat) : Int)).natAbs < 2 ^ 4000 ∧ Small 4000 (t.1 * p.2 + w * p.1 * ((N ^ (k - i) : Nat) : Int) * t.2, t.2 * p.2) ∧
      endGo k N (i + 1) ps (t.1 * p.2 + w * p.1 * ((N ^ (k - i) : Nat) : Int) * t.2, t.2 * p.2) (w * ((k - i : Nat) : Int) / ((i + 1 : Nat) : Int)) = some R := by
  unfold endGo at h
  split at h
  · rename_i c
    simp only [Bool.and_eq_true] at c
    exact ⟨smallI_of c.1.1.1, smallI_of c.1.1.2, smallI_of c.1.2, smallB_of c.2, h⟩
  · cases h
def sp_end : Sp := fun vs H Q _ => ∃ (p : Addr) (us : List V) (l : List Fq) (k N : Nat) (R : Fq), vs = [.ref p, .int (k : Int), .int (N : Int)] ∧ H p = some (.lst us) ∧ Frs H us l ∧ us.length = k ∧ k ≤ 24 ∧ 0 < N ∧ N ≤ 400 ∧ (∀ x ∈ l, Small 4000 x) ∧ endGo k N 0 l (0, 1) 1 = some R ∧
  ∀ H' v, Same H H' → Fr H' v R → Small 4000 R → Q v H'
def sp_equal : Sp := fun vs H Q _ => ∃ v x z, vs = [v, .int z] ∧ Fr H v x ∧ Small 4000 x ∧ z.natAbs < 2 ^ 4000 ∧ Q (.bl (decide (x.1 = z * x.2))) H
theorem decV (i j : Int) : decide (V.int i = V.int j) = decide (i = j) := by
  by_cases h : i = j
  · rw [h, decide_eq_true rfl, decide_eq_true rfl]
  · rw [decide_eq_false h]; exact decide_eq_false fun k => h (V.int.inj k)
section
variable {P : Program} {w : World} {K : PySem.W.Frag} {mg : Str → Option Value} {base : Heap}
theorem ok_equal (D : Df K mg "_law_is_equal" s__law_is_equal ["_law_number", "_law_whole"]) : Cal P w K mg base 1 "_law_is_equal" sp_equal := by
  obtain ⟨f, fd, F, m, b⟩ := D.ex
  have sc := sc__law_is_equal
  refine ⟨f, fd, _, F.ok sc (fun _ _ _ _ ⟨_, _, _, e, _⟩ => by rw [e]; rfl) (fun cdv A outer s H vs Q E hr h => ?_), m, F.kp, b⟩
  obtain ⟨v, x, z, rfl, hv, hx, hz, q⟩ := h
  refine ⟨_, (pss_one (ps_ret (pe_cmpR op_eq (pe_ix ix_seq (pv 0) pe_int (fun _ _ => rfl)) (pe_op op_mulW (pv 1) (pe_ix ix_seq (pv 0) pe_int (fun _ _ => rfl))) (nomark _)))), ?_⟩
  refine ⟨_, rfl, fr0 hv ⟨_, rfl, _, rfl, fr1 hv ⟨_, _, rfl, rfl, mulS hz hx.2.1, rfl, ?_⟩⟩⟩
  rw [decV]
  exact q
theorem ok_end (D : Df K mg "_law_end" s__law_end ["_law_numbers", "_law_k", "_law_end_here"]) (B : Bi mg) (c__law_power : Cal P w K mg base 1 "_law_power" sp_power) : Cal P w K mg base 2 "_law_end" sp_end := by
  obtain ⟨f, fd, F, m, b⟩ := D.ex
  have sc := sc__law_end
  refine ⟨f, fd, _, F.ok sc (fun _ _ _ _ ⟨_, _, _, _, _, _, e, _⟩ => by rw [e]; rfl) (fun cdv A outer s H vs Q E hr h => ?_), m, F.kp, b⟩
  obtain ⟨p, us, l, k, N, R, rfl, hp, hf, hk, hk2, hN0, hN, hl, hR, q⟩ := h
  refine ⟨_, (pss_cons (ps_asg (pe_tup (pa_cons (pe_tup (pa_cons pe_int (pa_cons pe_int pa_nil))) (pa_cons pe_int pa_nil))) (pg_tup rfl (pgs_cons (pg_name (i := 3) sc.nd rfl (Or.inl rfl)) (pgs_cons (pg_name (i := 4) sc.nd rfl (Or.inl rfl)) pgs_nil))))
      (pss_cons (ps_for PassesOwn.never rfl (pi_range1 rfl B.range (pa_cons (pv 1) pa_nil)) (pg_name (i := 5) sc.nd rfl (Or.inl rfl))
      (pss_cons (ps_asg (pe_ix ix_seq (pv 0) (pv 5) (fun _ _ => rfl)) (pg_tup rfl (pgs_cons (pg_name (i := 6) sc.nd rfl (Or.inl rfl)) (pgs_cons (pg_name (i := 7) sc.nd rfl (Or.inl rfl)) pgs_nil))))
        (pss_cons (ps_set (i := 8) sc.nd rfl (Or.inl rfl) (pe_op op_mulW (pe_op op_mulW (pv 4) (pv 6)) (pe_c c__law_power hr (by decide) (by rfl) (pa_cons (pv 2) (pa_cons (pe_op op_sub (pv 1) (pv 5)) pa_nil)))))
        (pss_cons (ps_set (i := 3) sc.nd rfl (Or.inl rfl) (pe_tup (pa_cons (pe_op op_add (pe_op op_mulW (pe_ix ix_seq (pv 3) pe_int (fun _ _ => rfl)) (pv 7)) (pe_op op_mulW (pv 8) (pe_ix ix_seq (pv 3) pe_int (fun _ _ => rfl)))) (pa_cons (pe_op op_mulW (pe_ix ix_seq (pv 3) pe_int (fun _ _ => rfl)) (pv 7)) pa_nil))))
        (pss_one (ps_set (i := 4) sc.nd rfl (Or.inl rfl) (pe_op op_fdivW (pe_op op_mulW (pv 4) (pe_op op_sub (pv 1) (pv 5))) (pe_op op_add (pv 5) pe_int))))))))
      (pss_one (ps_ret (pv 3))))), ?_⟩
  refine ⟨(by show (2 : Nat) ≤ sizeLine; decide), fun p1 hp1 => ?_⟩
  have s1 : Same H (upd H p1 (.tup [V.int 0, V.int 1])) := Same.upd_new hp1
  have f1 : Fr (upd H p1 (.tup [V.int 0, V.int 1])) (.ref p1) (0, 1) := Fr.new
  generalize hH1 : upd H p1 (.tup [V.int 0, V.int 1]) = H1 at s1 f1
  refine ⟨(by show (2 : Nat) ≤ sizeLine; decide), fun p2 hp2 => ?_⟩
  have s12 : Same H1 (upd H1 p2 (.tup [V.ref p1, V.int 1])) := Same.upd_new hp2
  have h12 : (upd H1 p2 (.tup [V.ref p1, V.int 1])) p2 = some (.tup [V.ref p1, V.int 1]) := upd_same
  generalize hH12 : upd H1 p2 (.tup [V.ref p1, V.int 1]) = H12 at s12 h12
  refine ⟨p2, _, rfl, SqT.of h12, rfl, ?_⟩
  refine ⟨_, _, rfl, _, _, rfl, rfl, ?_⟩
  replace s1 := s1.trans s12
  replace f1 := f1.same s12
  refine ⟨_, rfl, _, rfl, (by omega), (by omega), ?_⟩
  refine for_range (lo := 0) (n := ((k : Int)).toNat) (fun i σ H' => Same H H' ∧ ∃ (v : V) (t : Fq) (w : Int) (o5 o6 o7 o8 : Option V), σ = [some (.ref p), some (.int (k : Int)), some (.int (N : Int)), some v, some (.int w), o5, o6, o7, o8] ∧ Fr H' v t ∧ Small 4000 t ∧ endGo k N i (l.drop i) t w = some R) ⟨s1, _, _, _, none, none, none, none, rfl, f1, smallB_of (by decide +kernel), hR⟩ ?_ ?_
  · rintro i σ H2 hi ⟨s2, v, t, w, o5, o6, o7, o8, rfl, fv, tS, hin⟩
    have hik : i < k := by omega
    obtain ⟨u, x, hu, hx, fx, hxm, hdrop⟩ := hf.get (show i < us.length by omega)
    rw [hdrop] at hin
    obtain ⟨k1, k2, k3, k4, k5⟩ := endGo_step hin
    have fx2 := fx.same s2
    obtain ⟨T, rfl, hT⟩ := id fx2
    have a1 : atI us (0 + (i : Int)) = some (V.ref T) := by rw [Int.zero_add]; exact atI_nat hu
    refine ⟨_, rfl, _, rfl, .inl ⟨p, us, _, _, rfl, rfl, SqL.of (s2 _ _ hp), a1, ?_⟩⟩
    refine ⟨T, _, rfl, SqT.of hT, rfl, ?_⟩
    refine ⟨_, _, rfl, _, _, rfl, rfl, ?_⟩
    have ei : (0 : Int) + (i : Int) = (i : Int) := Int.zero_add _
    have ek : (k : Int) - (0 + (i : Int)) = ((k - i : Nat) : Int) := by omega
    have e1 : (0 : Int) + (i : Int) + 1 = ((i + 1 : Nat) : Int) := by omega
    have hpw : N ^ (k - i) < 2 ^ 4000 := pow_400 hN (by omega)
    have sx := hl x hxm
    refine ⟨_, rfl, _, rfl, _, _, rfl, rfl, mulS k1 sx.1, ?_⟩
    refine ⟨_, rfl, _, rfl, _, rfl, _, _, rfl, rfl, N, k - i, ?_, hN0, by omega, hpw, ?_⟩
    · show [V.int (N : Int), V.int ((k : Int) - (0 + (i : Int)))] = _
      rw [ek]
    refine ⟨_, _, rfl, rfl, wide_mul k2 hpw (by decide) (by decide) (by decide), ?_⟩
    refine ⟨_, rfl, fr0 fv ⟨_, rfl, _, _, rfl, rfl, mulS tS.1 sx.2.1, ?_⟩⟩
    refine ⟨_, rfl, _, rfl, fr1 fv ⟨_, _, rfl, rfl, mulS k3 tS.2.1, ?_⟩⟩
    refine ⟨_, _, rfl, rfl, ?_⟩
    refine ⟨_, rfl, fr1 fv ⟨_, rfl, _, _, rfl, rfl, mulS tS.2.1 sx.2.1, ?_⟩⟩
    refine ⟨(by show (2 : Nat) ≤ sizeLine; decide), fun p5 hp5 => ?_⟩
    refine ⟨_, rfl, _, rfl, _, rfl, _, _, rfl, rfl, _, _, rfl, rfl, ?_, _, rfl, _, _, rfl, rfl, _, _, rfl, rfl, ?_, ?_⟩
    · show CMulW w ((k : Int) - (0 + (i : Int)))
      rw [ek]
      exact wide_mul (a := 4000) (b := 64) k1 (by omega) (by decide) (by decide) (by decide)
    · show CDivW _ ((0 : Int) + (i : Int) + 1)
      rw [e1]
      exact cdivN (by omega) (by omega)
    · refine ⟨fun b o e => ?_, _, _, _, _, _, _, _, rfl, Fr.new, k4, ?_⟩
      · rw [upd_ne (ne_of_none (s2 _ _ e) hp5)]
        exact s2 _ _ e
      · have e2 : (fun i j : Int => i / j) (w * ((k : Int) - (0 + (i : Int)))) ((0 : Int) + (i : Int) + 1) = w * ((k - i : Nat) : Int) / ((i + 1 : Nat) : Int) := by
          dsimp only
          rw [ek, e1]
        show endGo k N (i + 1) (l.drop (i + 1)) _ (w * ((k : Int) - (0 + (i : Int))) / ((0 : Int) + (i : Int) + 1)) = some R
        rw [ek, e1]
        exact k5
  · rintro σ H2 ⟨s2, v, t, w, o5, o6, o7, o8, rfl, fv, tS, hin⟩
    have hd : l.drop ((k : Int)).toNat = [] := by
      rw [Int.toNat_natCast, ← hk, hf.1]; exact List.drop_length
    rw [hd] at hin
    obtain rfl : t = R := Option.some.inj hin
    exact ⟨_, rfl, q _ _ s2 fv tS⟩
end
end Ft

set_option exponentiation.threshold 9000
namespace Ft
open PySem L2
def red (p : Int) : Nat → Fq → Option Fq
  | 0, x => some x
  | n + 1, x => if x.2 % p = 0 then (if x.1 % p = 0 then red p n (x.1 / p, x.2 / p) else none) else red p n x
theorem red_go {p : Int} {n : Nat} {x y : Fq} (h : red p (n + 1) x = some y) : (x.2 % p = 0 ∧ x.1 % p = 0 ∧ red p n (x.1 / p, x.2 / p) = some y) ∨ (¬ x.2 % p = 0 ∧ red p n x = some y) := by
  unfold red at h
  split at h
  · rename_i h1
    split at h
    · rename_i h2
      exact .inl ⟨h1, h2, h⟩
    · cases h
  · rename_i h1
    exact .inr ⟨h1, h⟩
def pairL (i : Nat) (x y : Int) : List V := if i = 0 then [.int x, .int y] else [.int y, .int x]
theorem pairL_at {i : Nat} (hi : i < 2) (x y : Int) : atI (pairL i x y) (0 + (i : Int)) = some (V.int x) := by
  rw [Int.zero_add]
  refine atI_nat ?_
  match i, hi with
  | 0, _ => rfl
  | 1, _ => rfl
theorem pairL_ix {i : Nat} (hi : i < 2) (x y : Int) : ixN (pairL i x y).length (0 + (i : Int)) = some i := by
  match i, hi with
  | 0, _ => rfl
  | 1, _ => rfl
theorem pairL_set {i : Nat} (hi : i < 2) (x y z : Int) : (pairL i x y).set i (V.int z) = pairL i z y := by
  match i, hi with
  | 0, _ => rfl
  | 1, _ => rfl
def sp_kummer : Sp := fun vs H Q _ => ∃ (p k : Nat) (x y X Y : Fq), vs = [.int (p : Int), .int (k : Int)] ∧ 2 ≤ p ∧ 1 ≤ k ∧ k + p - 1 ≤ 24 ∧ IsBern k 1 x ∧ IsBern (k + p - 1) 1 y ∧ Good x ∧ Good y ∧
  red (p : Int) 3 (x.1, x.2 * (k : Int)) = some X ∧ red (p : Int) 3 (y.1, y.2 * ((k + p - 1 : Nat) : Int)) = some Y ∧ Small 4000 X ∧ Small 4000 Y ∧ (X.1 * Y.2 - Y.1 * X.2) % (p : Int) = 0 ∧ ∀ H', Same H H' → Q (.bl true) H'
section
variable {P : Program} {w : World} {K : PySem.W.Frag} {mg : Str → Option Value} {base : Heap}
theorem ok_kummer (D : Df K mg "_law_is_kummer" s__law_is_kummer ["_law_p", "_law_k"]) (B : Bi mg) (c_bernoulli : Cal P w K mg base 5 "bernoulli" sp_bern) (k_bernoulli : CalK P w K mg base 5 "bernoulli" ["sign", "k"] swapV sp_bern) (c__law_is_number : Cal P w K mg base 1 "_law_is_number" sp_isNum) : Cal P w K mg base 6 "_law_is_kummer" sp_kummer := by
  obtain ⟨f, fd, F, m, b⟩ := D.ex
  have sc := sc__law_is_kummer
  refine ⟨f, fd, _, F.ok sc (fun _ _ _ _ ⟨_, _, _, _, _, _, e, _⟩ => by rw [e]; rfl) (fun cdv A outer s H vs Q E hr h => ?_), m, F.kp, b⟩
  obtain ⟨p, k, x, y, X, Y, rfl, hp, hk, hpk, bx, bY, gx, gy, rx, ry, sX, sY, fin, q⟩ := h
  refine ⟨_, (pss_cons (ps_par (i := 2) (j := 3) (by rfl) sc.nd rfl rfl (by decide) rfl rfl (pa_cons (pe_c c_bernoulli hr (by decide) (by rfl) (pa_cons (pv 1) (pa_cons pe_int pa_nil))) (pa_cons (pe_k0 k_bernoulli hr (by decide) (by rfl) (pk_cons pe_int (pk_cons (pe_op op_sub (pe_op op_add (pv 1) (pv 0)) pe_int) pk_nil))) pa_nil)) (by rfl))
      (pss_cons (ps_if (PW.pt (pw_or (pt_not (pt_val (pe_c c__law_is_number hr (by decide) (by rfl) (pa_cons (pv 2) pa_nil)))) (pw_or1 (pt_not (pt_val (pe_c c__law_is_number hr (by decide) (by rfl) (pa_cons (pv 3) pa_nil)))))))
      (pss_one (ps_ret pe_bl))
      pss_nil)
      (pss_cons (ps_par (i := 4) (j := 5) (by rfl) sc.nd rfl rfl (by decide) rfl rfl (pa_cons (pe_lst (pa_cons (pe_ix ix_seq (pv 2) pe_int (fun _ _ => rfl)) (pa_cons (pe_ix ix_seq (pv 3) pe_int (fun _ _ => rfl)) pa_nil))) (pa_cons (pe_lst (pa_cons (pe_op op_mul (pe_ix ix_seq (pv 2) pe_int (fun _ _ => rfl)) (pv 1)) (pa_cons (pe_op op_mul (pe_ix ix_seq (pv 3) pe_int (fun _ _ => rfl)) (pe_op op_sub (pe_op op_add (pv 1) (pv 0)) pe_int)) pa_nil))) pa_nil)) (by rfl))
      (pss_cons (ps_for PassesOwn.never rfl (pi_range1 rfl B.range (pa_cons pe_int pa_nil)) (pg_name (i := 6) sc.nd rfl (Or.inl rfl))
      (pss_one (ps_for PassesOwn.never rfl (pi_range1 rfl B.range (pa_cons pe_int pa_nil)) (pg_name (i := 7) sc.nd rfl (Or.inl rfl))
        (pss_one (ps_if (pt_cmpR op_eq (pe_op op_mod (pe_callTy call_int1 (by rfl) B.int_ (by decide +kernel) (pa_cons (pe_ix ix_seq (pv 5) (pv 6) (fun _ _ => rfl)) pa_nil)) (pv 0)) pe_int (nomark _))
          (pss_cons (ps_if (pt_cmpR op_ne (pe_op op_mod (pe_callTy call_int1 (by rfl) B.int_ (by decide +kernel) (pa_cons (pe_ix ix_seq (pv 4) (pv 6) (fun _ _ => rfl)) pa_nil)) (pv 0)) pe_int (nomark _))
            (pss_one (ps_ret pe_bl))
            pss_nil)
            (pss_one (ps_asg (pe_tup (pa_cons (pe_op op_fdivW (pe_ix ix_seq (pv 4) (pv 6) (fun _ _ => rfl)) (pv 0)) (pa_cons (pe_op op_fdivW (pe_ix ix_seq (pv 5) (pv 6) (fun _ _ => rfl)) (pv 0)) pa_nil))) (pg_tup rfl (pgs_cons (pg_sub (pv 4) (pv 6) set_list) (pgs_cons (pg_sub (pv 5) (pv 6) set_list) pgs_nil))))))
          pss_nil)))))
      (pss_one (ps_ret (pe_cmpR op_eq (pe_op op_mod (pe_callTy call_int1 (by rfl) B.int_ (by decide +kernel) (pa_cons (pe_op op_sub (pe_op op_mulW (pe_ix ix_seq (pv 4) pe_int (fun _ _ => rfl)) (pe_ix ix_seq (pv 5) pe_int (fun _ _ => rfl))) (pe_op op_mulW (pe_ix ix_seq (pv 4) pe_int (fun _ _ => rfl)) (pe_ix ix_seq (pv 5) pe_int (fun _ _ => rfl)))) pa_nil)) (pv 0)) pe_int (nomark _)))))))), ?_⟩
  have ek : (k : Int) + (p : Int) - 1 = ((k + p - 1 : Nat) : Int) := by omega
  have p0 : (0 : Int) < (p : Int) := by omega
  have pc : ∀ i : Int, CDivW i (p : Int) := fun i => cdivN (by omega) (by omega)
  have i1 : isSign 1 = true := by decide +kernel
  refine ⟨_, rfl, k, 1, x, rfl, by omega, i1, bx, fun H1 v1 s1 f1 => ?_⟩
  refine ⟨_, rfl, _, rfl, _, _, rfl, rfl, _, _, rfl, rfl, ?_⟩
  refine ⟨k + p - 1, 1, y, ?_, hpk, i1, bY, fun H2 v2 s2 f2 => ?_⟩
  · show [V.int ((k : Int) + (p : Int) - 1), V.int 1] = _
    rw [ek]
  refine ⟨_, _, rfl, ?_⟩
  refine ⟨_, rfl, v1, x, rfl, f1.same s2, gx, fun H3 s3 => ⟨_, rfl, iteF ?_⟩⟩
  refine ⟨_, rfl, v2, y, rfl, f2.same s3, gy, fun H4 s4 => ⟨_, rfl, iteF ?_⟩⟩
  dsimp only [tNext]
  have f1' := f1.same (s2.trans (s3.trans s4))
  have f2' := f2.same (s3.trans s4)
  have s04 : Same H H4 := s1.trans (s2.trans (s3.trans s4))
  refine ⟨_, rfl, fr0 f1' ⟨_, rfl, fr0 f2' ⟨(by show (2 : Nat) ≤ sizeLine; decide), fun pt hpt => ?_⟩⟩⟩
  have s5 : Same H4 (upd H4 pt (.lst [V.int x.1, V.int y.1])) := Same.upd_new hpt
  have h5 : (upd H4 pt (.lst [V.int x.1, V.int y.1])) pt = some (.lst [V.int x.1, V.int y.1]) := upd_same
  generalize hH5 : upd H4 pt (.lst [V.int x.1, V.int y.1]) = H5 at s5 h5
  refine ⟨_, rfl, fr1 (f1'.same s5) ⟨_, rfl, _, _, rfl, rfl, cmulR (by omega), ?_⟩⟩
  refine ⟨_, rfl, fr1 (f2'.same s5) ⟨_, rfl, _, rfl, _, _, rfl, rfl, _, _, rfl, rfl, _, _, rfl, rfl, ?_, ?_⟩⟩
  · show CMul y.2 ((k : Int) + (p : Int) - 1)
    rw [ek]
    exact cmulR (by omega)
  have eby : y.2 * ((k : Int) + (p : Int) - 1) = y.2 * ((k + p - 1 : Nat) : Int) := by rw [ek]
  refine ⟨(by show (2 : Nat) ≤ sizeLine; decide), fun pb hpb => ?_⟩
  have h6 : (upd H5 pb (.lst [V.int (x.2 * (k : Int)), V.int (y.2 * ((k : Int) + (p : Int) - 1))])) pb = some (.lst [V.int (x.2 * (k : Int)), V.int (y.2 * ((k : Int) + (p : Int) - 1))]) := upd_same
  have s6 : Same H5 (upd H5 pb (.lst [V.int (x.2 * (k : Int)), V.int (y.2 * ((k : Int) + (p : Int) - 1))])) := Same.upd_new hpb
  generalize hH6 : upd H5 pb (.lst [V.int (x.2 * (k : Int)), V.int (y.2 * ((k : Int) + (p : Int) - 1))]) = H6 at s6 h6
  rw [eby] at h6
  have h5' := s6 _ _ h5
  have tb : pt ≠ pb := fun e => by rw [e] at h5; rw [h5] at hpb; cases hpb
  have pt0 : H pt = none := s04.free hpt
  have pb0 : H pb = none := (s04.trans s5).free hpb
  refine ⟨_, _, rfl, ?_⟩
  generalize hy2 : y.2 * ((k + p - 1 : Nat) : Int) = y2 at h6 ry
  generalize hx2 : x.2 * (k : Int) = x2 at h6 rx
  -- the loop over the two
  refine ⟨2, rfl, by decide, by decide, for_range (lo := 0) (n := 2) (fun i σ H' => Same H H' ∧ ∃ (c e : Fq) (o6 o7 : Option V), σ = [some (.int (p : Int)), some (.int (k : Int)), some v1, some v2, some (.ref pt), some (.ref pb), o6, o7] ∧
    H' pt = some (.lst (pairL i c.1 e.1)) ∧ H' pb = some (.lst (pairL i c.2 e.2)) ∧ (i = 0 → c = (x.1, x2) ∧ e = (y.1, y2)) ∧ (i = 1 → c = (y.1, y2) ∧ e = X) ∧ (i = 2 → c = Y ∧ e = X)) ⟨s04.trans (s5.trans s6), (x.1, x2), (y.1, y2), none, none, rfl, h5', h6, fun _ => ⟨rfl, rfl⟩, fun z => by omega, fun z => by omega⟩ ?_ ?_⟩
  · rintro i σ H7 hi ⟨s7, c, e, o6, o7, rfl, ht, hb, c0, c1, c2⟩
    obtain ⟨g, hg, hgo⟩ : ∃ g : Fq, red (p : Int) 3 c = some g ∧ (i = 0 → g = X) ∧ (i = 1 → g = Y) := by
      match i, hi with
      | 0, _ => exact ⟨X, by rw [(c0 rfl).1]; exact rx, fun _ => rfl, fun z => by omega⟩
      | 1, _ => exact ⟨Y, by rw [(c1 rfl).1]; exact ry, fun z => by omega, fun _ => rfl⟩
    refine ⟨3, rfl, by decide, by decide, for_range (lo := 0) (n := 3) (fun j σ H' => Same H H' ∧ ∃ (c' : Fq) (o7 : Option V), σ = [some (.int (p : Int)), some (.int (k : Int)), some v1, some v2, some (.ref pt), some (.ref pb), some (.int (0 + (i : Int))), o7] ∧
      H' pt = some (.lst (pairL i c'.1 e.1)) ∧ H' pb = some (.lst (pairL i c'.2 e.2)) ∧ red (p : Int) (3 - j) c' = some g) ⟨s7, c, o7, rfl, ht, hb, hg⟩ ?_ ?_⟩
    · rintro j σ H8 hj ⟨s8, c', o7, rfl, ht8, hb8, hg8⟩
      have e3 : 3 - j = (3 - (j + 1)) + 1 := by omega
      rw [e3] at hg8
      have ae := pairL_at hi c'.2 e.2
      have af := pairL_at hi c'.1 e.1
      refine ⟨_, rfl, _, rfl, .inl ⟨pb, _, _, _, rfl, rfl, SqL.of hb8, ae, .inl ⟨_, rfl, _, rfl, _, _, rfl, rfl, p0, rfl, _, rfl, ifI (fun z => ?_) fun z => ?_⟩⟩⟩
      · rcases red_go hg8 with ⟨r1, r2, r3⟩ | ⟨r1, _⟩
        · refine ⟨_, rfl, _, rfl, .inl ⟨pt, _, _, _, rfl, rfl, SqL.of ht8, af, .inl ⟨_, rfl, _, rfl, _, _, rfl, rfl, p0, rfl, _, rfl, ifNI (fun z2 => absurd r2 z2) fun z2 => ?_⟩⟩⟩
          dsimp only [tNext]
          refine ⟨_, rfl, _, rfl, .inl ⟨pt, _, _, _, rfl, rfl, SqL.of ht8, af, ?_⟩⟩
          refine ⟨_, rfl, _, _, rfl, rfl, pc _, ?_⟩
          refine ⟨_, rfl, _, rfl, .inl ⟨pb, _, _, _, rfl, rfl, SqL.of hb8, ae, ?_⟩⟩
          refine ⟨_, rfl, _, _, rfl, rfl, pc _, ?_⟩
          refine ⟨(by show (2 : Nat) ≤ sizeLine; decide), fun T hT => ?_⟩
          have s9 : Same H8 (upd H8 T (.tup [V.int (c'.1 / (p : Int)), V.int (c'.2 / (p : Int))])) := Same.upd_new hT
          have h9 : (upd H8 T (.tup [V.int (c'.1 / (p : Int)), V.int (c'.2 / (p : Int))])) T = some (.tup [V.int (c'.1 / (p : Int)), V.int (c'.2 / (p : Int))]) := upd_same
          generalize hH9 : upd H8 T (.tup [V.int (c'.1 / (p : Int)), V.int (c'.2 / (p : Int))]) = H9 at s9 h9
          refine ⟨T, _, rfl, SqT.of h9, rfl, ?_⟩
          have ht9 := s9 _ _ ht8
          have hb9 := s9 _ _ hb8
          refine ⟨_, _, rfl, ?_⟩
          have bt : pb ≠ pt := tb.symm
          refine ⟨_, rfl, _, rfl, pt, _, _, i, rfl, rfl, ht9, pairL_ix hi _ _, ?_⟩
          rw [pairL_set hi]
          have hb10 : (upd H9 pt (.lst (pairL i (c'.1 / (p : Int)) e.1))) pb = some (.lst (pairL i c'.2 e.2)) := by rw [upd_ne bt]; exact hb9
          refine ⟨_, _, rfl, _, rfl, _, rfl, pb, _, _, i, rfl, rfl, hb10, pairL_ix hi _ _, ?_⟩
          rw [pairL_set hi]
          refine ⟨rfl, fun b o eo => ?_, (c'.1 / (p : Int), c'.2 / (p : Int)), _, rfl, by rw [upd_ne tb, upd_same], upd_same, r3⟩
          rw [upd_ne (ne_of_none eo pb0), upd_ne (ne_of_none eo pt0)]
          exact s9 _ _ (s8 _ _ eo)
        · exact absurd z r1
      · rcases red_go hg8 with ⟨r1, _, _⟩ | ⟨r1, r2⟩
        · exact absurd r1 z
        · exact ⟨s8, c', _, rfl, ht8, hb8, r2⟩
    · rintro σ H8 ⟨s8, c', o7, rfl, ht8, hb8, hg8⟩
      obtain rfl : c' = g := Option.some.inj hg8
      match i, hi with
      | 0, _ =>
        obtain rfl := hgo.1 rfl
        exact ⟨s8, e, c', _, _, rfl, ht8, hb8, fun z => by omega, fun _ => ⟨(c0 rfl).2, rfl⟩, fun z => by omega⟩
      | 1, _ =>
        obtain rfl := hgo.2 rfl
        exact ⟨s8, c', e, _, _, rfl, ht8, hb8, fun z => by omega, fun z => by omega, fun _ => ⟨rfl, (c1 rfl).2⟩⟩
  · rintro σ H7 ⟨s7, c, e, o6, o7, rfl, ht, hb, c0, c1, c2⟩
    obtain ⟨rfl, rfl⟩ := c2 rfl
    have t0 : atI (pairL 2 c.1 e.1) 0 = some (V.int e.1) := atI_nat (j := 0) rfl
    have t1 : atI (pairL 2 c.1 e.1) 1 = some (V.int c.1) := atI_nat (j := 1) rfl
    have u0 : atI (pairL 2 c.2 e.2) 0 = some (V.int e.2) := atI_nat (j := 0) rfl
    have u1 : atI (pairL 2 c.2 e.2) 1 = some (V.int c.2) := atI_nat (j := 1) rfl
    refine ⟨_, rfl, .inl ⟨pt, _, _, _, rfl, rfl, SqL.of ht, t0, _, rfl, .inl ⟨pb, _, _, _, rfl, rfl, SqL.of hb, u1, _, _, rfl, rfl, mulS sX.1 sY.2.1, ?_⟩⟩⟩
    refine ⟨_, rfl, .inl ⟨pt, _, _, _, rfl, rfl, SqL.of ht, t1, _, rfl, .inl ⟨pb, _, _, _, rfl, rfl, SqL.of hb, u0, _, _, rfl, rfl, mulS sY.1 sX.2.1, ?_⟩⟩⟩
    refine ⟨_, _, rfl, rfl, .inl ⟨_, rfl, _, rfl, _, _, rfl, rfl, p0, rfl, ?_⟩⟩
    rw [decV, decide_eq_true fin]
    exact q H7 s7
end
end Ft

set_option exponentiation.threshold 9000
namespace Ft
open PySem L2
def RepT (x : Fq) : Prop := (PyData.tuple [.int x.1, .int x.2]).showable = true ∧ (PyData.tuple [.int x.1, .int x.2]).shown.length ≤ sizeLine
def RepL (l : List Int) : Prop := (PyData.list (l.map PyData.int)).showable = true ∧ (PyData.list (l.map PyData.int)).shown.length ≤ sizeLine
/-- the mathematics that the law asks -/
structure Mat7 (bn : Int → Nat → Fq) : Prop where
  vals : ∀ s : Int, isSign s = true → s.natAbs ≤ 65 → (s = 1 ∨ 3 ≤ s.natAbs) ∧ lawVals s = ((List.range s.natAbs).map fun n : Nat => valueAt s (n : Int)) ∧ RepL (lawVals s)
  bern : ∀ (s : Int) (k : Nat), isSign s = true → s.natAbs ≤ 65 → k ≤ 23 → IsBern k s (bn s k) ∧ Good (bn s k) ∧ RepT (bn s k)
  one : ∀ k : Nat, k ≤ 24 → IsBern k 1 (bn 1 k) ∧ Good (bn 1 k)
  ends : ∀ (s : Int) (k t : Nat), isSign s = true → s.natAbs ≤ 65 → 1 ≤ k → k ≤ 24 → t < max 1 (min 5 (240 / s.natAbs)) →
    ∃ R, endGo k (t * s.natAbs + s.natAbs) 0 ((List.range k).map (bn s)) (0, 1) 1 = some R ∧ R.1 = (k : Int) * psumTo s (k - 1) (t * s.natAbs + s.natAbs) * R.2 ∧ ((k : Int) * psumTo s (k - 1) (t * s.natAbs + s.natAbs)).natAbs < 2 ^ 4000
  kum : ∀ p e : Nat, p ∈ [5, 7, 11, 13, 17, 19] → e < (26 - p) / 2 → (2 + 2 * e) % (p - 1) ≠ 0 →
    ∃ X Y, red (p : Int) 3 ((bn 1 (2 + 2 * e)).1, (bn 1 (2 + 2 * e)).2 * ((2 + 2 * e : Nat) : Int)) = some X ∧ red (p : Int) 3 ((bn 1 (2 + 2 * e + p - 1)).1, (bn 1 (2 + 2 * e + p - 1)).2 * ((2 + 2 * e + p - 1 : Nat) : Int)) = some Y ∧
      Small 4000 X ∧ Small 4000 Y ∧ (X.1 * Y.2 - Y.1 * X.2) % (p : Int) = 0
theorem nodict_ints (l : List Int) : (PyData.list (l.map PyData.int)).hasDict = false := PyData.hasDict_of_canLay _ (canLay_ints l)
theorem depth64 (l : List Int) : (PyData.list (l.map PyData.int)).depth ≤ 64 := by
  have e : PyData.depth (.list (l.map PyData.int)) = 0 + 1 := by rw [← depth_ints l]; rfl
  omega
theorem Fr.updL {H : Hp} {p : Addr} {xs : List V} {o : HO} {v : V} {x : Fq} (hp : H p = some (.lst xs)) (h : Fr H v x) : Fr (upd H p o) v x := by
  obtain ⟨a, e, z⟩ := h
  exact ⟨a, e, by rw [upd_ne (ne_of z hp (by intro z; cases z))]; exact z⟩
theorem Frs.updL {H : Hp} {p : Addr} {xs : List V} {o : HO} {us : List V} {l : List Fq} (hp : H p = some (.lst xs)) (h : Frs H us l) : Frs (upd H p o) us l := ⟨h.1, fun i u x e1 e2 => (h.2 i u x e1 e2).updL hp⟩
theorem value_mod (s n : Int) : valueAt s (n % (s.natAbs : Int)) = valueAt s n := by
  unfold valueAt
  rw [Int.emod_emod]
theorem Fr.but {H H' : Hp} {d l : Addr} {v : V} {x : Fq} (D : DeckAt H d l) (b : But d l H H') (h : Fr H v x) : Fr H' v x := by
  obtain ⟨a, e, z⟩ := h
  obtain ⟨mx, dr, cs, h1, h2, _⟩ := D
  exact ⟨a, e, b _ _ z (ne_of z h1 (by intro z; cases z)) (ne_of z h2 (by intro z; cases z))⟩
theorem Frs.but {H H' : Hp} {d l : Addr} {us : List V} {xs : List Fq} (D : DeckAt H d l) (b : But d l H H') (h : Frs H us xs) : Frs H' us xs := ⟨h.1, fun i u x e1 e2 => (h.2 i u x e1 e2).but D b⟩
theorem depthT (a b : Int) : (PyData.tuple [.int a, .int b]).depth ≤ 64 := by
  show max 0 (max 0 0) + 1 ≤ 64
  decide
def sp_law (K : PySem.W.Frag) : Sp := fun vs H Q _ => ∃ (a : Addr) (ns : List Int), vs = [.ref a] ∧ SqL K H a (ns.map V.int) ∧ ns.length ≤ 63 ∧ ∀ H', Q (.bl true) H'
section
variable {P : Program} {w : World} {K : PySem.W.Frag} {mg : Str → Option Value} {base : Heap}
theorem ok_law {f : Addr} {fd : FuncData} {bn : Int → Nat → Fq} (F : Fun K "law" "law" s_law f fd) (M : Mat7 bn) (B : Bi mg) (c__law_deck : Cal P w K mg base 1 "_law_deck" (sp_deck K)) (c__law_draw : Cal P w K mg base 1 "_law_draw" sp_draw) (c__law_sign : Cal P w K mg base 3 "_law_sign" sp_sign)
    (c__law_values : Cal P w K mg base 2 "_law_values" sp_vals) (c_sign_at : Cal P w K mg base 5 "sign_at" sp_sign_at) (c_bernoulli : Cal P w K mg base 5 "bernoulli" sp_bern) (k_bernoulli : CalK P w K mg base 5 "bernoulli" ["sign", "k"] swapV sp_bern) (c__law_is_number : Cal P w K mg base 1 "_law_is_number" sp_isNum)
    (c__law_power : Cal P w K mg base 1 "_law_power" sp_power) (c__law_is_equal : Cal P w K mg base 1 "_law_is_equal" sp_equal) (c__law_end : Cal P w K mg base 2 "_law_end" sp_end) (c__law_pick : Cal P w K mg base 2 "_law_pick" (sp_pick K)) (c__law_is_kummer : Cal P w K mg base 6 "_law_is_kummer" sp_kummer) :
    FnG P w K mg base 7 f fd ["_law_script"] (sp_law K) := by
  have sc := sc_law
  refine fun_g F sc (fun _ _ _ _ ⟨_, _, e, _⟩ => by rw [e]; rfl) (fun cdv A outer s H vs Q E hgd hr h => ?_)
  obtain ⟨a, ns, rfl, hS, hlen, q⟩ := h
  have h64 : (A.deeper (PyProof.Rows.envOfC "law" (defScope s_law) s.heap.objs.size f cdv)).units + 64 < cLine := by have := hr.un; omega
  refine ⟨_, (pss_cons (ps_set (i := 1) sc.nd rfl (Or.inl rfl) (pe_c c__law_deck hr (by decide) (by rfl) (pa_cons (pv 0) pa_nil)))
      (pss_cons (ps_asg (pe_tup (pa_cons (pe_c c__law_sign hr (by decide) (by rfl) (pa_cons (pv 1) pa_nil)) (pa_cons (pe_op op_add pe_int (pe_c c__law_draw hr (by decide) (by rfl) (pa_cons (pv 1) (pa_cons pe_int pa_nil)))) (pa_cons (pe_op op_add pe_int (pe_c c__law_draw hr (by decide) (by rfl) (pa_cons (pv 1) (pa_cons pe_int pa_nil)))) pa_nil)))) (pg_tup rfl (pgs_cons (pg_name (i := 2) sc.nd rfl (Or.inr rfl)) (pgs_cons (pg_name (i := 3) sc.nd rfl (Or.inl rfl)) (pgs_cons (pg_name (i := 4) sc.nd rfl (Or.inl rfl)) pgs_nil)))))
      (pss_cons (ps_par (i := 5) (j := 6) (by rfl) sc.nd rfl rfl (by decide) rfl rfl (pa_cons (pe_callB call_abs (by rfl) B.abs (by decide +kernel) (pa_cons (pv 2) pa_nil)) (pa_cons (pe_c c__law_values hr (by decide) (by rfl) (pa_cons (pv 2) pa_nil)) pa_nil)) (by rfl))
      (pss_cons (ps_if (pt_cmpR op_ne (pe_callB (call_repr hgd hr) (by rfl) B.repr (by decide +kernel) (pa_cons (pe_lc (own := [("_law_a", 7)]) (g := gName 7) (tt := tYes) (by rfl) sc.nd (pi_range1 rfl B.range (pa_cons (pv 5) pa_nil)) (blkOk_by (own := [("_law_a", 7)]) (N := N_law) (sc := defScope s_law) (by decide +kernel)) (fun _ _ _ _ _ => (pg_name (i := 7) sc.nd rfl (Or.inl rfl))) (fun _ _ _ _ _ => pts_nil) (fun _ _ _ _ _ => (pe_c c_sign_at hr (by decide) (by rfl) (pa_cons (pv 2) (pa_cons (pv 7) pa_nil))))) pa_nil)) (pe_callB (call_repr hgd hr) (by rfl) B.repr (by decide +kernel) (pa_cons (pv 6) pa_nil)) (nomark _))
      (pss_one (ps_ret pe_bl))
      pss_nil)
      (pss_cons (ps_setLc (i := 9) (own := [("_law_i", 8)]) (g := gName 8) (tt := tYes) (by rfl) sc.nd rfl rfl (sw_true rfl rfl rfl (by decide +kernel)) (pi_range1 rfl B.range (pa_cons (pv 3) pa_nil)) (blkOk_by (own := [("_law_i", 8)]) (N := N_law) (sc := defScope s_law) (by decide +kernel)) (fun _ _ _ _ _ => (pg_name (i := 8) sc.nd rfl (Or.inl rfl))) (fun _ _ _ _ _ => pts_nil) (fun _ _ _ _ _ => (pe_c c_bernoulli hr (by decide) (by rfl) (pa_cons (pv 8) (pa_cons (pv 2) pa_nil)))))
      (pss_cons (ps_if (pt_cmpR (op_neD h64) (pe_lc (own := [("_law_number", 10)]) (g := gName 10)  (by rfl) sc.nd (pi_list (pv 9)) (blkOk_by (own := [("_law_number", 10)]) (N := N_law) (sc := defScope s_law) (by decide +kernel)) (fun _ _ _ _ _ => (pg_name (i := 10) sc.nd rfl (Or.inl rfl))) (fun _ _ _ _ _ => (pts_one (pt_not (pt_val (pe_c c__law_is_number hr (by decide) (by rfl) (pa_cons (pv 10) pa_nil)))))) (fun _ _ _ _ _ => (pv 10))) (pe_lst pa_nil) (nomark _))
      (pss_one (ps_ret pe_bl))
      pss_nil)
      (pss_cons (ps_set (i := 4) sc.nd rfl (Or.inl rfl) (pe_callB (call_max2 rfl) (by rfl) B.max_ (by decide +kernel) (pa_cons pe_int (pa_cons (pe_callB (call_min2 rfl) (by rfl) B.min_ (by decide +kernel) (pa_cons (pv 4) (pa_cons (pe_op op_fdivW pe_int (pv 5)) pa_nil))) pa_nil))))
      (pss_cons (ps_par (i := 11) (j := 12) (by rfl) sc.nd rfl rfl (by decide) rfl rfl (pa_cons pe_int (pa_cons (pe_c c__law_draw hr (by decide) (by rfl) (pa_cons (pv 1) (pa_cons (pv 3) pa_nil))) pa_nil)) (by rfl))
      (pss_cons (ps_for PassesOwn.never rfl (pi_range1 rfl B.range (pa_cons (pv 4) pa_nil)) (pg_name (i := 13) sc.nd rfl (Or.inl rfl))
      (pss_cons (ps_for PassesOwn.never rfl (pi_range2 (by rfl) B.range (pa_cons (pe_op op_add (pe_op op_mul (pv 13) (pv 5)) pe_int) (pa_cons (pe_op op_add (pe_op op_add (pe_op op_mul (pv 13) (pv 5)) (pv 5)) pe_int) pa_nil))) (pg_name (i := 7) sc.nd rfl (Or.inl rfl))
        (pss_one (ps_set (i := 11) sc.nd rfl (Or.inl rfl) (pe_op op_add (pv 11) (pe_op op_mul (pe_ix ix_seq (pv 6) (pe_op op_mod (pe_callTy call_int1 (by rfl) B.int_ (by decide +kernel) (pa_cons (pv 7) pa_nil)) (pv 5)) (fun _ _ => rfl)) (pe_c c__law_power hr (by decide) (by rfl) (pa_cons (pv 7) (pa_cons (pe_op op_sub (pv 3) pe_int) pa_nil))))))))
        (pss_one (ps_if (pt_not (pt_val (pe_c c__law_is_equal hr (by decide) (by rfl) (pa_cons (pe_c c__law_end hr (by decide) (by rfl) (pa_cons (pv 9) (pa_cons (pv 3) (pa_cons (pe_op op_add (pe_op op_mul (pv 13) (pv 5)) (pv 5)) pa_nil)))) (pa_cons (pe_op op_mul (pv 3) (pv 11)) pa_nil)))))
        (pss_one (ps_ret pe_bl))
        pss_nil))))
      (pss_cons (ps_if (pt_cmpR op_ne (pe_callB (call_repr hgd hr) (by rfl) B.repr (by decide +kernel) (pa_cons (pe_k0 k_bernoulli hr (by decide) (by rfl) (pk_cons (pv 2) (pk_cons (pv 12) pk_nil))) pa_nil)) (pe_callB (call_repr hgd hr) (by rfl) B.repr (by decide +kernel) (pa_cons (pe_ix ix_seq (pv 9) (pv 12) (fun _ _ => rfl)) pa_nil)) (nomark _))
      (pss_one (ps_ret pe_bl))
      pss_nil)
      (pss_cons (ps_set (i := 14) sc.nd rfl (Or.inl rfl) (pe_c c__law_pick hr (by decide) (by rfl) (pa_cons (pv 1) (pa_cons (pe_lst (pa_cons pe_int (pa_cons pe_int (pa_cons pe_int (pa_cons pe_int (pa_cons pe_int (pa_cons pe_int (pa_cons pe_int (pa_cons pe_int pa_nil))))))))) pa_nil))))
      (pss_cons (ps_set (i := 15) sc.nd rfl (Or.inl rfl) (pe_op op_add pe_int (pe_op op_mul pe_int (pe_c c__law_draw hr (by decide) (by rfl) (pa_cons (pv 1) (pa_cons (pe_op op_fdivW (pe_op op_sub pe_int (pv 14)) pe_int) pa_nil))))))
      (pss_one (ps_ret (pe_or (pe_cmpR op_eq (pe_op op_mod (pe_callTy call_int1 (by rfl) B.int_ (by decide +kernel) (pa_cons (pv 15) pa_nil)) (pe_op op_sub (pv 14) pe_int)) pe_int (nomark _)) (pe_one (pe_c c__law_is_kummer hr (by decide) (by rfl) (pa_cons (pv 14) (pa_cons (pv 15) pa_nil))))))))))))))))))), ?_⟩
  refine ⟨_, rfl, a, ns, rfl, hS, hlen, fun H1 d l D1 _ _ _ => ?_⟩
  refine ⟨_, rfl, d, l, rfl, D1, fun H2 z D2 b2 hz hz65 => ?_⟩
  refine ⟨_, rfl, d, l, _, rfl, D2, by decide, by decide, fun H3 k0 D3 b3 k00 k01 => ?_⟩
  refine ⟨_, _, rfl, rfl, ?_⟩
  refine ⟨_, rfl, d, l, _, rfl, D3, by decide, by decide, fun H4 t0 D4 b4 t00 t01 => ?_⟩
  refine ⟨_, _, rfl, rfl, ?_⟩
  refine ⟨(by show (3 : Nat) ≤ sizeLine; decide), fun p1 hp1 => ?_⟩
  have s5 : Same H4 (upd H4 p1 (.tup [V.int z, V.int (1 + k0), V.int (1 + t0)])) := Same.upd_new hp1
  have h5 : (upd H4 p1 (.tup [V.int z, V.int (1 + k0), V.int (1 + t0)])) p1 = some (.tup [V.int z, V.int (1 + k0), V.int (1 + t0)]) := upd_same
  generalize hH5 : upd H4 p1 (.tup [V.int z, V.int (1 + k0), V.int (1 + t0)]) = H5 at s5 h5
  have D5 := D4.same s5
  refine ⟨p1, _, rfl, SqT.of h5, rfl, ?_⟩
  refine ⟨_, _, rfl, _, _, rfl, _, _, rfl, rfl, ?_⟩
  obtain ⟨k, hk, hk1, hk24⟩ : ∃ k : Nat, 1 + k0 = (k : Int) ∧ 1 ≤ k ∧ k ≤ 24 := ⟨(1 + k0).toNat, by omega, by omega, by omega⟩
  obtain ⟨n, hn, hn1, hn5⟩ : ∃ n : Nat, 1 + t0 = (n : Int) ∧ 1 ≤ n ∧ n ≤ 5 := ⟨(1 + t0).toNat, by omega, by omega, by omega⟩
  rw [hk, hn]
  have ea : (if z < 0 then -z else z) = (z.natAbs : Int) := by split <;> omega
  have mv := M.vals z hz hz65
  have hzl := isSign_le hz
  refine ⟨_, rfl, z, rfl, ?_⟩
  rw [ea]
  refine ⟨_, rfl, z, rfl, mv.1, by omega, fun H6 pv s6 hpn hpv => ?_⟩
  refine ⟨_, _, rfl, ?_⟩
  have D6 := D5.same s6
  generalize hm : z.natAbs = m at mv
  have hm65 : m ≤ 65 := by omega
  have hm1 : 1 ≤ m := by omega
  dsimp only
  -- repr([..]) != repr(values)
  refine tSeq_join (fun σ H' => DeckAt H' d l ∧ H' pv = some (.lst ((lawVals z).map V.int)) ∧ σ = [some (.ref a), some (.ref d), some (.int z), some (.int (k : Int)), some (.int (n : Int)), some (.int (m : Int)), some (.ref pv), none, none, none, none, none, none, none, none, none]) (fun N hN => ?_) ?_
  · refine ⟨_, rfl, _, rfl, (by omega), (by omega), fun Dl hDl => ?_⟩
    refine lc_range (lo := 0) (n := ((m : Int)).toNat) (fun i H' => Same H6 H' ∧ H' Dl = some (.lst ((List.range i).map fun n : Nat => V.int (valueAt z (n : Int))))) ⟨Same.upd_new hDl, upd_same⟩ ?_ ?_
    · rintro i H8 hi ⟨s8, h8⟩
      refine ⟨rfl, ?_⟩
      refine ⟨_, rfl, _, rfl, z, _, rfl, hz, _, h8, ?_, fun b o e => ?_, ?_⟩
      · rw [List.length_map, List.length_range]
        exact Nat.lt_of_le_of_lt (by omega : i ≤ 65) (by decide)
      · rw [upd_ne (ne_of_none e hDl)]
        exact s8 _ _ e
      · rw [upd_same, List.range_succ, List.map_append]
        show some (HO.lst (_ ++ [V.int (valueAt z (0 + (i : Int)))])) = _
        rw [Int.zero_add]
        rfl
    · rintro H8 ⟨s8, h8⟩
      rw [Int.toNat_natCast] at h8
      have e8 : ((List.range m).map fun n : Nat => V.int (valueAt z (n : Int))) = (lawVals z).map V.int := by rw [mv.2.1, List.map_map]; rfl
      rw [e8] at h8
      refine ⟨Dl, _, rfl, .lst (SqL.of h8) (dp_ints _), mv.2.2.1, nodict_ints _, depth64 _, mv.2.2.2, ?_⟩
      refine ⟨_, rfl, pv, _, rfl, .lst (SqL.of (s8 _ _ hpv)) (dp_ints _), mv.2.2.1, nodict_ints _, depth64 _, mv.2.2.2, ?_⟩
      refine ⟨rfl, _, rfl, ifN (fun k => absurd rfl k) fun _ => ?_⟩
      exact hN _ _ ⟨D6.same s8, s8 _ _ hpv, rfl⟩
  rintro _ H7 ⟨D7, h7, rfl⟩
  -- the numbers
  refine ⟨_, rfl, (k : Int), rfl, (by omega), (by omega), fun Dn hDn => ?_⟩
  refine lc_range (lo := 0) (n := ((k : Int)).toNat) (fun i H' => Same H7 H' ∧ ∃ us : List V, H' Dn = some (.lst us) ∧ Frs H' us ((List.range i).map (bn z))) ⟨Same.upd_new hDn, [], upd_same, rfl, fun i u x e => by cases e⟩ ?_ ?_
  · rintro i H8 hi ⟨s8, us, h8, f8⟩
    refine ⟨rfl, ?_⟩
    have bi := M.bern z i hz hz65 (by omega)
    refine ⟨_, rfl, _, rfl, i, z, bn z i, ?_, by omega, hz, bi.1, fun H9 v9 s9 f9 => ?_⟩
    · show [V.int (0 + (i : Int)), V.int z] = _
      rw [Int.zero_add]
    have h9 := s9 _ _ h8
    refine ⟨us, h9, ?_, fun b o e => ?_, _, upd_same, ?_⟩
    · rw [f8.1, List.length_map, List.length_range]
      exact Nat.lt_of_le_of_lt (by omega : i ≤ 24) (by decide)
    · rw [upd_ne (ne_of_none e hDn)]
      exact s9 _ _ (s8 _ _ e)
    · rw [List.range_succ, List.map_append]
      exact Frs.snoc ((f8.same s9).updL h9) (f9.updL h9)
  rintro H8 ⟨s8, us, h8, f8⟩
  rw [Int.toNat_natCast] at f8
  have lus : us.length = k := by rw [f8.1, List.length_map, List.length_range]
  have hgood : ∀ x ∈ (List.range k).map (bn z), Good x := fun x hx => by
    obtain ⟨i, hi, rfl⟩ := List.mem_map.mp hx
    exact (M.bern z i hz hz65 (by have := List.mem_range.mp hi; omega)).2.1
  dsimp only [gName]
  -- all of them numbers
  refine ⟨_, rfl, Dn, rfl, ⟨_, SqL.of h8⟩, fun De hDe => ?_⟩
  refine lc_list (K := K) (a := Dn) (xs := us) (fun i H' => Same H8 H' ∧ H' De = some (.lst [])) ⟨Same.upd_new hDe, upd_same⟩ (fun i H' _ ⟨s5, _⟩ => SqL.of (s5 _ _ h8)) ?_ ?_
  · rintro i x H9 hx ⟨s9, h9⟩
    have hi : i < us.length := (List.getElem?_eq_some_iff.mp hx).1
    obtain ⟨u, y, hu, hy, fy, hym, _⟩ := f8.get hi
    obtain rfl : x = u := Option.some.inj (hx.symm.trans hu)
    refine ⟨rfl, ?_⟩
    refine ⟨_, rfl, x, y, rfl, fy.same s9, hgood y hym, fun H10 s10 => ⟨_, rfl, iteF ?_⟩⟩
    exact ⟨s9.trans s10, s10 _ _ h9⟩
  rintro H9 ⟨s9, h9⟩
  refine ⟨Nat.zero_le _, fun p2 hp2 => ?_⟩
  have s10 : Same H9 (upd H9 p2 (.lst [])) := Same.upd_new hp2
  refine ⟨_, _, .lst (SqL.of (s10 _ _ h9)) .nil, .lst (SqL.of upd_same) .nil, by decide, by decide, _, rfl, iteF ?_⟩
  generalize hH10 : upd H9 p2 (.lst []) = H10 at s10
  dsimp only [tNext]
  have s710 : Same H7 H10 := s8.trans (s9.trans s10)
  have s810 : Same H8 H10 := s9.trans s10
  have D10 := D7.same s710
  have h10 := s810 _ _ h8
  have f10 := f8.same s810
  have v10 := s710 _ _ h7
  -- periods
  have e240 : (240 : Int) / (m : Int) = ((240 / m : Nat) : Int) := rfl
  obtain ⟨T, hT, hT1, hT2⟩ : ∃ T : Nat, (if (if (240 : Int) / (m : Int) < (n : Int) then (240 : Int) / (m : Int) else (n : Int)) > 1 then (if (240 : Int) / (m : Int) < (n : Int) then (240 : Int) / (m : Int) else (n : Int)) else 1) = (T : Int) ∧ T ≤ max 1 (min 5 (240 / m)) ∧ T ≤ 5 := by
    rw [e240]
    generalize 240 / m = g
    by_cases c : (g : Int) < (n : Int)
    · simp only [if_pos c]
      by_cases c2 : (g : Int) > 1
      · exact ⟨g, by rw [if_pos c2], by omega, by omega⟩
      · exact ⟨1, by rw [if_neg c2]; rfl, by omega, by omega⟩
    · simp only [if_neg c]
      by_cases c2 : (n : Int) > 1
      · exact ⟨n, by rw [if_pos c2], by omega, by omega⟩
      · exact ⟨1, by rw [if_neg c2]; rfl, by omega, by omega⟩
  refine ⟨_, rfl, _, rfl, _, _, rfl, rfl, cdivN (by omega) (by omega), _, _, rfl, _, _, rfl, ?_⟩
  rw [hT]
  refine ⟨_, rfl, _, rfl, d, l, _, rfl, D10, by omega, by omega, fun H11 at_ D11 b11 at0 at1 => ?_⟩
  refine ⟨_, _, rfl, ?_⟩
  have nv := D5.new hpn
  have nn := D7.new hDn
  have h11 : H11 Dn = some (.lst us) := b11 _ _ h10 nn.1 nn.2
  have v11 : H11 pv = some (.lst ((lawVals z).map V.int)) := b11 _ _ v10 nv.1 nv.2
  have f11 := f10.but D10 b11
  have vz : ∀ r : Nat, r < m → ((lawVals z).map V.int)[r]? = some (V.int (valueAt z (r : Int))) := fun r hr => by
    rw [mv.2.1, List.map_map, List.getElem?_map, List.getElem?_range hr]
    rfl
  refine ⟨_, rfl, (T : Int), rfl, (by omega), (by omega), for_range (lo := 0) (n := ((T : Int)).toNat) (fun t σ H' => Same H11 H' ∧ ∃ o7 o13 : Option V, σ = [some (.ref a), some (.ref d), some (.int z), some (.int (k : Int)), some (.int (T : Int)), some (.int (m : Int)), some (.ref pv), o7, none, some (.ref Dn), none, some (.int (psumTo z (k - 1) (t * m))), some (.int at_), o13, none, none]) ⟨Same.refl _, none, none, ?_⟩ ?_ ?_⟩
  · rw [Nat.zero_mul]; rfl
  · rintro t σ H12 ht ⟨s12, o7, o13, rfl⟩
    have htT : t < T := by omega
    have tm : t * m ≤ 4 * 65 := Nat.mul_le_mul (by omega) hm65
    have etm : (0 + (t : Int)) * (m : Int) = ((t * m : Nat) : Int) := by rw [Int.zero_add]; exact (Int.natCast_mul t m).symm
    refine ⟨_, rfl, _, rfl, _, _, rfl, rfl, .inl ⟨by omega, by omega⟩, _, _, rfl, rfl, _, rfl, _, rfl, _, _, rfl, rfl, .inl ⟨by omega, by omega⟩, _, rfl, _, _, rfl, rfl, _, _, rfl, rfl, _, _, rfl, ?_, ?_⟩
    · rw [etm]
      omega
    refine for_range (lo := (0 + (t : Int)) * (m : Int) + 1) (n := ((0 + (t : Int)) * (m : Int) + (m : Int) + 1 - ((0 + (t : Int)) * (m : Int) + 1)).toNat) (fun j σ H' => H12 = H' ∧ ∃ o7 : Option V, σ = [some (.ref a), some (.ref d), some (.int z), some (.int (k : Int)), some (.int (T : Int)), some (.int (m : Int)), some (.ref pv), o7, none, some (.ref Dn), none, some (.int (psumTo z (k - 1) (t * m + j))), some (.int at_), some (.int (0 + (t : Int))), none, none]) ⟨rfl, o7, rfl⟩ ?_ ?_
    · rintro j σ _ hj ⟨rfl, o7, rfl⟩
      have hjm : j < m := by rw [etm] at hj; omega
      have ej : (0 + (t : Int)) * (m : Int) + 1 + (j : Int) = ((1 + (t * m + j) : Nat) : Int) := by rw [etm]; omega
      dsimp only [gName]
      rw [ej]
      have hN : 1 + (t * m + j) ≤ 400 := by omega
      have mp : (0 : Int) < (m : Int) := by omega
      have hat : atI ((lawVals z).map V.int) (((1 + (t * m + j) : Nat) : Int) % (m : Int)) = some (V.int (valueAt z ((1 + (t * m + j) : Nat) : Int))) := by
        have e1 := value_mod z ((1 + (t * m + j) : Nat) : Int)
        rw [hm] at e1
        rw [← e1]
        exact atI_nat (j := (1 + (t * m + j)) % m) (vz _ (Nat.mod_lt _ (by omega)))
      have v1 := valueAt_one z ((1 + (t * m + j) : Nat) : Int)
      have ek1 : (k : Int) - 1 = ((k - 1 : Nat) : Int) := by omega
      refine ⟨_, rfl, _, rfl, _, rfl, .inl ⟨_, rfl, _, rfl, _, _, rfl, rfl, mp, .inl ⟨pv, _, _, _, rfl, rfl, SqL.of (s12 _ _ v11), hat, _, rfl, _, rfl, _, _, rfl, rfl, 1 + (t * m + j), k - 1, ?_, by omega, by omega, pow_400 hN (by omega), _, _, rfl, rfl, .inl ⟨by omega, by omega⟩, _, _, rfl, rfl, ?_⟩⟩⟩
      · show [V.int _, V.int ((k : Int) - 1)] = _
        rw [ek1]
      have e : psumTo z (k - 1) (t * m + (j + 1)) = psumTo z (k - 1) (t * m + j) + valueAt z ((1 + (t * m + j) : Nat) : Int) * (((1 + (t * m + j)) ^ (k - 1) : Nat) : Int) := by
        show psumTo z (k - 1) (t * m + j) + valueAt z (1 + ((t * m + j : Nat) : Int)) * _ = _
        rw [Int.natCast_add]; rfl
      refine ⟨rfl, some (V.int ((1 + (t * m + j) : Nat) : Int)), ?_⟩
      rw [e]
      rfl
    · rintro σ _ ⟨rfl, o7, rfl⟩
      have en : ((0 + (t : Int)) * (m : Int) + (m : Int) + 1 - ((0 + (t : Int)) * (m : Int) + 1)).toNat = m := by rw [etm]; omega
      rw [en]
      have hz1 : z.natAbs = m := hm
      obtain ⟨R, hR, hR1, hR2⟩ := M.ends z k t hz hz65 hk1 hk24 (by rw [hz1]; omega)
      rw [hz1] at hR hR1 hR2
      have etm2 : (0 + (t : Int)) * (m : Int) + (m : Int) = ((t * m + m : Nat) : Int) := by rw [etm]; omega
      refine ⟨_, rfl, _, rfl, _, rfl, _, rfl, _, _, rfl, rfl, .inl ⟨by omega, by omega⟩, _, rfl, _, _, rfl, rfl, Dn, us, (List.range k).map (bn z), k, t * m + m, R, ?_, s12 _ _ h11, f11.same s12, lus, hk24, by omega, by omega, fun x hx => (hgood x hx).1, hR, fun H13 v13 s13 f13 sR => ?_⟩
      · show [V.ref Dn, V.int (k : Int), V.int ((0 + (t : Int)) * (m : Int) + (m : Int))] = _
        rw [etm2]
      refine ⟨_, rfl, _, rfl, _, _, rfl, rfl, .inl ⟨by omega, by omega⟩, v13, R, _, rfl, f13, sR, hR2, _, rfl, ?_⟩
      rw [decide_eq_true hR1]
      refine iteF ?_
      refine ⟨s12.trans s13, o7, some (V.int (0 + (t : Int))), ?_⟩
      rw [Nat.succ_mul]
  · rintro σ H12 ⟨s12, o7, o13, rfl⟩
    dsimp only
    obtain ⟨i, hi, hik⟩ : ∃ i : Nat, at_ = (i : Int) ∧ i < k := ⟨at_.toNat, by omega, by omega⟩
    subst hi
    have bi := M.bern z i hz hz65 (by omega)
    have D12 := D11.same s12
    refine tSeq_join (fun σ H' => DeckAt H' d l ∧ ∃ o7 o11 o13 : Option V, σ = [some (.ref a), some (.ref d), some (.int z), some (.int (k : Int)), some (.int (T : Int)), some (.int (m : Int)), some (.ref pv), o7, none, some (.ref Dn), none, o11, some (.int (i : Int)), o13, none, none]) (fun N hN => ?_) ?_
    · refine ⟨_, rfl, _, rfl, i, z, bn z i, rfl, by omega, hz, bi.1, fun H13 v13 s13 f13 => ?_⟩
      obtain ⟨T1, rfl, hT1'⟩ := id f13
      refine ⟨T1, _, rfl, .tup (SqT.of hT1') (.cons (.int _) (.cons (.int _) .nil)), bi.2.2.1, rfl, depthT _ _, bi.2.2.2, ?_⟩
      obtain ⟨u, x, hu, hx, fx, _, _⟩ := f11.get (show i < us.length by omega)
      have ex : x = bn z i := by
        rw [List.getElem?_map, List.getElem?_range hik] at hx
        exact (Option.some.inj hx).symm
      subst ex
      have fx13 := fx.same (s12.trans s13)
      obtain ⟨T2, rfl, hT2'⟩ := id fx13
      refine ⟨_, rfl, _, rfl, .inl ⟨Dn, us, _, _, rfl, rfl, SqL.of (s13 _ _ (s12 _ _ h11)), atI_nat hu, ?_⟩⟩
      refine ⟨T2, _, rfl, .tup (SqT.of hT2') (.cons (.int _) (.cons (.int _) .nil)), bi.2.2.1, rfl, depthT _ _, bi.2.2.2, ?_⟩
      refine ⟨rfl, _, rfl, ifN (fun k => absurd rfl k) fun _ => ?_⟩
      exact hN _ _ ⟨D12.same s13, _, _, _, rfl⟩
    rintro _ H13 ⟨D13, o7, o11, o13, rfl⟩
    refine ⟨_, rfl, (by show (8 : Nat) ≤ sizeLine; decide), fun p3 hp3 => ?_⟩
    have n3 := D13.new hp3
    refine ⟨d, l, p3, _, rfl, D13.same (Same.upd_new hp3), .inl ⟨upd_same, n3.2⟩, (by show 0 < 8; decide), (by show 8 < 2 ^ 64; decide), fun H14 v D14 b14 hv => ?_⟩
    have hp : ∃ p : Nat, v = .int (p : Int) ∧ p ∈ [5, 7, 11, 13, 17, 19] := by
      simp only [List.mem_cons, List.not_mem_nil, or_false] at hv
      rcases hv with h | h | h | h | h | h | h | h
      · exact ⟨5, h, by decide⟩
      · exact ⟨7, h, by decide⟩
      · exact ⟨11, h, by decide⟩
      · exact ⟨13, h, by decide⟩
      · exact ⟨17, h, by decide⟩
      · exact ⟨19, h, by decide⟩
      · exact ⟨5, h, by decide⟩
      · exact ⟨7, h, by decide⟩
    obtain ⟨p, rfl, hp⟩ := hp
    have hpr : 5 ≤ p ∧ p ≤ 19 ∧ p % 2 = 1 := by
      simp only [List.mem_cons, List.not_mem_nil, or_false] at hp
      omega
    refine ⟨_, rfl, _, rfl, _, _, rfl, rfl, _, _, rfl, rfl, ⟨by decide, by decide⟩, ?_⟩
    refine ⟨d, l, _, rfl, D14, by omega, by omega, fun H15 r D15 b15 r0 r1 => ?_⟩
    obtain ⟨e, he, hel⟩ : ∃ e : Nat, r = (e : Int) ∧ e < (26 - p) / 2 := ⟨r.toNat, by omega, by omega⟩
    subst he
    refine ⟨_, _, rfl, rfl, .inl ⟨by decide, by decide⟩, _, _, rfl, rfl, ?_⟩
    have ee : (2 : Int) + 2 * (e : Int) = ((2 + 2 * e : Nat) : Int) := by omega
    have ep : (p : Int) - 1 = ((p - 1 : Nat) : Int) := by omega
    refine ⟨_, rfl, .inl ⟨_, rfl, _, rfl, _, _, rfl, rfl, _, _, rfl, rfl, (by show (0 : Int) < (p : Int) - 1; omega), rfl, ?_⟩⟩
    refine ⟨_, rfl, ?_⟩
    have ed : decide ((fun i j : Int => V.int (i % j)) (2 + 2 * (e : Int)) ((p : Int) - 1) = V.int 0) = decide ((2 + 2 * e) % (p - 1) = 0) := by
      show decide (V.int ((2 + 2 * (e : Int)) % ((p : Int) - 1)) = V.int 0) = _
      rw [decV, ee, ep]
      by_cases c : (2 + 2 * e) % (p - 1) = 0
      · rw [decide_eq_true c]; exact decide_eq_true (congrArg Int.ofNat c)
      · rw [decide_eq_false c]; exact decide_eq_false fun z => c (Int.ofNat.inj z)
    rw [ed]
    by_cases c : (2 + 2 * e) % (p - 1) = 0
    · rw [decide_eq_true c]
      exact iteT (q _)
    · rw [decide_eq_false c]
      obtain ⟨X, Y, k1, k2, k3, k4, k5⟩ := M.kum p e hp hel c
      have o1 := M.one (2 + 2 * e) (by omega)
      have o2 := M.one (2 + 2 * e + p - 1) (by omega)
      refine iteF ⟨_, rfl, _, rfl, p, 2 + 2 * e, bn 1 (2 + 2 * e), bn 1 (2 + 2 * e + p - 1), X, Y, ?_, by omega, by omega, by omega, o1.1, o2.1, o1.2, o2.2, k1, k2, k3, k4, k5, fun H' _ => q H'⟩
      show [V.int (p : Int), V.int (2 + 2 * (e : Int))] = _
      rw [ee]
end
end Ft

namespace Ft
open PySem L2
theorem df_mk {K : PySem.W.Frag} {h : Heap} {mg : Str → Option Value} {x : Str} {st : Stmt} {ps : List Str} {f : Addr} {oc kV doc pm cdv ct : Value} {od an : Option Addr} {osl : Array (Option Value)} (X : K.In h) (G : h.Ns mainGlobals mg)
    (a : PySem.W.nsIn K mainGlobals x = some (some (.ref f))) (l : K.lookup f = some ⟨oc, od, .func (PySem.W.fnOf x x (defArgs st) (defBody st) (defScope st) .none kV doc pm an cdv ct), osl⟩) (c : PySem.W.codeIn K cdv x = true) (k : PySem.W.keepIn K (.ref f) = true)
    (hb : ∀ (kV doc pm : Value) (an : Option Addr) (cdv ct : Value) (us : List Value), us.length = ps.length → bindArgs (PySem.W.fnOf x x (defArgs st) (defBody st) (defScope st) .none kV doc pm an cdv ct) ⟨us, []⟩ = pure (ps.zip us)) : Df K mg x st ps :=
  have F := fun_mk (st := st) l c k
  ⟨f, _, F, PySem.W.mg_of X G a, F.binds hb⟩
theorem b1 {x : Str} {st : Stmt} {p : Str} (h : ∀ (kV doc pm : Value) (an : Option Addr) (cdv ct u : Value), bindArgs (PySem.W.fnOf x x (defArgs st) (defBody st) (defScope st) .none kV doc pm an cdv ct) ⟨[u], []⟩ = pure [(p, u)]) :
    ∀ (kV doc pm : Value) (an : Option Addr) (cdv ct : Value) (us : List Value), us.length = [p].length → bindArgs (PySem.W.fnOf x x (defArgs st) (defBody st) (defScope st) .none kV doc pm an cdv ct) ⟨us, []⟩ = pure ([p].zip us) :=
  fun kV doc pm an cdv ct us hl => match us, hl with | [u], _ => h kV doc pm an cdv ct u
theorem b2 {x : Str} {st : Stmt} {p p' : Str} (h : ∀ (kV doc pm : Value) (an : Option Addr) (cdv ct u v : Value), bindArgs (PySem.W.fnOf x x (defArgs st) (defBody st) (defScope st) .none kV doc pm an cdv ct) ⟨[u, v], []⟩ = pure [(p, u), (p', v)]) :
    ∀ (kV doc pm : Value) (an : Option Addr) (cdv ct : Value) (us : List Value), us.length = [p, p'].length → bindArgs (PySem.W.fnOf x x (defArgs st) (defBody st) (defScope st) .none kV doc pm an cdv ct) ⟨us, []⟩ = pure ([p, p'].zip us) :=
  fun kV doc pm an cdv ct us hl => match us, hl with | [u, v], _ => h kV doc pm an cdv ct u v
theorem b3 {x : Str} {st : Stmt} {p p' p'' : Str} (h : ∀ (kV doc pm : Value) (an : Option Addr) (cdv ct u v z : Value), bindArgs (PySem.W.fnOf x x (defArgs st) (defBody st) (defScope st) .none kV doc pm an cdv ct) ⟨[u, v, z], []⟩ = pure [(p, u), (p', v), (p'', z)]) :
    ∀ (kV doc pm : Value) (an : Option Addr) (cdv ct : Value) (us : List Value), us.length = [p, p', p''].length → bindArgs (PySem.W.fnOf x x (defArgs st) (defBody st) (defScope st) .none kV doc pm an cdv ct) ⟨us, []⟩ = pure ([p, p', p''].zip us) :=
  fun kV doc pm an cdv ct us hl => match us, hl with | [u, v, z], _ => h kV doc pm an cdv ct u v z
/-- the defs of the text, as the top has left them -/
structure Dfs (K : PySem.W.Frag) (mg : Str → Option Value) : Prop where
  is_integer : Df K mg "is_integer" s_is_integer ["thing"]
  is_between : Df K mg "is_between" s_is_between ["thing", "least", "most"]
  check_integer : Df K mg "check_integer" s_check_integer ["thing"]
  check_between : Df K mg "check_between" s_check_between ["thing", "least", "most"]
  lowest_terms : Df K mg "lowest_terms" s_lowest_terms ["top", "bottom"]
  number_sum : Df K mg "number_sum" s_number_sum ["one", "other"]
  number_product : Df K mg "number_product" s_number_product ["one", "other"]
  raised : Df K mg "raised" s_raised ["base", "exponent"]
  is_sign : Df K mg "is_sign" s_is_sign ["thing"]
  check_sign : Df K mg "check_sign" s_check_sign ["sign"]
  sign_at : Df K mg "sign_at" s_sign_at ["sign", "n"]
  value_at : Df K mg "value_at" s_value_at ["sign", "n"]
  value_at_two : Df K mg "value_at_two" s_value_at_two ["sign"]
  value_at_odd : Df K mg "value_at_odd" s_value_at_odd ["top", "bottom"]
  any_sign_of : Df K mg "any_sign_of" s_any_sign_of ["m"]
  without_squares : Df K mg "without_squares" s_without_squares ["m"]
  bernoulli : Df K mg "bernoulli" s_bernoulli ["k", "sign"]
  plain_numbers : Df K mg "plain_numbers" s_plain_numbers ["k"]
  power_sum : Df K mg "power_sum" s_power_sum ["sign", "e"]
  deck : Df K mg "_law_deck" s__law_deck ["_law_script"]
  draw : Df K mg "_law_draw" s__law_draw ["_law_deck_here", "_law_many"]
  pick : Df K mg "_law_pick" s__law_pick ["_law_deck_here", "_law_some"]
  lawSign : Df K mg "_law_is_sign" s__law_is_sign ["_law_number"]
  sgn : Df K mg "_law_sign" s__law_sign ["_law_deck_here"]
  prime : Df K mg "_law_at_prime" s__law_at_prime ["_law_sign_here", "_law_p"]
  vals : Df K mg "_law_values" s__law_values ["_law_sign_here"]
  power : Df K mg "_law_power" s__law_power ["_law_x", "_law_k"]
  isNum : Df K mg "_law_is_number" s__law_is_number ["_law_thing"]
  en : Df K mg "_law_end" s__law_end ["_law_numbers", "_law_k", "_law_end_here"]
  eq_ : Df K mg "_law_is_equal" s__law_is_equal ["_law_number", "_law_whole"]
  kummer : Df K mg "_law_is_kummer" s__law_is_kummer ["_law_p", "_law_k"]
  law : Df K mg "law" s_law ["_law_script"]
theorem law_all {P : Program} {w : World} {K : PySem.W.Frag} {mg : Str → Option Value} {base : Heap} {f : Addr} {fd : FuncData} {bn : Int → Nat → Fq} (M : Mat7 bn) (D : Dfs K mg) (B : Bi mg) (F : Fun K "law" "law" s_law f fd) : FnG P w K mg base 7 f fd ["_law_script"] (sp_law K) := by
  have c_int : Cal P w K mg base _ "is_integer" _ := ok_is_integer D.is_integer B
  have c_btw : Cal P w K mg base _ "is_between" _ := ok_is_between D.is_between c_int
  have c_chk : Cal P w K mg base _ "check_integer" _ := ok_check_integer D.check_integer c_int
  have c_chb : Cal P w K mg base _ "check_between" _ := ok_check_between D.check_between c_btw
  have c_wo : Cal P w K mg base _ "without_squares" _ := ok_without_squares D.without_squares B
  have c_any : Cal P w K mg base _ "any_sign_of" _ := ok_any_sign_of D.any_sign_of c_wo
  have c_is : Cal P w K mg base _ "is_sign" _ := ok_is_sign D.is_sign c_any c_btw
  have c_cs : Cal P w K mg base _ "check_sign" _ := ok_check_sign D.check_sign c_is
  have c_two : Cal P w K mg base _ "value_at_two" _ := ok_value_at_two D.value_at_two
  have c_odd : Cal P w K mg base _ "value_at_odd" _ := ok_value_at_odd D.value_at_odd
  have c_va : Cal P w K mg base _ "value_at" _ := ok_value_at D.value_at B c_two c_odd
  have c_sa : Cal P w K mg base _ "sign_at" _ := ok_sign_at D.sign_at c_cs c_chk c_va
  have c_low : Cal P w K mg base _ "lowest_terms" _ := ok_lowest_terms D.lowest_terms B
  have c_ns : Cal P w K mg base _ "number_sum" _ := ok_number_sum D.number_sum c_low
  have c_np : Cal P w K mg base _ "number_product" _ := ok_number_product D.number_product c_low
  have c_ra : Cal P w K mg base _ "raised" _ := ok_raised D.raised
  have c_psu : Cal P w K mg base _ "power_sum" _ := ok_power_sum D.power_sum B c_va c_ra
  have c_pla : Cal P w K mg base _ "plain_numbers" _ := ok_plain_numbers D.plain_numbers B c_ns c_np
  have c_be : Cal P w K mg base 5 "bernoulli" sp_bern := by
    obtain ⟨f, fd, F, m, b⟩ := D.bernoulli.ex
    exact ⟨f, fd, _, fn_bernoulli F B c_chb c_cs c_pla c_ra c_psu c_ns c_np, m, F.kp, b⟩
  have k_be : CalK P w K mg base 5 "bernoulli" ["sign", "k"] swapV sp_bern := by
    obtain ⟨f, fd, F, m, b⟩ := D.bernoulli.ex
    exact ⟨f, fd, _, _, fn_bernoulli F B c_chb c_cs c_pla c_ra c_psu c_ns c_np, m, F.kp, kb_bernoulli F⟩
  have c_draw : Cal P w K mg base _ "_law_draw" _ := ok_draw D.draw B
  have c_pick : Cal P w K mg base _ "_law_pick" _ := ok_pick D.pick B c_draw
  have c_deck : Cal P w K mg base _ "_law_deck" _ := ok_deck D.deck B
  have c_ls : Cal P w K mg base _ "_law_is_sign" _ := ok_lawSign D.lawSign B
  have c_sgn : Cal P w K mg base _ "_law_sign" _ := ok_sign D.sgn B c_draw c_pick c_ls
  have c_pr : Cal P w K mg base _ "_law_at_prime" _ := ok_prime D.prime B
  have c_vals : Cal P w K mg base _ "_law_values" _ := ok_vals D.vals B c_pr
  have c_pow : Cal P w K mg base _ "_law_power" _ := ok_power D.power B
  have c_num : Cal P w K mg base _ "_law_is_number" _ := ok_isNum D.isNum B
  have c_end : Cal P w K mg base _ "_law_end" _ := ok_end D.en B c_pow
  have c_eq : Cal P w K mg base _ "_law_is_equal" _ := ok_equal D.eq_
  have c_ku : Cal P w K mg base _ "_law_is_kummer" _ := ok_kummer D.kummer B c_be k_be c_num
  exact ok_law F M B c_deck c_draw c_sgn c_vals c_sa c_be k_be c_num c_pow c_eq c_end c_pick c_ku
theorem walk {l : PySem.W.OpenLaw} {q : Program} {loose : List Str} {XP : (Str → Option Value) → Heap → Prop} {YP : World → Heap → Prop} {d : DefRec} {K : Params → PySem.W.Frag} (hn : l.most = some 63) (hdf : d.params.defaults = [])
    (hY : ∀ (w : World) (h : Heap), YP w h → (K w.params).In h)
    (F : ∀ (w : World) (mg : Str → Option Value) (fa : Addr) (h : Heap), (K w.params).In h → h.Ns mainGlobals mg → mg d.name = some (.ref fa) →
      ∃ fd : FuncData, (∀ (s : Shared) (u : Value), BindsTo s fd ⟨[u], []⟩ [("_law_script", u)]) ∧ ∀ base : Heap, (K w.params).In base → base.Ns mainGlobals mg → FnG l.prog w (K w.params) mg base 7 fa fd ["_law_script"] (sp_law (K w.params))) :
    PySem.W.WalkO q loose XP YP l.row.toRowW d [] (fun f vs => PySem.call f vs) :=
  walk_g (n := 63) (k := 7) (x := "_law_script") (sp := sp_law) hn (by decide) hdf ⟨rfl, by decide, by decide⟩ hY F (fun _ _ a ns hl hS => ⟨a, ns, rfl, hS, hl, fun _ => rfl⟩)
theorem law_at {l : PySem.W.OpenLaw} {w : World} {K : PySem.W.Frag} {mg : Str → Option Value} {h : Heap} {fa f : Addr} {oc kV doc pm cdv ct : Value} {od an : Option Addr} {osl : Array (Option Value)} {bn : Int → Nat → Fq} (M : Mat7 bn) (X : K.In h) (G : h.Ns mainGlobals mg) (hfa : mg "law" = some (.ref fa))
    (a : PySem.W.nsIn K mainGlobals "law" = some (some (.ref f))) (lk : K.lookup f = some ⟨oc, od, .func (PySem.W.fnOf "law" "law" (defArgs s_law) (defBody s_law) (defScope s_law) .none kV doc pm an cdv ct), osl⟩) (c : PySem.W.codeIn K cdv "law" = true) (k : PySem.W.keepIn K (.ref f) = true)
    (D : Dfs K mg) (B : Bi mg) :
    ∃ fd : FuncData, (∀ (s : Shared) (u : Value), BindsTo s fd ⟨[u], []⟩ [("_law_script", u)]) ∧ ∀ base : Heap, K.In base → base.Ns mainGlobals mg → FnG l.prog w K mg base 7 fa fd ["_law_script"] (sp_law K) := by
  have e := hfa.symm.trans (PySem.W.mg_of X G a)
  cases e
  exact ⟨_, fun s u => .of_eq rfl, fun base _ _ => law_all M D B (fun_mk (st := s_law) lk c k)⟩
end Ft

set_option exponentiation.threshold 9000
namespace Ft
open PySem L2
structure Row where
  s : Int
  m : Nat
  v : List Int
  lw : List Int
  ps : List Int
  bs : List Fq
def psumZ : List Int → Nat → Nat → Int
  | [], _, _ => 0
  | v :: vs, a, e => v * ((a ^ e : Nat) : Int) + psumZ vs (a + 1) e
def sameF (o : Option Fq) (x : Fq) : Bool := match o with
  | none => false
  | some y => decide (y.1 = x.1) && decide (y.2 = x.2)
def goodB (x : Fq) : Bool := smallB x && Nat.beq (Nat.gcd x.1.natAbs x.2.natAbs) 1
def repB (x : Fq) : Bool := (PyData.tuple [.int x.1, .int x.2]).showable && Nat.ble (PyData.tuple [.int x.1, .int x.2]).shown.length sizeLine
def plainL : List Fq := [(1, 1), (-1, 2), (1, 6), (0, 1), (-1, 30), (0, 1), (1, 42), (0, 1), (-1, 30), (0, 1), (5, 66), (0, 1), (-691, 2730), (0, 1), (7, 6), (0, 1), (-3617, 510), (0, 1), (43867, 798), (0, 1), (-174611, 330), (0, 1), (854513, 138), (0, 1), (-236364091, 2730)]
theorem plainL_ok : (List.range 25).all (fun k => decide (plainTo k = some (plainL.take (k + 1)))) = true := by decide +kernel
theorem plainL_at {k : Nat} (h : k ≤ 24) : plainTo k = some (plainL.take (k + 1)) := of_decide_eq_true (List.all_eq_true.mp plainL_ok k (List.mem_range.mpr (by omega)))
def endsC (m k : Nat) (v : List Int) (l : List Fq) : Nat → Nat → Int → Bool
  | 0, _, _ => true
  | f + 1, t, tot => match endGo k (t * m + m) 0 l (0, 1) 1 with
    | none => false
    | some R => decide (R.1 = (k : Int) * (tot + psumZ v (t * m + 1) (k - 1)) * R.2) && smallI ((k : Int) * (tot + psumZ v (t * m + 1) (k - 1))) && endsC m k v l f (t + 1) (tot + psumZ v (t * m + 1) (k - 1))
def okA (r : Row) : Bool := Nat.beq r.s.natAbs r.m && isSign r.s && (decide (r.s = 1) || Nat.ble 3 r.m) && Nat.ble r.m 65
def okV (r : Row) : Bool := decide (r.v = (List.range r.m).map fun j : Nat => valueAt r.s (1 + (j : Int)))
def okL (r : Row) : Bool := decide (lawVals r.s = r.lw) && decide (r.lw = (List.range r.m).map fun n : Nat => valueAt r.s (n : Int)) && (PyData.list (r.lw.map PyData.int)).showable && Nat.ble (PyData.list (r.lw.map PyData.int)).shown.length sizeLine
def okP (r : Row) : Bool := (List.range 25).all fun e => decide (psumZ r.v 1 e = r.ps.getD e 0)
def okB (r : Row) : Bool := (List.range 25).all fun k => sameF (bernGo r.m k (fun e => r.ps.getD e 0) 0 (plainL.take (k + 1)) (0, 1)) (r.bs.getD k (0, 1)) && goodB (r.bs.getD k (0, 1)) && repB (r.bs.getD k (0, 1))
def okE (r : Row) : Bool := (List.range 24).all fun k0 => endsC r.m (k0 + 1) r.v ((List.range (k0 + 1)).map fun i => r.bs.getD i (0, 1)) (max 1 (min 5 (240 / r.m))) 0 0
def okRow (r : Row) : Bool := okA r && okV r && okL r && okP r && okB r && okE r
/-! ### what a checked row tells -/
theorem sameF_eq {o : Option Fq} {x : Fq} (h : sameF o x = true) : o = some x := by
  unfold sameF at h
  split at h
  · cases h
  · rename_i y
    simp only [Bool.and_eq_true, decide_eq_true_eq] at h
    exact congrArg some (Prod.ext h.1 h.2)
theorem psum_add (s : Int) (e : Nat) : ∀ (vs : List Int) (n : Nat), (∀ (j : Nat) (x : Int), vs[j]? = some x → x = valueAt s (1 + ((n + j : Nat) : Int))) → psumTo s e (n + vs.length) = psumTo s e n + psumZ vs (n + 1) e
  | [], n, _ => by
    show psumTo s e n = psumTo s e n + 0
    omega
  | v :: vs, n, h => by
    have h0 := h 0 v rfl
    have ih := psum_add s e vs (n + 1) fun j x hx => by
      have := h (j + 1) x hx
      rw [show n + (j + 1) = n + 1 + j by omega] at this
      exact this
    have e1 : psumTo s e (n + 1) = psumTo s e n + valueAt s (1 + (n : Int)) * (((1 + n) ^ e : Nat) : Int) := rfl
    rw [List.length_cons, show n + (vs.length + 1) = n + 1 + vs.length by omega, ih, e1]
    show psumTo s e n + valueAt s (1 + (n : Int)) * _ + psumZ vs (n + 1 + 1) e = psumTo s e n + (v * (((n + 1) ^ e : Nat) : Int) + psumZ vs (n + 1 + 1) e)
    rw [h0, Nat.add_comm 1 n]
    show psumTo s e n + valueAt s (1 + (n : Int)) * _ + _ = psumTo s e n + (valueAt s (1 + ((n + 0 : Nat) : Int)) * _ + _)
    rw [Int.add_assoc]
    rfl
theorem value_per (s m n : Int) : valueAt s (m + (s.natAbs : Int) * n) = valueAt s m := by
  unfold valueAt
  rw [Int.add_mul_emod_self_left]
theorem bernGo_congr {m k : Nat} {P P' : Nat → Int} (h : ∀ e, e ≤ k → P e = P' e) : ∀ (l : List Fq) (i : Nat) (t : Fq), bernGo m k P i l t = bernGo m k P' i l t
  | [], i, t => rfl
  | p :: ps, i, t => by
    have e := h (k - i) (Nat.sub_le _ _)
    unfold bernGo
    rw [e, bernGo_congr h ps]
structure RowOk (r : Row) : Prop where
  abs : r.s.natAbs = r.m
  sgn : isSign r.s = true
  big : r.s = 1 ∨ 3 ≤ r.m
  v : r.v = (List.range r.m).map fun j : Nat => valueAt r.s (1 + (j : Int))
  lw : lawVals r.s = r.lw ∧ r.lw = ((List.range r.m).map fun n : Nat => valueAt r.s (n : Int)) ∧ RepL r.lw
  ps : ∀ e, e ≤ 24 → psumZ r.v 1 e = r.ps.getD e 0
  bs : ∀ k, k ≤ 24 → bernGo r.m k (fun e => r.ps.getD e 0) 0 (plainL.take (k + 1)) (0, 1) = some (r.bs.getD k (0, 1)) ∧ Good (r.bs.getD k (0, 1)) ∧ RepT (r.bs.getD k (0, 1))
  en : ∀ k, 1 ≤ k → k ≤ 24 → endsC r.m k r.v ((List.range k).map fun i => r.bs.getD i (0, 1)) (max 1 (min 5 (240 / r.m))) 0 0 = true
theorem rowOk {r : Row} (h : okRow r = true) : RowOk r := by
  unfold okRow okA okV okL okP okB okE at h
  simp only [Bool.and_eq_true, Bool.or_eq_true, decide_eq_true_eq, List.all_eq_true, List.mem_range, Nat.ble_eq, Nat.beq_eq] at h
  obtain ⟨⟨⟨⟨⟨a, v⟩, lw⟩, ps⟩, bs⟩, en⟩ := h
  refine ⟨a.1.1.1, a.1.1.2, a.1.2, v, ⟨lw.1.1.1, lw.1.1.2, lw.1.2, lw.2⟩, fun e he => ps e (by omega), fun k hk => ?_, fun k h1 h2 => ?_⟩
  · have b := bs k (by omega)
    refine ⟨sameF_eq b.1.1, ?_, ?_⟩
    · have g := b.1.2
      unfold goodB at g
      simp only [Bool.and_eq_true, Nat.beq_eq] at g
      exact ⟨smallB_of g.1, g.2⟩
    · have g := b.2
      unfold repB at g
      simp only [Bool.and_eq_true, Nat.ble_eq] at g
      exact g
  · have := en (k - 1) (by omega)
    rw [show k - 1 + 1 = k by omega] at this
    exact this
theorem RowOk.turn {r : Row} (R : RowOk r) (e t : Nat) : psumTo r.s e (t * r.m + r.m) = psumTo r.s e (t * r.m) + psumZ r.v (t * r.m + 1) e := by
  have hl : r.v.length = r.m := by rw [R.v, List.length_map, List.length_range]
  have := psum_add r.s e r.v (t * r.m) fun j x hx => by
    rw [R.v, List.getElem?_map] at hx
    have hj : j < r.m := by
      rcases Nat.lt_or_ge j r.m with h | h
      · exact h
      · rw [List.getElem?_eq_none (by rw [List.length_range]; exact h)] at hx
        cases hx
    rw [List.getElem?_range hj] at hx
    have hx' : x = valueAt r.s (1 + (j : Int)) := (Option.some.inj hx).symm
    have p := value_per r.s (1 + (j : Int)) (t : Int)
    rw [R.abs] at p
    rw [hx', ← p]
    congr 1
    rw [Int.natCast_add, Int.natCast_mul, Int.mul_comm]
    omega
  rw [hl] at this
  exact this
theorem RowOk.psum {r : Row} (R : RowOk r) {e : Nat} (he : e ≤ 24) : psum r.s e = r.ps.getD e 0 := by
  have h := R.turn e 0
  rw [Nat.zero_mul, Nat.zero_add] at h
  unfold Ft.psum
  rw [R.abs, h, ← R.ps e he]
  show (0 : Int) + psumZ r.v 1 e = psumZ r.v 1 e
  omega
theorem endsC_ok {r : Row} (R : RowOk r) {k : Nat} {l : List Fq} : ∀ (f t : Nat), endsC r.m k r.v l f t (psumTo r.s (k - 1) (t * r.m)) = true → ∀ t', t ≤ t' → t' < t + f →
    ∃ Z, endGo k (t' * r.m + r.m) 0 l (0, 1) 1 = some Z ∧ Z.1 = (k : Int) * psumTo r.s (k - 1) (t' * r.m + r.m) * Z.2 ∧ ((k : Int) * psumTo r.s (k - 1) (t' * r.m + r.m)).natAbs < 2 ^ 4000
  | 0, t, _, t', h1, h2 => by omega
  | f + 1, t, h, t', h1, h2 => by
    unfold endsC at h
    split at h
    · cases h
    · rename_i Z hZ
      simp only [Bool.and_eq_true, decide_eq_true_eq] at h
      rw [← R.turn (k - 1) t] at h
      rcases Nat.lt_or_ge t t' with c | c
      · refine endsC_ok R f (t + 1) ?_ t' c (by omega)
        rw [Nat.succ_mul]
        exact h.2
      · obtain rfl : t = t' := by omega
        exact ⟨Z, hZ, h.1.1, smallI_of h.1.2⟩
theorem RowOk.bern {r : Row} (R : RowOk r) {k : Nat} (hk : k ≤ 24) : IsBern k r.s (r.bs.getD k (0, 1)) ∧ Good (r.bs.getD k (0, 1)) ∧ RepT (r.bs.getD k (0, 1)) := by
  have b := R.bs k hk
  refine ⟨⟨plainL.take (k + 1), plainL_at hk, ?_⟩, b.2⟩
  rw [R.abs, bernGo_congr (P' := fun e => r.ps.getD e 0) (fun e he => R.psum (by omega))]
  exact b.1
end Ft

namespace Ft
def row0 : Row := ⟨.negSucc 58, 59, [.ofNat 1, .negSucc 0, .ofNat 1, .ofNat 1, .ofNat 1, .negSucc 0, .ofNat 1, .negSucc 0, .ofNat 1, .negSucc 0, .negSucc 0, .ofNat 1, .negSucc 0, .negSucc 0, .ofNat 1, .ofNat 1, .ofNat 1, .negSucc 0, .ofNat 1, .ofNat 1, .ofNat 1, .ofNat 1, .negSucc 0, .negSucc 0, .ofNat 1, .ofNat 1, .ofNat 1, .ofNat 1, .ofNat 1, .negSucc 0, .negSucc 0, .negSucc 0, .negSucc 0, .negSucc 0, .ofNat 1, .ofNat 1, .negSucc 0, .negSucc 0, .negSucc 0, .negSucc 0, .ofNat 1, .negSucc 0, .negSucc 0, .negSucc 0, .ofNat 1, .ofNat 1, .negSucc 0, .ofNat 1, .ofNat 1, .negSucc 0, .ofNat 1, .negSucc 0, .ofNat 1, .negSucc 0, .negSucc 0, .negSucc 0, .ofNat 1, .negSucc 0, .ofNat 0], [.ofNat 0, .ofNat 1, .negSucc 0, .ofNat 1, .ofNat 1, .ofNat 1, .negSucc 0, .ofNat 1, .negSucc 0, .ofNat 1, .negSucc 0, .negSucc 0, .ofNat 1, .negSucc 0, .negSucc 0, .ofNat 1, .ofNat 1, .ofNat 1, .negSucc 0, .ofNat 1, .ofNat 1, .ofNat 1, .ofNat 1, .negSucc 0, .negSucc 0, .ofNat 1, .ofNat 1, .ofNat 1, .ofNat 1, .ofNat 1, .negSucc 0, .negSucc 0, .negSucc 0, .negSucc 0, .negSucc 0, .ofNat 1, .ofNat 1, .negSucc 0, .negSucc 0, .negSucc 0, .negSucc 0, .ofNat 1, .negSucc 0, .negSucc 0, .negSucc 0, .ofNat 1, .ofNat 1, .negSucc 0, .ofNat 1, .ofNat 1, .negSucc 0, .ofNat 1, .negSucc 0, .ofNat 1, .negSucc 0, .negSucc 0, .negSucc 0, .ofNat 1, .negSucc 0], [.ofNat 0, .negSucc 176, .negSucc 10442, .negSucc 544982, .negSucc 27955910, .negSucc 1450244366, .negSucc 76677737942, .negSucc 4130171652062, .negSucc 225876360938870, .negSucc 12494148545452046, .negSucc 696678714779254742, .negSucc 39061067509234039742, .negSucc 2198124919243379720630, .negSucc 123999089478846050946926, .negSucc 7006274517633709065694742, .negSucc 396306920845437091370101022, .negSucc 22434323854111285116127699190, .negSucc 1270721938787539601740392269006, .negSucc 72011502374721949088627582777942, .negSucc 4082714558459009848481935383819902, .negSucc 231573632321484369841890172432042550, .negSucc 13140994657814183328391198754783818286, .negSucc 746066208036823928521011242740724744342, .negSucc 42378897194388606400220118162188216380382, .negSucc 2408566865281222577915128678449853024398710], [(.ofNat 0, .ofNat 1), (.negSucc 2, .ofNat 1), (.ofNat 0, .ofNat 1), (.ofNat 1206, .ofNat 1), (.ofNat 0, .ofNat 1), (.negSucc 2221949, .ofNat 1), (.ofNat 0, .ofNat 1), (.ofNat 8386185654, .ofNat 1), (.ofNat 0, .ofNat 1), (.negSucc 53529255858869, .ofNat 1), (.ofNat 0, .ofNat 1), (.ofNat 519928637186442462, .ofNat 1), (.ofNat 0, .ofNat 1), (.negSucc 7154337609977779895309, .ofNat 1), (.ofNat 0, .ofNat 1), (.ofNat 132486774539565585198647430, .ofNat 1), (.ofNat 0, .ofNat 1), (.negSucc 3177573689173105431911096564069, .ofNat 1), (.ofNat 0, .ofNat 1), (.ofNat 95822722427917065613668964711987758, .ofNat 1), (.ofNat 0, .ofNat 1), (.negSucc 3548646208364806151795511772004255989949, .ofNat 1), (.ofNat 0, .ofNat 1), (.ofNat 158327976765494681103693781326272803478450646, .ofNat 1), (.ofNat 0, .ofNat 1)]⟩
theorem row0_ok : okRow row0 = true := by decide +kernel
def row4 : Row := ⟨.negSucc 50, 51, [.ofNat 1, .negSucc 0, .ofNat 0, .ofNat 1, .ofNat 1, .ofNat 0, .negSucc 0, .negSucc 0, .ofNat 0, .negSucc 0, .ofNat 1, .ofNat 0, .ofNat 1, .ofNat 1, .ofNat 0, .ofNat 1, .ofNat 0, .ofNat 0, .ofNat 1, .ofNat 1, .ofNat 0, .negSucc 0, .ofNat 1, .ofNat 0, .ofNat 1, .negSucc 0, .ofNat 0, .negSucc 0, .ofNat 1, .ofNat 0, .negSucc 0, .negSucc 0, .ofNat 0, .ofNat 0, .negSucc 0, .ofNat 0, .negSucc 0, .negSucc 0, .ofNat 0, .negSucc 0, .ofNat 1, .ofNat 0, .ofNat 1, .ofNat 1, .ofNat 0, .negSucc 0, .negSucc 0, .ofNat 0, .ofNat 1, .negSucc 0, .ofNat 0], [.ofNat 0, .ofNat 1, .negSucc 0, .ofNat 0, .ofNat 1, .ofNat 1, .ofNat 0, .negSucc 0, .negSucc 0, .ofNat 0, .negSucc 0, .ofNat 1, .ofNat 0, .ofNat 1, .ofNat 1, .ofNat 0, .ofNat 1, .ofNat 0, .ofNat 0, .ofNat 1, .ofNat 1, .ofNat 0, .negSucc 0, .ofNat 1, .ofNat 0, .ofNat 1, .negSucc 0, .ofNat 0, .negSucc 0, .ofNat 1, .ofNat 0, .negSucc 0, .negSucc 0, .ofNat 0, .ofNat 0, .negSucc 0, .ofNat 0, .negSucc 0, .negSucc 0, .ofNat 0, .negSucc 0, .ofNat 1, .ofNat 0, .ofNat 1, .ofNat 1, .ofNat 0, .negSucc 0, .negSucc 0, .ofNat 0, .ofNat 1, .negSucc 0], [.ofNat 0, .negSucc 101, .negSucc 5201, .negSucc 224297, .negSucc 9347993, .negSucc 393119321, .negSucc 16958213081, .negSucc 753659868377, .negSucc 34446366165113, .negSucc 1611853500635801, .negSucc 76817502952817561, .negSucc 3710770669495604057, .negSucc 180980172572265378233, .negSucc 8885090627755569389081, .negSucc 438143613470922967143641, .negSucc 21669041703179240401477337, .negSucc 1073716217277431825729967353, .negSucc 53269315671859636467664203161, .negSucc 2644970263769533330241068151321, .negSucc 131405006330859143506308148720217, .negSucc 6531164571112256153348398206012473, .negSucc 324734776867564744351026118755702041, .negSucc 16151696849715494265516401124487840601, .negSucc 803641135617758577255514812967061044697, .negSucc 40000972210551996104233901860537276233593], [(.ofNat 0, .ofNat 1), (.negSucc 1, .ofNat 1), (.ofNat 0, .ofNat 1), (.ofNat 804, .ofNat 1), (.ofNat 0, .ofNat 1), (.negSucc 1148499, .ofNat 1), (.ofNat 0, .ofNat 1), (.ofNat 3251119396, .ofNat 1), (.ofNat 0, .ofNat 1), (.negSucc 15512204369699, .ofNat 1), (.ofNat 0, .ofNat 1), (.ofNat 112585383984517268, .ofNat 1), (.ofNat 0, .ofNat 1), (.negSucc 1157567203517625566899, .ofNat 1), (.ofNat 0, .ofNat 1), (.ofNat 16017173555389493198825220, .ofNat 1), (.ofNat 0, .ofNat 1), (.negSucc 287041929666053750948394808899, .ofNat 1), (.ofNat 0, .ofNat 1), (.ofNat 6467769701366570843236905700065652, .ofNat 1), (.ofNat 0, .ofNat 1), (.negSucc 178971993135071046189576372951314092499, .ofNat 1), (.ofNat 0, .ofNat 1), (.ofNat 5966454901902440496802968695006901458644964, .ofNat 1), (.ofNat 0, .ofNat 1)]⟩
theorem row4_ok : okRow row4 = true := by decide +kernel
def row8 : Row := ⟨.negSucc 38, 39, [.ofNat 1, .ofNat 1, .ofNat 0, .ofNat 1, .ofNat 1, .ofNat 0, .negSucc 0, .ofNat 1, .ofNat 0, .ofNat 1, .ofNat 1, .ofNat 0, .ofNat 0, .negSucc 0, .ofNat 0, .ofNat 1, .negSucc 0, .ofNat 0, .negSucc 0, .ofNat 1, .ofNat 0, .ofNat 1, .negSucc 0, .ofNat 0, .ofNat 1, .ofNat 0, .ofNat 0, .negSucc 0, .negSucc 0, .ofNat 0, .negSucc 0, .ofNat 1, .ofNat 0, .negSucc 0, .negSucc 0, .ofNat 0, .negSucc 0, .negSucc 0, .ofNat 0], [.ofNat 0, .ofNat 1, .ofNat 1, .ofNat 0, .ofNat 1, .ofNat 1, .ofNat 0, .negSucc 0, .ofNat 1, .ofNat 0, .ofNat 1, .ofNat 1, .ofNat 0, .ofNat 0, .negSucc 0, .ofNat 0, .ofNat 1, .negSucc 0, .ofNat 0, .negSucc 0, .ofNat 1, .ofNat 0, .ofNat 1, .negSucc 0, .ofNat 0, .ofNat 1, .ofNat 0, .ofNat 0, .negSucc 0, .negSucc 0, .ofNat 0, .negSucc 0, .ofNat 1, .ofNat 0, .negSucc 0, .negSucc 0, .ofNat 0, .negSucc 0, .negSucc 0], [.ofNat 0, .negSucc 155, .negSucc 6083, .negSucc 216683, .negSucc 7647587, .negSucc 270753755, .negSucc 9635723603, .negSucc 344743072283, .negSucc 12395430244547, .negSucc 447708273792155, .negSucc 16236912928575923, .negSucc 591017705347225883, .negSucc 21583031373111209507, .negSucc 790462476936364377755, .negSucc 29024589603105111053843, .negSucc 1068177276115068172979483, .negSucc 39391792767381099388590467, .negSucc 1455328098499490405574758555, .negSucc 53855433113442489433621301363, .negSucc 1995921960283820547830011725083, .negSucc 74070385167156994710825699955427, .negSucc 2752214764936490982673526340902555, .negSucc 102379522654606600624158265927862483, .negSucc 3812404102233638610398097606961254683, .negSucc 142104041417945112291091230920753912387], [(.ofNat 0, .ofNat 1), (.negSucc 3, .ofNat 1), (.ofNat 0, .ofNat 1), (.ofNat 528, .ofNat 1), (.ofNat 0, .ofNat 1), (.negSucc 365599, .ofNat 1), (.ofNat 0, .ofNat 1), (.ofNat 577474352, .ofNat 1), (.ofNat 0, .ofNat 1), (.negSucc 1592475082559, .ofNat 1), (.ofNat 0, .ofNat 1), (.ofNat 6739034098707856, .ofNat 1), (.ofNat 0, .ofNat 1), (.negSucc 40488587798947082079, .ofNat 1), (.ofNat 0, .ofNat 1), (.ofNat 327553042024706013081840, .ofNat 1), (.ofNat 0, .ofNat 1), (.negSucc 3432496302522760854463007359, .ofNat 1), (.ofNat 0, .ofNat 1), (.ofNat 45227561871089936656189994452304, .ofNat 1), (.ofNat 0, .ofNat 1), (.negSucc 731848728925604939253265852497213599, .ofNat 1), (.ofNat 0, .ofNat 1), (.ofNat 14267279252653600075143582468637352387248, .ofNat 1), (.ofNat 0, .ofNat 1)]⟩
theorem row8_ok : okRow row8 = true := by decide +kernel
def row12 : Row := ⟨.negSucc 22, 23, [.ofNat 1, .ofNat 1, .ofNat 1, .ofNat 1, .negSucc 0, .ofNat 1, .negSucc 0, .ofNat 1, .ofNat 1, .negSucc 0, .negSucc 0, .ofNat 1, .ofNat 1, .negSucc 0, .negSucc 0, .ofNat 1, .negSucc 0, .ofNat 1, .negSucc 0, .negSucc 0, .negSucc 0, .negSucc 0, .ofNat 0], [.ofNat 0, .ofNat 1, .ofNat 1, .ofNat 1, .ofNat 1, .negSucc 0, .ofNat 1, .negSucc 0, .ofNat 1, .ofNat 1, .negSucc 0, .negSucc 0, .ofNat 1, .ofNat 1, .negSucc 0, .negSucc 0, .ofNat 1, .negSucc 0, .ofNat 1, .negSucc 0, .negSucc 0, .negSucc 0, .negSucc 0], [.ofNat 0, .negSucc 68, .negSucc 1586, .negSucc 33188, .negSucc 687170, .negSucc 14252708, .negSucc 296707106, .negSucc 6199903988, .negSucc 129995031170, .negSucc 2733954454148, .negSucc 57654621827426, .negSucc 1218808512960788, .negSucc 25822486175986370, .negSucc 548204990224775588, .negSucc 11660191475356112546, .negSucc 248446184109485249588, .negSucc 5302456423474247232770, .negSucc 113344398248829588217028, .negSucc 2426417502149527954474466, .negSucc 52016485692415214093506388, .negSucc 1116596685681842679012610370, .negSucc 23999552807251045033906538468, .negSucc 516457418203232110257813905186, .negSucc 11126657167396261050816160707188, .negSucc 239976668395973286225766970679170], [(.ofNat 0, .ofNat 1), (.negSucc 2, .ofNat 1), (.ofNat 0, .ofNat 1), (.ofNat 144, .ofNat 1), (.ofNat 0, .ofNat 1), (.negSucc 34079, .ofNat 1), (.ofNat 0, .ofNat 1), (.ofNat 18665136, .ofNat 1), (.ofNat 0, .ofNat 1), (.negSucc 17895000383, .ofNat 1), (.ofNat 0, .ofNat 1), (.ofNat 605747775717744, .ofNat 23), (.ofNat 0, .ofNat 1), (.negSucc 55033009543875167, .ofNat 1), (.ofNat 0, .ofNat 1), (.ofNat 154845463987137924720, .ofNat 1), (.ofNat 0, .ofNat 1), (.negSucc 564356276994182071074431, .ofNat 1), (.ofNat 0, .ofNat 1), (.ofNat 2586264348464506331953743312, .ofNat 1), (.ofNat 0, .ofNat 1), (.negSucc 14555177876316656791354248310175, .ofNat 1), (.ofNat 0, .ofNat 1), (.ofNat 98687878735303869624743251888774704, .ofNat 1), (.ofNat 0, .ofNat 1)]⟩
theorem row12_ok : okRow row12 = true := by decide +kernel
def row16 : Row := ⟨.negSucc 10, 11, [.ofNat 1, .negSucc 0, .ofNat 1, .ofNat 1, .ofNat 1, .negSucc 0, .negSucc 0, .negSucc 0, .ofNat 1, .negSucc 0, .ofNat 0], [.ofNat 0, .ofNat 1, .negSucc 0, .ofNat 1, .ofNat 1, .ofNat 1, .negSucc 0, .negSucc 0, .negSucc 0, .ofNat 1, .negSucc 0], [.ofNat 0, .negSucc 10, .negSucc 120, .negSucc 1132, .negSucc 10284, .negSucc 93940, .negSucc 874620, .negSucc 8321092, .negSucc 80712444, .negSucc 794994100, .negSucc 7919026620, .negSucc 79495801252, .negSucc 802046564604, .negSucc 8116550291860, .negSucc 82271464575420, .negSucc 834479380852612, .negSucc 8464351902496764, .negSucc 85823395039119220, .negSucc 869645852963161020, .negSucc 8805252375802275172, .negSucc 89078607999858588924, .negSucc 900384384474403108180, .negSucc 9093055115054298303420, .negSucc 91755504176877505028932, .negSucc 925152183132313858521084], [(.ofNat 0, .ofNat 1), (.negSucc 0, .ofNat 1), (.ofNat 0, .ofNat 1), (.ofNat 18, .ofNat 1), (.ofNat 0, .ofNat 1), (.negSucc 12749, .ofNat 11), (.ofNat 0, .ofNat 1), (.ofNat 152082, .ofNat 1), (.ofNat 0, .ofNat 1), (.negSucc 33743249, .ofNat 1), (.ofNat 0, .ofNat 1), (.ofNat 11392546506, .ofNat 1), (.ofNat 0, .ofNat 1), (.negSucc 5449138537049, .ofNat 1), (.ofNat 0, .ofNat 1), (.ofNat 38583798266778390, .ofNat 11), (.ofNat 0, .ofNat 1), (.negSucc 2924265117969948449, .ofNat 1), (.ofNat 0, .ofNat 1), (.ofNat 3065285744885757445434, .ofNat 1), (.ofNat 0, .ofNat 1), (.negSucc 3945903957928886905334249, .ofNat 1), (.ofNat 0, .ofNat 1), (.ofNat 6119596903016438430475002738, .ofNat 1), (.ofNat 0, .ofNat 1)]⟩
theorem row16_ok : okRow row16 = true := by decide +kernel
def row20 : Row := ⟨.negSucc 2, 3, [.ofNat 1, .negSucc 0, .ofNat 0], [.ofNat 0, .ofNat 1, .negSucc 0], [.ofNat 0, .negSucc 0, .negSucc 2, .negSucc 6, .negSucc 14, .negSucc 30, .negSucc 62, .negSucc 126, .negSucc 254, .negSucc 510, .negSucc 1022, .negSucc 2046, .negSucc 4094, .negSucc 8190, .negSucc 16382, .negSucc 32766, .negSucc 65534, .negSucc 131070, .negSucc 262142, .negSucc 524286, .negSucc 1048574, .negSucc 2097150, .negSucc 4194302, .negSucc 8388606, .negSucc 16777214], [(.ofNat 0, .ofNat 1), (.negSucc 0, .ofNat 3), (.ofNat 0, .ofNat 1), (.ofNat 2, .ofNat 3), (.ofNat 0, .ofNat 1), (.negSucc 9, .ofNat 3), (.ofNat 0, .ofNat 1), (.ofNat 98, .ofNat 3), (.ofNat 0, .ofNat 1), (.negSucc 1617, .ofNat 3), (.ofNat 0, .ofNat 1), (.ofNat 40634, .ofNat 3), (.ofNat 0, .ofNat 1), (.negSucc 1445625, .ofNat 3), (.ofNat 0, .ofNat 1), (.ofNat 69214610, .ofNat 3), (.ofNat 0, .ofNat 1), (.negSucc 4291996833, .ofNat 3), (.ofNat 0, .ofNat 1), (.ofNat 334634533226, .ofNat 3), (.ofNat 0, .ofNat 1), (.negSucc 32040806644041, .ofNat 3), (.ofNat 0, .ofNat 1), (.ofNat 3696041900719682, .ofNat 3), (.ofNat 0, .ofNat 1)]⟩
theorem row20_ok : okRow row20 = true := by decide +kernel
def row24 : Row := ⟨.ofNat 12, 12, [.ofNat 1, .ofNat 0, .ofNat 0, .ofNat 0, .negSucc 0, .ofNat 0, .negSucc 0, .ofNat 0, .ofNat 0, .ofNat 0, .ofNat 1, .ofNat 0], [.ofNat 0, .ofNat 1, .ofNat 0, .ofNat 0, .ofNat 0, .negSucc 0, .ofNat 0, .negSucc 0, .ofNat 0, .ofNat 0, .ofNat 0, .ofNat 1], [.ofNat 0, .ofNat 0, .ofNat 48, .ofNat 864, .ofNat 11616, .ofNat 141120, .ofNat 1638288, .ofNat 18585504, .ofNat 208203456, .ofNat 2315640960, .ofNat 25645183728, .ofNat 283285515744, .ofNat 3124342948896, .ofNat 34424602430400, .ofNat 379065506994768, .ofNat 4172470090327584, .ofNat 45916344345111936, .ofNat 505213635045853440, .ofNat 5558285085197055408, .ofNat 61147672479742845024, .ofNat 672670107298830756576, .ofNat 7399690921556918614080, .ofNat 81398837181605387109648, .ofNat 895402862586968336252064, .ofNat 9849541034971585752906816], [(.ofNat 0, .ofNat 1), (.ofNat 0, .ofNat 1), (.ofNat 4, .ofNat 1), (.ofNat 0, .ofNat 1), (.negSucc 183, .ofNat 1), (.ofNat 0, .ofNat 1), (.ofNat 20172, .ofNat 1), (.ofNat 0, .ofNat 1), (.negSucc 4120687, .ofNat 1), (.ofNat 0, .ofNat 1), (.ofNat 1352745620, .ofNat 1), (.ofNat 0, .ofNat 1), (.negSucc 651317679911, .ofNat 1), (.ofNat 0, .ofNat 1), (.ofNat 432381408863068, .ofNat 1), (.ofNat 0, .ofNat 1), (.negSucc 378513182631468255, .ofNat 1), (.ofNat 0, .ofNat 1), (.ofNat 422479063034621671716, .ofNat 1), (.ofNat 0, .ofNat 1), (.negSucc 585587157037131902708119, .ofNat 1), (.ofNat 0, .ofNat 1), (.ofNat 986816208638177962247670764, .ofNat 1), (.ofNat 0, .ofNat 1), (.negSucc 1986909596487314453348699501903, .ofNat 1)]⟩
theorem row24_ok : okRow row24 = true := by decide +kernel
def row28 : Row := ⟨.ofNat 24, 24, [.ofNat 1, .ofNat 0, .ofNat 0, .ofNat 0, .ofNat 1, .ofNat 0, .negSucc 0, .ofNat 0, .ofNat 0, .ofNat 0, .negSucc 0, .ofNat 0, .negSucc 0, .ofNat 0, .ofNat 0, .ofNat 0, .negSucc 0, .ofNat 0, .ofNat 1, .ofNat 0, .ofNat 0, .ofNat 0, .ofNat 1, .ofNat 0], [.ofNat 0, .ofNat 1, .ofNat 0, .ofNat 0, .ofNat 0, .ofNat 1, .ofNat 0, .negSucc 0, .ofNat 0, .ofNat 0, .ofNat 0, .negSucc 0, .ofNat 0, .negSucc 0, .ofNat 0, .ofNat 0, .ofNat 0, .negSucc 0, .ofNat 0, .ofNat 1, .ofNat 0, .ofNat 0, .ofNat 0, .ofNat 1], [.ofNat 0, .ofNat 0, .ofNat 288, .ofNat 10368, .ofNat 281664, .ofNat 6946560, .ofNat 164243808, .ofNat 3805377408, .ofNat 87283327104, .ofNat 1992251635200, .ofNat 45377514944928, .ofNat 1032948719941248, .ofNat 23518867003210944, .ofNat 535847273878775040, .ofNat 12219147385423393248, .ofNat 278898571584528789888, .ofNat 6371679237953563517184, .ofNat 145694030061745979182080, .ofNat 3334097158792227451572768, .ofNat 76353295056805227266483328, .ofNat 1749661895592018016369429824, .ofNat 40116447217138763624564632320, .ofNat 920238559072114339297909627488, .ofNat 21118287409529346743035834781568, .ofNat 484809525605453639898378890772864], [(.ofNat 0, .ofNat 1), (.ofNat 0, .ofNat 1), (.ofNat 12, .ofNat 1), (.ofNat 0, .ofNat 1), (.negSucc 2087, .ofNat 1), (.ofNat 0, .ofNat 1), (.ofNat 912996, .ofNat 1), (.ofNat 0, .ofNat 1), (.negSucc 745928015, .ofNat 1), (.ofNat 0, .ofNat 1), (.ofNat 979492656060, .ofNat 1), (.ofNat 0, .ofNat 1), (.negSucc 1886417518366583, .ofNat 1), (.ofNat 0, .ofNat 1), (.ofNat 5009241315184666644, .ofNat 1), (.ofNat 0, .ofNat 1), (.negSucc 17540660475377840594591, .ofNat 1), (.ofNat 0, .ofNat 1), (.ofNat 78312324564589338872144748, .ofNat 1), (.ofNat 0, .ofNat 1), (.negSucc 434186642749355569073755056839, .ofNat 1), (.ofNat 0, .ofNat 1), (.ofNat 2926720038104119875759386983890372, .ofNat 1), (.ofNat 0, .ofNat 1), (.negSucc 23571271241949942754084942717124230127, .ofNat 1)]⟩
theorem row28_ok : okRow row28 = true := by decide +kernel
def row32 : Row := ⟨.ofNat 37, 37, [.ofNat 1, .negSucc 0, .ofNat 1, .ofNat 1, .negSucc 0, .negSucc 0, .ofNat 1, .negSucc 0, .ofNat 1, .ofNat 1, .ofNat 1, .ofNat 1, .negSucc 0, .negSucc 0, .negSucc 0, .ofNat 1, .negSucc 0, .negSucc 0, .negSucc 0, .negSucc 0, .ofNat 1, .negSucc 0, .negSucc 0, .negSucc 0, .ofNat 1, .ofNat 1, .ofNat 1, .ofNat 1, .negSucc 0, .ofNat 1, .negSucc 0, .negSucc 0, .ofNat 1, .ofNat 1, .negSucc 0, .ofNat 1, .ofNat 0], [.ofNat 0, .ofNat 1, .negSucc 0, .ofNat 1, .ofNat 1, .negSucc 0, .negSucc 0, .ofNat 1, .negSucc 0, .ofNat 1, .ofNat 1, .ofNat 1, .ofNat 1, .negSucc 0, .negSucc 0, .negSucc 0, .ofNat 1, .negSucc 0, .negSucc 0, .negSucc 0, .negSucc 0, .ofNat 1, .negSucc 0, .negSucc 0, .negSucc 0, .ofNat 1, .ofNat 1, .ofNat 1, .ofNat 1, .negSucc 0, .ofNat 1, .negSucc 0, .negSucc 0, .ofNat 1, .ofNat 1, .negSucc 0, .ofNat 1], [.ofNat 0, .ofNat 0, .ofNat 740, .ofNat 41070, .ofNat 1691936, .ofNat 62796030, .ofNat 2233256360, .ofNat 78119945190, .ofNat 2720730790496, .ofNat 94873135191150, .ofNat 3319973592726680, .ofNat 116663404370557110, .ofNat 4115961559925895056, .ofNat 145723221545368791870, .ofNat 5174317724621156208200, .ofNat 184163459439133697869830, .ofNat 6567093199768674301735616, .ofNat 234528139073323303721042190, .ofNat 8385686573823621718928220920, .ofNat 300127453312770681260444299350, .ofNat 10750368413191819635071605032176, .ofNat 385334933736674308118986036486110, .ofNat 13820143208114401978614028102364840, .ofNat 495927681142616074485513558421301670, .ofNat 17804754255088382713428297120189064736], [(.ofNat 0, .ofNat 1), (.ofNat 0, .ofNat 1), (.ofNat 20, .ofNat 1), (.ofNat 0, .ofNat 1), (.negSucc 9031, .ofNat 1), (.ofNat 0, .ofNat 1), (.ofNat 9732660, .ofNat 1), (.ofNat 0, .ofNat 1), (.negSucc 19098379023, .ofNat 1), (.ofNat 0, .ofNat 1), (.ofNat 59771496141100, .ofNat 1), (.ofNat 0, .ofNat 1), (.negSucc 273793520265754775, .ofNat 1), (.ofNat 0, .ofNat 1), (.ofNat 1728291722473336402340, .ofNat 1), (.ofNat 0, .ofNat 1), (.negSucc 14384401679406948242413087, .ofNat 1), (.ofNat 0, .ofNat 1), (.ofNat 5647596041368421807757144718860, .ofNat 37), (.ofNat 0, .ofNat 1), (.negSucc 2011362971412343004989370148942759, .ofNat 1), (.ofNat 0, .ofNat 1), (.ofNat 32223777350069559991635035561179740820, .ofNat 1), (.ofNat 0, .ofNat 1), (.negSucc 616821232699597895057560282351753396748591, .ofNat 1)]⟩
theorem row32_ok : okRow row32 = true := by decide +kernel
def row36 : Row := ⟨.ofNat 53, 53, [.ofNat 1, .negSucc 0, .negSucc 0, .ofNat 1, .negSucc 0, .ofNat 1, .ofNat 1, .negSucc 0, .ofNat 1, .ofNat 1, .ofNat 1, .negSucc 0, .ofNat 1, .negSucc 0, .ofNat 1, .ofNat 1, .ofNat 1, .negSucc 0, .negSucc 0, .negSucc 0, .negSucc 0, .negSucc 0, .negSucc 0, .ofNat 1, .ofNat 1, .negSucc 0, .negSucc 0, .ofNat 1, .ofNat 1, .negSucc 0, .negSucc 0, .negSucc 0, .negSucc 0, .negSucc 0, .negSucc 0, .ofNat 1, .ofNat 1, .ofNat 1, .negSucc 0, .ofNat 1, .negSucc 0, .ofNat 1, .ofNat 1, .ofNat 1, .negSucc 0, .ofNat 1, .ofNat 1, .negSucc 0, .ofNat 1, .negSucc 0, .negSucc 0, .ofNat 1, .ofNat 0], [.ofNat 0, .ofNat 1, .negSucc 0, .negSucc 0, .ofNat 1, .negSucc 0, .ofNat 1, .ofNat 1, .negSucc 0, .ofNat 1, .ofNat 1, .ofNat 1, .negSucc 0, .ofNat 1, .negSucc 0, .ofNat 1, .ofNat 1, .ofNat 1, .negSucc 0, .negSucc 0, .negSucc 0, .negSucc 0, .negSucc 0, .negSucc 0, .ofNat 1, .ofNat 1, .negSucc 0, .negSucc 0, .ofNat 1, .ofNat 1, .negSucc 0, .negSucc 0, .negSucc 0, .negSucc 0, .negSucc 0, .negSucc 0, .ofNat 1, .ofNat 1, .ofNat 1, .negSucc 0, .ofNat 1, .negSucc 0, .ofNat 1, .ofNat 1, .ofNat 1, .negSucc 0, .ofNat 1, .ofNat 1, .negSucc 0, .ofNat 1, .negSucc 0, .negSucc 0, .ofNat 1], [.ofNat 0, .ofNat 0, .ofNat 1484, .ofNat 117978, .ofNat 6694112, .ofNat 334636170, .ofNat 15765477944, .ofNat 720574348578, .ofNat 32429183024672, .ofNat 1449835519346970, .ofNat 64784581728352904, .ofNat 2907148967533181778, .ofNat 131547059730200624432, .ofNat 6024021720654217559370, .ofNat 280054308530971656554264, .ofNat 13250086994224752151288578, .ofNat 639005538135541754557347392, .ofNat 31429498969347819606242933370, .ofNat 1575766890610527587327445626024, .ofNat 80415158647714960836402998892978, .ofNat 4168238540590048887186292869737552, .ofNat 218905125656705600740373209248908970, .ofNat 11618133545288979276008227847122192184, .ofNat 621648998307097469875586127476066778978, .ofNat 33462204482349207050558100250851847298912], [(.ofNat 0, .ofNat 1), (.ofNat 0, .ofNat 1), (.ofNat 28, .ofNat 1), (.ofNat 0, .ofNat 1), (.negSucc 30999, .ofNat 1), (.ofNat 0, .ofNat 1), (.ofNat 70056444, .ofNat 1), (.ofNat 0, .ofNat 1), (.negSucc 282761459119, .ofNat 1), (.ofNat 0, .ofNat 1), (.ofNat 1816284178047140, .ofNat 1), (.ofNat 0, .ofNat 1), (.negSucc 17071599157240980359, .ofNat 1), (.ofNat 0, .ofNat 1), (.ofNat 221114810493015993732556, .ofNat 1), (.ofNat 0, .ofNat 1), (.negSucc 3776078704429054274950906719, .ofNat 1), (.ofNat 0, .ofNat 1), (.ofNat 82216587268629419865174443829492, .ofNat 1), (.ofNat 0, .ofNat 1), (.negSucc 2222983751406617801960841304592166199, .ofNat 1), (.ofNat 0, .ofNat 1), (.ofNat 73075294971097765459024384122345909598748, .ofNat 1), (.ofNat 0, .ofNat 1), (.negSucc 2870131102330064287124732600406723974042902799, .ofNat 1)]⟩
theorem row36_ok : okRow row36 = true := by decide +kernel
def row40 : Row := ⟨.ofNat 61, 61, [.ofNat 1, .negSucc 0, .ofNat 1, .ofNat 1, .ofNat 1, .negSucc 0, .negSucc 0, .negSucc 0, .ofNat 1, .negSucc 0, .negSucc 0, .ofNat 1, .ofNat 1, .ofNat 1, .ofNat 1, .ofNat 1, .negSucc 0, .negSucc 0, .ofNat 1, .ofNat 1, .negSucc 0, .ofNat 1, .negSucc 0, .negSucc 0, .ofNat 1, .negSucc 0, .ofNat 1, .negSucc 0, .negSucc 0, .negSucc 0, .negSucc 0, .negSucc 0, .negSucc 0, .ofNat 1, .negSucc 0, .ofNat 1, .negSucc 0, .negSucc 0, .ofNat 1, .negSucc 0, .ofNat 1, .ofNat 1, .negSucc 0, .negSucc 0, .ofNat 1, .ofNat 1, .ofNat 1, .ofNat 1, .ofNat 1, .negSucc 0, .negSucc 0, .ofNat 1, .negSucc 0, .negSucc 0, .negSucc 0, .ofNat 1, .ofNat 1, .ofNat 1, .negSucc 0, .ofNat 1, .ofNat 0], [.ofNat 0, .ofNat 1, .negSucc 0, .ofNat 1, .ofNat 1, .ofNat 1, .negSucc 0, .negSucc 0, .negSucc 0, .ofNat 1, .negSucc 0, .negSucc 0, .ofNat 1, .ofNat 1, .ofNat 1, .ofNat 1, .ofNat 1, .negSucc 0, .negSucc 0, .ofNat 1, .ofNat 1, .negSucc 0, .ofNat 1, .negSucc 0, .negSucc 0, .ofNat 1, .negSucc 0, .ofNat 1, .negSucc 0, .negSucc 0, .negSucc 0, .negSucc 0, .negSucc 0, .negSucc 0, .ofNat 1, .negSucc 0, .ofNat 1, .negSucc 0, .negSucc 0, .ofNat 1, .negSucc 0, .ofNat 1, .ofNat 1, .negSucc 0, .negSucc 0, .ofNat 1, .ofNat 1, .ofNat 1, .ofNat 1, .ofNat 1, .negSucc 0, .negSucc 0, .ofNat 1, .negSucc 0, .negSucc 0, .negSucc 0, .ofNat 1, .ofNat 1, .ofNat 1, .negSucc 0, .ofNat 1], [.ofNat 0, .ofNat 0, .ofNat 2684, .ofNat 245586, .ofNat 16796960, .ofNat 1038493890, .ofNat 61657464344, .ofNat 3606112286826, .ofNat 210180731330720, .ofNat 12270231896692530, .ofNat 718834560829780904, .ofNat 42271784327491323066, .ofNat 2494261025755428055280, .ofNat 147577062251623438403970, .ofNat 8749574267839898744179064, .ofNat 519498970494980898682407306, .ofNat 30874428229370329324361464640, .ofNat 1835969068579380620419133376210, .ofNat 109210237881393486455243078346824, .ofNat 6496933587137497260215867936115546, .ofNat 386495820816326727061885474983942800, .ofNat 22989987626516539557170769429382697250, .ofNat 1367328855908408152501713045206057692184, .ofNat 81309688530455109368220243560007453663786, .ofNat 4834482490500486525817192885940714944513760], [(.ofNat 0, .ofNat 1), (.ofNat 0, .ofNat 1), (.ofNat 44, .ofNat 1), (.ofNat 0, .ofNat 1), (.negSucc 52087, .ofNat 1), (.ofNat 0, .ofNat 1), (.ofNat 152224332, .ofNat 1), (.ofNat 0, .ofNat 1), (.negSucc 811819371375, .ofNat 1), (.ofNat 0, .ofNat 1), (.ofNat 6905756591244820, .ofNat 1), (.ofNat 0, .ofNat 1), (.negSucc 85979802866653265063, .ofNat 1), (.ofNat 0, .ofNat 1), (.ofNat 1475185204074982081380188, .ofNat 1), (.ofNat 0, .ofNat 1), (.negSucc 33371637831093847055176432351, .ofNat 1), (.ofNat 0, .ofNat 1), (.ofNat 962506880134234110224742084220836, .ofNat 1), (.ofNat 0, .ofNat 1), (.negSucc 34473756841987031568955083627090044439, .ofNat 1), (.ofNat 0, .ofNat 1), (.ofNat 1501173306950403349969471320204775982141164, .ofNat 1), (.ofNat 0, .ofNat 1), (.negSucc 78103396778914713851414491131594534074740008527, .ofNat 1)]⟩
theorem row40_ok : okRow row40 = true := by decide +kernel
end Ft

namespace Ft
def row1 : Row := ⟨.negSucc 55, 56, [.ofNat 1, .ofNat 0, .ofNat 1, .ofNat 0, .ofNat 1, .ofNat 0, .ofNat 0, .ofNat 0, .ofNat 1, .ofNat 0, .negSucc 0, .ofNat 0, .ofNat 1, .ofNat 0, .ofNat 1, .ofNat 0, .negSucc 0, .ofNat 0, .ofNat 1, .ofNat 0, .ofNat 0, .ofNat 0, .ofNat 1, .ofNat 0, .ofNat 1, .ofNat 0, .ofNat 1, .ofNat 0, .negSucc 0, .ofNat 0, .negSucc 0, .ofNat 0, .negSucc 0, .ofNat 0, .ofNat 0, .ofNat 0, .negSucc 0, .ofNat 0, .ofNat 1, .ofNat 0, .negSucc 0, .ofNat 0, .negSucc 0, .ofNat 0, .ofNat 1, .ofNat 0, .negSucc 0, .ofNat 0, .ofNat 0, .ofNat 0, .negSucc 0, .ofNat 0, .negSucc 0, .ofNat 0, .negSucc 0, .ofNat 0], [.ofNat 0, .ofNat 1, .ofNat 0, .ofNat 1, .ofNat 0, .ofNat 1, .ofNat 0, .ofNat 0, .ofNat 0, .ofNat 1, .ofNat 0, .negSucc 0, .ofNat 0, .ofNat 1, .ofNat 0, .ofNat 1, .ofNat 0, .negSucc 0, .ofNat 0, .ofNat 1, .ofNat 0, .ofNat 0, .ofNat 0, .ofNat 1, .ofNat 0, .ofNat 1, .ofNat 0, .ofNat 1, .ofNat 0, .negSucc 0, .ofNat 0, .negSucc 0, .ofNat 0, .negSucc 0, .ofNat 0, .ofNat 0, .ofNat 0, .negSucc 0, .ofNat 0, .ofNat 1, .ofNat 0, .negSucc 0, .ofNat 0, .negSucc 0, .ofNat 0, .ofNat 1, .ofNat 0, .negSucc 0, .ofNat 0, .ofNat 0, .ofNat 0, .negSucc 0, .ofNat 0, .negSucc 0, .ofNat 0, .negSucc 0], [.ofNat 0, .negSucc 223, .negSucc 12543, .negSucc 635935, .negSucc 31886847, .negSucc 1608942943, .negSucc 81991485183, .negSucc 4218494196895, .negSucc 218824331987967, .negSucc 11426818730369503, .negSucc 599900301832916223, .negSucc 31630541561304071455, .negSucc 1673645561340749183487, .negSucc 88815630390603296020063, .negSucc 4724845557993389441745663, .negSucc 251888362701411176853427615, .negSucc 13453487876717966029563025407, .negSucc 719742032433258960249184166623, .negSucc 38562143899841963321922828085503, .negSucc 2068847655118570505048210782201375, .negSucc 111129610003273109770522184646665727, .negSucc 5976180221161253800791366693194041183, .negSucc 321717651642741227602337237856616447743, .negSucc 17336156135402507592866356844192330968735, .negSucc 935040885788706809446822940580191692776447], [(.ofNat 0, .ofNat 1), (.negSucc 3, .ofNat 1), (.ofNat 0, .ofNat 1), (.ofNat 1188, .ofNat 1), (.ofNat 0, .ofNat 1), (.negSucc 1811699, .ofNat 1), (.ofNat 0, .ofNat 1), (.ofNat 6020433972, .ofNat 1), (.ofNat 0, .ofNat 1), (.negSucc 34418721173219, .ofNat 1), (.ofNat 0, .ofNat 1), (.ofNat 300734952171829956, .ofNat 1), (.ofNat 0, .ofNat 1), (.negSucc 3726684557177724859859, .ofNat 1), (.ofNat 0, .ofNat 1), (.ofNat 62166727053652291234169940, .ofNat 1), (.ofNat 0, .ofNat 1), (.negSucc 1343207777164207373475599700419, .ofNat 1), (.ofNat 0, .ofNat 1), (.ofNat 36490987658665251089899854485277924, .ofNat 1), (.ofNat 0, .ofNat 1), (.negSucc 1217450256236095083518573144021341739699, .ofNat 1), (.ofNat 0, .ofNat 1), (.ofNat 48934827251590167222757760033522002635553908, .ofNat 1), (.ofNat 0, .ofNat 1)]⟩
theorem row1_ok : okRow row1 = true := by decide +kernel
def row5 : Row := ⟨.negSucc 46, 47, [.ofNat 1, .ofNat 1, .ofNat 1, .ofNat 1, .negSucc 0, .ofNat 1, .ofNat 1, .ofNat 1, .ofNat 1, .negSucc 0, .negSucc 0, .ofNat 1, .negSucc 0, .ofNat 1, .negSucc 0, .ofNat 1, .ofNat 1, .ofNat 1, .negSucc 0, .negSucc 0, .ofNat 1, .negSucc 0, .negSucc 0, .ofNat 1, .ofNat 1, .negSucc 0, .ofNat 1, .ofNat 1, .negSucc 0, .negSucc 0, .negSucc 0, .ofNat 1, .negSucc 0, .ofNat 1, .negSucc 0, .ofNat 1, .ofNat 1, .negSucc 0, .negSucc 0, .negSucc 0, .negSucc 0, .ofNat 1, .negSucc 0, .negSucc 0, .negSucc 0, .negSucc 0, .ofNat 0], [.ofNat 0, .ofNat 1, .ofNat 1, .ofNat 1, .ofNat 1, .negSucc 0, .ofNat 1, .ofNat 1, .ofNat 1, .ofNat 1, .negSucc 0, .negSucc 0, .ofNat 1, .negSucc 0, .ofNat 1, .negSucc 0, .ofNat 1, .ofNat 1, .ofNat 1, .negSucc 0, .negSucc 0, .ofNat 1, .negSucc 0, .negSucc 0, .ofNat 1, .ofNat 1, .negSucc 0, .ofNat 1, .ofNat 1, .negSucc 0, .negSucc 0, .negSucc 0, .ofNat 1, .negSucc 0, .ofNat 1, .negSucc 0, .ofNat 1, .ofNat 1, .negSucc 0, .negSucc 0, .negSucc 0, .negSucc 0, .ofNat 1, .negSucc 0, .negSucc 0, .negSucc 0, .negSucc 0], [.ofNat 0, .negSucc 234, .negSucc 11044, .negSucc 478506, .negSucc 20581252, .negSucc 887645994, .negSucc 38446153924, .negSucc 1672179600906, .negSucc 73006772183812, .negSucc 3198276222453354, .negSucc 140534684568091204, .negSucc 6192017196843759306, .negSucc 273495216693704727172, .negSucc 12107140488786939785514, .negSucc 537064766737262824274884, .negSucc 23869016730937935413261706, .negSucc 1062681152612602091902883332, .negSucc 47388866390083250783246826474, .negSucc 2116431080508548838757108080964, .negSucc 94654304004999133829068488236106, .negSucc 4238798143969709856960282160764292, .negSucc 190051916147613488512617100694040234, .negSucc 8530861976676227523073291664401525444, .negSucc 383328808841262647653081965705472330506, .negSucc 17241584033934774152451516218674836642052], [(.ofNat 0, .ofNat 1), (.negSucc 4, .ofNat 1), (.ofNat 0, .ofNat 1), (.ofNat 864, .ofNat 1), (.ofNat 0, .ofNat 1), (.negSucc 849599, .ofNat 1), (.ofNat 0, .ofNat 1), (.ofNat 1942841376, .ofNat 1), (.ofNat 0, .ofNat 1), (.negSucc 7778160846719, .ofNat 1), (.ofNat 0, .ofNat 1), (.ofNat 47802347278712928, .ofNat 1), (.ofNat 0, .ofNat 1), (.negSucc 417108017082042861119, .ofNat 1), (.ofNat 0, .ofNat 1), (.ofNat 4900764184133689752757920, .ofNat 1), (.ofNat 0, .ofNat 1), (.negSucc 74586241229632082245409068799, .ofNat 1), (.ofNat 0, .ofNat 1), (.ofNat 1427310033057428693339762440381152, .ofNat 1), (.ofNat 0, .ofNat 1), (.negSucc 33543082207643467524681295316501645759, .ofNat 1), (.ofNat 0, .ofNat 1), (.ofNat 44636194892016539926938526985580173485256928, .ofNat 47), (.ofNat 0, .ofNat 1)]⟩
theorem row5_ok : okRow row5 = true := by decide +kernel
def row9 : Row := ⟨.negSucc 34, 35, [.ofNat 1, .negSucc 0, .ofNat 1, .ofNat 1, .ofNat 0, .negSucc 0, .ofNat 0, .negSucc 0, .ofNat 1, .ofNat 0, .ofNat 1, .ofNat 1, .ofNat 1, .ofNat 0, .ofNat 0, .ofNat 1, .ofNat 1, .negSucc 0, .negSucc 0, .ofNat 0, .ofNat 0, .negSucc 0, .negSucc 0, .negSucc 0, .ofNat 0, .negSucc 0, .ofNat 1, .ofNat 0, .ofNat 1, .ofNat 0, .negSucc 0, .negSucc 0, .ofNat 1, .negSucc 0, .ofNat 0], [.ofNat 0, .ofNat 1, .negSucc 0, .ofNat 1, .ofNat 1, .ofNat 0, .negSucc 0, .ofNat 0, .negSucc 0, .ofNat 1, .ofNat 0, .ofNat 1, .ofNat 1, .ofNat 1, .ofNat 0, .ofNat 0, .ofNat 1, .ofNat 1, .negSucc 0, .negSucc 0, .ofNat 0, .ofNat 0, .negSucc 0, .negSucc 0, .negSucc 0, .ofNat 0, .negSucc 0, .ofNat 1, .ofNat 0, .ofNat 1, .ofNat 0, .negSucc 0, .negSucc 0, .ofNat 1, .negSucc 0], [.ofNat 0, .negSucc 69, .negSucc 2449, .negSucc 74409, .negSucc 2207449, .negSucc 66153849, .negSucc 2024104249, .negSucc 63291320889, .negSucc 2016449305849, .negSucc 65191866252729, .negSucc 2130643468840249, .negSucc 70179646070387769, .negSucc 2324395454715875449, .negSucc 77288308863017665209, .negSucc 2577217080308181131449, .negSucc 86121098865072442613049, .negSucc 2882621858697522096160249, .negSucc 96617882883942621608207289, .negSucc 3242198814816851849584033849, .negSucc 108914411731154224360404444729, .negSucc 3662391482447235276880094224249, .negSucc 123270438377020449507468523254969, .negSucc 4152930989284011377195010080363449, .negSucc 140036567889716537069555809608490809, .negSucc 4726167342974663843989910524438451449], [(.ofNat 0, .ofNat 1), (.negSucc 1, .ofNat 1), (.ofNat 0, .ofNat 1), (.ofNat 324, .ofNat 1), (.ofNat 0, .ofNat 1), (.negSucc 211859, .ofNat 1), (.ofNat 0, .ofNat 1), (.ofNat 281489796, .ofNat 1), (.ofNat 0, .ofNat 1), (.negSucc 632305925027, .ofNat 1), (.ofNat 0, .ofNat 1), (.ofNat 2161285167311028, .ofNat 1), (.ofNat 0, .ofNat 1), (.negSucc 10465737531708989555, .ofNat 1), (.ofNat 0, .ofNat 1), (.ofNat 68203239216282391714020, .ofNat 1), (.ofNat 0, .ofNat 1), (.negSucc 575652202276829994566162243, .ofNat 1), (.ofNat 0, .ofNat 1), (.ofNat 6108929463208964733050536874772, .ofNat 1), (.ofNat 0, .ofNat 1), (.negSucc 79614353697625910899406550567887891, .ofNat 1), (.ofNat 0, .ofNat 1), (.ofNat 1250024134158641036537051915481504745284, .ofNat 1), (.ofNat 0, .ofNat 1)]⟩
theorem row9_ok : okRow row9 = true := by decide +kernel
def row13 : Row := ⟨.negSucc 19, 20, [.ofNat 1, .ofNat 0, .ofNat 1, .ofNat 0, .ofNat 0, .ofNat 0, .ofNat 1, .ofNat 0, .ofNat 1, .ofNat 0, .negSucc 0, .ofNat 0, .negSucc 0, .ofNat 0, .ofNat 0, .ofNat 0, .negSucc 0, .ofNat 0, .negSucc 0, .ofNat 0], [.ofNat 0, .ofNat 1, .ofNat 0, .ofNat 1, .ofNat 0, .ofNat 0, .ofNat 0, .ofNat 1, .ofNat 0, .ofNat 1, .ofNat 0, .negSucc 0, .ofNat 0, .negSucc 0, .ofNat 0, .ofNat 0, .ofNat 0, .negSucc 0, .ofNat 0, .negSucc 0], [.ofNat 0, .negSucc 39, .negSucc 799, .negSucc 14199, .negSucc 247999, .negSucc 4352199, .negSucc 77131999, .negSucc 1380837399, .negSucc 24940591999, .negSucc 453810227559, .negSucc 8307086755999, .negSucc 152806268706999, .negSucc 2822077398439999, .negSucc 52292320557466119, .negSucc 971678083541256799, .negSucc 18098702583860166999, .negSucc 337812085529172319999, .negSucc 6316766072806676787879, .negSucc 118308298351195133818399, .negSucc 2219013808475674754001399, .negSucc 41673870340505615233879999, .negSucc 783555784407864641051392839, .negSucc 14747835547641857798066424799, .negSucc 277839837291517052317799234199, .negSucc 5238764172820484591948159887999], [(.ofNat 0, .ofNat 1), (.negSucc 1, .ofNat 1), (.ofNat 0, .ofNat 1), (.ofNat 90, .ofNat 1), (.ofNat 0, .ofNat 1), (.negSucc 17609, .ofNat 1), (.ofNat 0, .ofNat 1), (.ofNat 7466130, .ofNat 1), (.ofNat 0, .ofNat 1), (.negSucc 5444415377, .ofNat 1), (.ofNat 0, .ofNat 1), (.ofNat 6067706536650, .ofNat 1), (.ofNat 0, .ofNat 1), (.negSucc 9590632320393305, .ofNat 1), (.ofNat 0, .ofNat 1), (.ofNat 20406407212721275650, .ofNat 1), (.ofNat 0, .ofNat 1), (.negSucc 56238752765007413999393, .ofNat 1), (.ofNat 0, .ofNat 1), (.ofNat 194877651946432093611683130, .ofNat 1), (.ofNat 0, .ofNat 1), (.negSucc 829299842513142821182441329641, .ofNat 1), (.ofNat 0, .ofNat 1), (.ofNat 4251697466513202099789769182495090, .ofNat 1), (.ofNat 0, .ofNat 1)]⟩
theorem row13_ok : okRow row13 = true := by decide +kernel
def row17 : Row := ⟨.negSucc 7, 8, [.ofNat 1, .ofNat 0, .ofNat 1, .ofNat 0, .negSucc 0, .ofNat 0, .negSucc 0, .ofNat 0], [.ofNat 0, .ofNat 1, .ofNat 0, .ofNat 1, .ofNat 0, .negSucc 0, .ofNat 0, .negSucc 0], [.ofNat 0, .negSucc 7, .negSucc 63, .negSucc 439, .negSucc 2943, .negSucc 19687, .negSucc 132543, .negSucc 899479, .negSucc 6148863, .negSucc 42287047, .negSucc 292181823, .negSucc 2025977719, .negSucc 14084896383, .negSucc 98108119207, .negSucc 684321805503, .negSucc 4778064739159, .negSucc 33385475413503, .negSucc 233393324300167, .negSucc 1632227907755583, .negSucc 11417967509439799, .negSucc 79887630242468223, .negSucc 559022690781133927, .negSucc 3912205202992944063, .negSucc 27380668174892815639, .negSucc 191640835742912268543], [(.ofNat 0, .ofNat 1), (.negSucc 0, .ofNat 1), (.ofNat 0, .ofNat 1), (.ofNat 9, .ofNat 1), (.ofNat 0, .ofNat 1), (.negSucc 284, .ofNat 1), (.ofNat 0, .ofNat 1), (.ofNat 19341, .ofNat 1), (.ofNat 0, .ofNat 1), (.negSucc 2256632, .ofNat 1), (.ofNat 0, .ofNat 1), (.ofNat 402396753, .ofNat 1), (.ofNat 0, .ofNat 1), (.negSucc 101764694420, .ofNat 1), (.ofNat 0, .ofNat 1), (.ofNat 34644669532245, .ofNat 1), (.ofNat 0, .ofNat 1), (.negSucc 15276558850961648, .ofNat 1), (.ofNat 0, .ofNat 1), (.ofNat 8469775085205752217, .ofNat 1), (.ofNat 0, .ofNat 1), (.negSucc 5766886515002942338316, .ofNat 1), (.ofNat 0, .ofNat 1), (.ofNat 4730555686339685437719069, .ofNat 1), (.ofNat 0, .ofNat 1)]⟩
theorem row17_ok : okRow row17 = true := by decide +kernel
def row21 : Row := ⟨.ofNat 1, 1, [.ofNat 1], [.ofNat 1], [.ofNat 1, .ofNat 1, .ofNat 1, .ofNat 1, .ofNat 1, .ofNat 1, .ofNat 1, .ofNat 1, .ofNat 1, .ofNat 1, .ofNat 1, .ofNat 1, .ofNat 1, .ofNat 1, .ofNat 1, .ofNat 1, .ofNat 1, .ofNat 1, .ofNat 1, .ofNat 1, .ofNat 1, .ofNat 1, .ofNat 1, .ofNat 1, .ofNat 1], [(.ofNat 1, .ofNat 1), (.ofNat 1, .ofNat 2), (.ofNat 1, .ofNat 6), (.ofNat 0, .ofNat 1), (.negSucc 0, .ofNat 30), (.ofNat 0, .ofNat 1), (.ofNat 1, .ofNat 42), (.ofNat 0, .ofNat 1), (.negSucc 0, .ofNat 30), (.ofNat 0, .ofNat 1), (.ofNat 5, .ofNat 66), (.ofNat 0, .ofNat 1), (.negSucc 690, .ofNat 2730), (.ofNat 0, .ofNat 1), (.ofNat 7, .ofNat 6), (.ofNat 0, .ofNat 1), (.negSucc 3616, .ofNat 510), (.ofNat 0, .ofNat 1), (.ofNat 43867, .ofNat 798), (.ofNat 0, .ofNat 1), (.negSucc 174610, .ofNat 330), (.ofNat 0, .ofNat 1), (.ofNat 854513, .ofNat 138), (.ofNat 0, .ofNat 1), (.negSucc 236364090, .ofNat 2730)]⟩
theorem row21_ok : okRow row21 = true := by decide +kernel
def row25 : Row := ⟨.ofNat 13, 13, [.ofNat 1, .negSucc 0, .ofNat 1, .ofNat 1, .negSucc 0, .negSucc 0, .negSucc 0, .negSucc 0, .ofNat 1, .ofNat 1, .negSucc 0, .ofNat 1, .ofNat 0], [.ofNat 0, .ofNat 1, .negSucc 0, .ofNat 1, .ofNat 1, .negSucc 0, .negSucc 0, .negSucc 0, .negSucc 0, .ofNat 1, .ofNat 1, .negSucc 0, .ofNat 1], [.ofNat 0, .ofNat 0, .ofNat 52, .ofNat 1014, .ofNat 14560, .ofNat 187590, .ofNat 2308552, .ofNat 27867294, .ofNat 334129120, .ofNat 4002932310, .ofNat 48041381752, .ofNat 578103242574, .ofNat 6975137225680, .ofNat 84351501537030, .ofNat 1021884959358952, .ofNat 12395232989161854, .ofNat 150469871953186240, .ofNat 1827339157323117750, .ofNat 22193762485035320152, .ofNat 269515618399433449134, .ofNat 3271931198780193242800, .ofNat 39704484626962821850470, .ofNat 481565629642170776145352, .ofNat 5837551495675264223688414, .ofNat 70721962225241629629427360], [(.ofNat 0, .ofNat 1), (.ofNat 0, .ofNat 1), (.ofNat 4, .ofNat 1), (.ofNat 0, .ofNat 1), (.negSucc 231, .ofNat 1), (.ofNat 0, .ofNat 1), (.ofNat 401556, .ofNat 13), (.ofNat 0, .ofNat 1), (.negSucc 7482703, .ofNat 1), (.ofNat 0, .ofNat 1), (.ofNat 2890943420, .ofNat 1), (.ofNat 0, .ofNat 1), (.negSucc 1634752049015, .ofNat 1), (.ofNat 0, .ofNat 1), (.ofNat 1273881501667348, .ofNat 1), (.ofNat 0, .ofNat 1), (.negSucc 1308841448437636767, .ofNat 1), (.ofNat 0, .ofNat 1), (.ofNat 22288649130552191642748, .ofNat 13), (.ofNat 0, .ofNat 1), (.negSucc 2789023677976901640399559, .ofNat 1), (.ofNat 0, .ofNat 1), (.ofNat 5515964408983304343517812164, .ofNat 1), (.ofNat 0, .ofNat 1), (.negSucc 13034295977626306653506263210991, .ofNat 1)]⟩
theorem row25_ok : okRow row25 = true := by decide +kernel
def row29 : Row := ⟨.ofNat 28, 28, [.ofNat 1, .ofNat 0, .ofNat 1, .ofNat 0, .negSucc 0, .ofNat 0, .ofNat 0, .ofNat 0, .ofNat 1, .ofNat 0, .negSucc 0, .ofNat 0, .negSucc 0, .ofNat 0, .negSucc 0, .ofNat 0, .negSucc 0, .ofNat 0, .ofNat 1, .ofNat 0, .ofNat 0, .ofNat 0, .negSucc 0, .ofNat 0, .ofNat 1, .ofNat 0, .ofNat 1, .ofNat 0], [.ofNat 0, .ofNat 1, .ofNat 0, .ofNat 1, .ofNat 0, .negSucc 0, .ofNat 0, .ofNat 0, .ofNat 0, .ofNat 1, .ofNat 0, .negSucc 0, .ofNat 0, .negSucc 0, .ofNat 0, .negSucc 0, .ofNat 0, .negSucc 0, .ofNat 0, .ofNat 1, .ofNat 0, .ofNat 0, .ofNat 0, .negSucc 0, .ofNat 0, .ofNat 1, .ofNat 0, .ofNat 1], [.ofNat 0, .ofNat 0, .ofNat 448, .ofNat 18816, .ofNat 601216, .ofNat 17498880, .ofNat 488961088, .ofNat 13394188416, .ofNat 363163929856, .ofNat 9792221591040, .ofNat 263210155649728, .ofNat 7061959066732416, .ofNat 189259447656743296, .ofNat 5068502263656249600, .ofNat 135676197469265282368, .ofNat 3630825698509350450816, .ofNat 97149399326443312769536, .ofNat 2599266013933602650434560, .ofNat 69545969830244026865411008, .ofNat 1860940965976888648991327616, .ofNat 49803123012432590252856616576, .ofNat 1333103240074698808070196145920, .ofNat 35691967140945785000121282307648, .ofNat 955849944627677974763465135346816, .ofNat 25605404387319886904380488081692416], [(.ofNat 0, .ofNat 1), (.ofNat 0, .ofNat 1), (.ofNat 16, .ofNat 1), (.ofNat 0, .ofNat 1), (.negSucc 3615, .ofNat 1), (.ofNat 0, .ofNat 1), (.ofNat 2134128, .ofNat 1), (.ofNat 0, .ofNat 1), (.negSucc 2370619711, .ofNat 1), (.ofNat 0, .ofNat 1), (.ofNat 4236458467280, .ofNat 1), (.ofNat 0, .ofNat 1), (.negSucc 11105208461121887, .ofNat 1), (.ofNat 0, .ofNat 1), (.ofNat 40137812934680610352, .ofNat 1), (.ofNat 0, .ofNat 1), (.negSucc 191302740527877280687743, .ofNat 1), (.ofNat 0, .ofNat 1), (.ofNat 1162515989778007058988768144, .ofNat 1), (.ofNat 0, .ofNat 1), (.negSucc 8772812688467451512447915038879, .ofNat 1), (.ofNat 0, .ofNat 1), (.ofNat 80489116086143754544265058867689456, .ofNat 1), (.ofNat 0, .ofNat 1), (.negSucc 882333079772095405535631925845265192895, .ofNat 1)]⟩
theorem row29_ok : okRow row29 = true := by decide +kernel
def row33 : Row := ⟨.ofNat 40, 40, [.ofNat 1, .ofNat 0, .ofNat 1, .ofNat 0, .ofNat 0, .ofNat 0, .negSucc 0, .ofNat 0, .ofNat 1, .ofNat 0, .negSucc 0, .ofNat 0, .ofNat 1, .ofNat 0, .ofNat 0, .ofNat 0, .negSucc 0, .ofNat 0, .negSucc 0, .ofNat 0, .negSucc 0, .ofNat 0, .negSucc 0, .ofNat 0, .ofNat 0, .ofNat 0, .ofNat 1, .ofNat 0, .negSucc 0, .ofNat 0, .ofNat 1, .ofNat 0, .negSucc 0, .ofNat 0, .ofNat 0, .ofNat 0, .ofNat 1, .ofNat 0, .ofNat 1, .ofNat 0], [.ofNat 0, .ofNat 1, .ofNat 0, .ofNat 1, .ofNat 0, .ofNat 0, .ofNat 0, .negSucc 0, .ofNat 0, .ofNat 1, .ofNat 0, .negSucc 0, .ofNat 0, .ofNat 1, .ofNat 0, .ofNat 0, .ofNat 0, .negSucc 0, .ofNat 0, .negSucc 0, .ofNat 0, .negSucc 0, .ofNat 0, .negSucc 0, .ofNat 0, .ofNat 0, .ofNat 0, .ofNat 1, .ofNat 0, .negSucc 0, .ofNat 0, .ofNat 1, .ofNat 0, .negSucc 0, .ofNat 0, .ofNat 0, .ofNat 0, .ofNat 1, .ofNat 0, .ofNat 1], [.ofNat 0, .ofNat 0, .ofNat 1120, .ofNat 67200, .ofNat 3079360, .ofNat 128736000, .ofNat 5171587360, .ofNat 203804630400, .ofNat 7953699752320, .ofNat 308808575577600, .ofNat 11956085331205600, .ofNat 462166067124432000, .ofNat 17848516821489378880, .ofNat 688908896023820908800, .ofNat 26581082939075183239840, .ofNat 1025406573080544885552000, .ofNat 39552573267747998766519040, .ofNat 1525599822577217806485273600, .ofNat 58846309635735733780754954080, .ofNat 2270030121949617998592710390400, .ofNat 87578111811203761211303530532800, .ofNat 3379296033225839551118409953376000, .ofNat 130417679024279851194667169194892320, .ofNat 5034277140999526582482375828933667200, .ofNat 194373588218521209588579048776091180160], [(.ofNat 0, .ofNat 1), (.ofNat 0, .ofNat 1), (.ofNat 28, .ofNat 1), (.ofNat 0, .ofNat 1), (.negSucc 12615, .ofNat 1), (.ofNat 0, .ofNat 1), (.ofNat 15177684, .ofNat 1), (.ofNat 0, .ofNat 1), (.negSucc 34405480591, .ofNat 1), (.ofNat 0, .ofNat 1), (.ofNat 125479163808140, .ofNat 1), (.ofNat 0, .ofNat 1), (.negSucc 671273119920813527, .ofNat 1), (.ofNat 0, .ofNat 1), (.ofNat 4951424536375043126596, .ofNat 1), (.ofNat 0, .ofNat 1), (.negSucc 48161673744639893561461023, .ofNat 1), (.ofNat 0, .ofNat 1), (.ofNat 597287237162764423115829312252, .ofNat 1), (.ofNat 0, .ofNat 1), (.negSucc 9198713155151221311608781357912679, .ofNat 1), (.ofNat 0, .ofNat 1), (.ofNat 172238128455376998823799666821237488308, .ofNat 1), (.ofNat 0, .ofNat 1), (.negSucc 3853262726282365165737312757680190560498095, .ofNat 1)]⟩
theorem row33_ok : okRow row33 = true := by decide +kernel
def row37 : Row := ⟨.ofNat 56, 56, [.ofNat 1, .ofNat 0, .negSucc 0, .ofNat 0, .ofNat 1, .ofNat 0, .ofNat 0, .ofNat 0, .ofNat 1, .ofNat 0, .ofNat 1, .ofNat 0, .ofNat 1, .ofNat 0, .negSucc 0, .ofNat 0, .negSucc 0, .ofNat 0, .negSucc 0, .ofNat 0, .ofNat 0, .ofNat 0, .negSucc 0, .ofNat 0, .ofNat 1, .ofNat 0, .negSucc 0, .ofNat 0, .negSucc 0, .ofNat 0, .ofNat 1, .ofNat 0, .negSucc 0, .ofNat 0, .ofNat 0, .ofNat 0, .negSucc 0, .ofNat 0, .negSucc 0, .ofNat 0, .negSucc 0, .ofNat 0, .ofNat 1, .ofNat 0, .ofNat 1, .ofNat 0, .ofNat 1, .ofNat 0, .ofNat 0, .ofNat 0, .ofNat 1, .ofNat 0, .negSucc 0, .ofNat 0, .ofNat 1, .ofNat 0], [.ofNat 0, .ofNat 1, .ofNat 0, .negSucc 0, .ofNat 0, .ofNat 1, .ofNat 0, .ofNat 0, .ofNat 0, .ofNat 1, .ofNat 0, .ofNat 1, .ofNat 0, .ofNat 1, .ofNat 0, .negSucc 0, .ofNat 0, .negSucc 0, .ofNat 0, .negSucc 0, .ofNat 0, .ofNat 0, .ofNat 0, .negSucc 0, .ofNat 0, .ofNat 1, .ofNat 0, .negSucc 0, .ofNat 0, .negSucc 0, .ofNat 0, .ofNat 1, .ofNat 0, .negSucc 0, .ofNat 0, .ofNat 0, .ofNat 0, .negSucc 0, .ofNat 0, .negSucc 0, .ofNat 0, .negSucc 0, .ofNat 0, .ofNat 1, .ofNat 0, .ofNat 1, .ofNat 0, .ofNat 1, .ofNat 0, .ofNat 0, .ofNat 0, .ofNat 1, .ofNat 0, .negSucc 0, .ofNat 0, .ofNat 1], [.ofNat 0, .ofNat 0, .ofNat 2240, .ofNat 188160, .ofNat 11806592, .ofNat 669473280, .ofNat 36316804160, .ofNat 1928823456000, .ofNat 101420025120512, .ofNat 5311542429312000, .ofNat 278046544717215680, .ofNat 14579751240420791040, .ofNat 766814597935024725632, .ofNat 40482928074778257169920, .ofNat 2146174574436669397947200, .ofNat 114268287929947352527361280, .ofNat 6109843581418675789084093952, .ofNat 328019757672564238436542679040, .ofNat 17677557706016816870453690582720, .ofNat 956011762474662313143949852542720, .ofNat 51865638271758031905158780288857472, .ofNat 2821804356467272344531821421829071360, .ofNat 153908922313363110677687783067208946240, .ofNat 8413118097926711209846309772450727471360, .ofNat 460768465095643057091404559772394594088192], [(.ofNat 0, .ofNat 1), (.ofNat 0, .ofNat 1), (.ofNat 40, .ofNat 1), (.ofNat 0, .ofNat 1), (.negSucc 40047, .ofNat 1), (.ofNat 0, .ofNat 1), (.ofNat 96327480, .ofNat 1), (.ofNat 0, .ofNat 1), (.negSucc 428999415775, .ofNat 1), (.ofNat 0, .ofNat 1), (.ofNat 3067420327363400, .ofNat 1), (.ofNat 0, .ofNat 1), (.negSucc 32163998604303829583, .ofNat 1), (.ofNat 0, .ofNat 1), (.ofNat 465005901407641117043800, .ofNat 1), (.ofNat 0, .ofNat 1), (.negSucc 8865150324161803502331431871, .ofNat 1), (.ofNat 0, .ofNat 1), (.ofNat 215488380368763267110416639883880, .ofNat 1), (.ofNat 0, .ofNat 1), (.negSucc 6504647584421422159690902980342101039, .ofNat 1), (.ofNat 0, .ofNat 1), (.ofNat 238716294707685466909979127585622103102840, .ofNat 1), (.ofNat 0, .ofNat 1), (.negSucc 10467367204665179280140033432695804150715587487, .ofNat 1)]⟩
theorem row37_ok : okRow row37 = true := by decide +kernel
def row41 : Row := ⟨.ofNat 65, 65, [.ofNat 1, .ofNat 1, .negSucc 0, .ofNat 1, .ofNat 0, .negSucc 0, .ofNat 1, .ofNat 1, .ofNat 1, .ofNat 0, .negSucc 0, .negSucc 0, .ofNat 0, .ofNat 1, .ofNat 0, .ofNat 1, .negSucc 0, .ofNat 1, .negSucc 0, .ofNat 0, .negSucc 0, .negSucc 0, .negSucc 0, .negSucc 0, .ofNat 0, .ofNat 0, .negSucc 0, .ofNat 1, .ofNat 1, .ofNat 0, .negSucc 0, .ofNat 1, .ofNat 1, .negSucc 0, .ofNat 0, .ofNat 1, .ofNat 1, .negSucc 0, .ofNat 0, .ofNat 0, .negSucc 0, .negSucc 0, .negSucc 0, .negSucc 0, .ofNat 0, .negSucc 0, .ofNat 1, .negSucc 0, .ofNat 1, .ofNat 0, .ofNat 1, .ofNat 0, .negSucc 0, .negSucc 0, .ofNat 0, .ofNat 1, .ofNat 1, .ofNat 1, .negSucc 0, .ofNat 0, .ofNat 1, .negSucc 0, .ofNat 1, .ofNat 1, .ofNat 0], [.ofNat 0, .ofNat 1, .ofNat 1, .negSucc 0, .ofNat 1, .ofNat 0, .negSucc 0, .ofNat 1, .ofNat 1, .ofNat 1, .ofNat 0, .negSucc 0, .negSucc 0, .ofNat 0, .ofNat 1, .ofNat 0, .ofNat 1, .negSucc 0, .ofNat 1, .negSucc 0, .ofNat 0, .negSucc 0, .negSucc 0, .negSucc 0, .negSucc 0, .ofNat 0, .ofNat 0, .negSucc 0, .ofNat 1, .ofNat 1, .ofNat 0, .negSucc 0, .ofNat 1, .ofNat 1, .negSucc 0, .ofNat 0, .ofNat 1, .ofNat 1, .negSucc 0, .ofNat 0, .ofNat 0, .negSucc 0, .negSucc 0, .negSucc 0, .negSucc 0, .ofNat 0, .negSucc 0, .ofNat 1, .negSucc 0, .ofNat 1, .ofNat 0, .ofNat 1, .ofNat 0, .negSucc 0, .negSucc 0, .ofNat 0, .ofNat 1, .ofNat 1, .ofNat 1, .negSucc 0, .ofNat 0, .ofNat 1, .negSucc 0, .ofNat 1, .ofNat 1], [.ofNat 0, .ofNat 0, .ofNat 4160, .ofNat 405600, .ofNat 30480320, .ofNat 2096952000, .ofNat 138523249280, .ofNat 8952277261200, .ofNat 571156510845440, .ofNat 36157242714871200, .ofNat 2278297614980316800, .ofNat 143177824910669406000, .ofNat 8986034769996441647360, .ofNat 563727202916905546209600, .ofNat 35369449245949763915534720, .ofNat 2220270567950050578874626000, .ofNat 139476179619940994039182638080, .ofNat 8769337941797453669983989439200, .ofNat 551866039775378444941157517991040, .ofNat 34762333301993983219776314806297200, .ofNat 2191735768870432817939078341694969600, .ofNat 138311732240836121634082052632833552000, .ofNat 8735824962387101512774174599378957733760, .ofNat 552207854426119030861667835522370825635600, .ofNat 34932789447086491099131226389736658421393920], [(.ofNat 0, .ofNat 1), (.ofNat 0, .ofNat 1), (.ofNat 64, .ofNat 1), (.ofNat 0, .ofNat 1), (.negSucc 71871, .ofNat 1), (.ofNat 0, .ofNat 1), (.ofNat 222102912, .ofNat 1), (.ofNat 0, .ofNat 1), (.negSucc 1317029239423, .ofNat 1), (.ofNat 0, .ofNat 1), (.ofNat 12649932343814720, .ofNat 1), (.ofNat 0, .ofNat 1), (.negSucc 178573645871820238655, .ofNat 1), (.ofNat 0, .ofNat 1), (.ofNat 3477578343503503497061888, .ofNat 1), (.ofNat 0, .ofNat 1), (.negSucc 89317249463070851702532237567, .ofNat 1), (.ofNat 0, .ofNat 1), (.ofNat 2924952261565393476495270356250816, .ofNat 1), (.ofNat 0, .ofNat 1), (.negSucc 118951004530426386970050634743110836159, .ofNat 1), (.ofNat 0, .ofNat 1), (.ofNat 5881346349961752539377979649851946736267904, .ofNat 1), (.ofNat 0, .ofNat 1), (.negSucc 347442332733168942068236403124529029192710466431, .ofNat 1)]⟩
theorem row41_ok : okRow row41 = true := by decide +kernel
end Ft

namespace Ft
def row2 : Row := ⟨.negSucc 54, 55, [.ofNat 1, .ofNat 1, .negSucc 0, .ofNat 1, .ofNat 0, .negSucc 0, .ofNat 1, .ofNat 1, .ofNat 1, .ofNat 0, .ofNat 0, .negSucc 0, .ofNat 1, .ofNat 1, .ofNat 0, .ofNat 1, .ofNat 1, .ofNat 1, .negSucc 0, .ofNat 0, .negSucc 0, .ofNat 0, .negSucc 0, .negSucc 0, .ofNat 0, .ofNat 1, .negSucc 0, .ofNat 1, .negSucc 0, .ofNat 0, .ofNat 1, .ofNat 1, .ofNat 0, .ofNat 1, .ofNat 0, .ofNat 1, .negSucc 0, .negSucc 0, .negSucc 0, .ofNat 0, .negSucc 0, .negSucc 0, .ofNat 1, .ofNat 0, .ofNat 0, .negSucc 0, .negSucc 0, .negSucc 0, .ofNat 1, .ofNat 0, .negSucc 0, .ofNat 1, .negSucc 0, .negSucc 0, .ofNat 0], [.ofNat 0, .ofNat 1, .ofNat 1, .negSucc 0, .ofNat 1, .ofNat 0, .negSucc 0, .ofNat 1, .ofNat 1, .ofNat 1, .ofNat 0, .ofNat 0, .negSucc 0, .ofNat 1, .ofNat 1, .ofNat 0, .ofNat 1, .ofNat 1, .ofNat 1, .negSucc 0, .ofNat 0, .negSucc 0, .ofNat 0, .negSucc 0, .negSucc 0, .ofNat 0, .ofNat 1, .negSucc 0, .ofNat 1, .negSucc 0, .ofNat 0, .ofNat 1, .ofNat 1, .ofNat 0, .ofNat 1, .ofNat 0, .ofNat 1, .negSucc 0, .negSucc 0, .negSucc 0, .ofNat 0, .negSucc 0, .negSucc 0, .ofNat 1, .ofNat 0, .ofNat 0, .negSucc 0, .negSucc 0, .negSucc 0, .ofNat 1, .ofNat 0, .negSucc 0, .ofNat 1, .negSucc 0, .negSucc 0], [.ofNat 0, .negSucc 219, .negSucc 12099, .negSucc 599499, .negSucc 29342499, .negSucc 1441683099, .negSucc 71336336499, .negSucc 3556995953499, .negSucc 178722491282499, .negSucc 9046579644073179, .negSucc 461122315465124499, .negSucc 23656122610978577499, .negSucc 1220699129015603462499, .negSucc 63320588068799319498459, .negSucc 3299835058194840435282099, .negSucc 172665715172340618366737499, .negSucc 9066996082368977295992762499, .negSucc 477600175876492036070466846939, .negSucc 25225108456514474614977984985299, .negSucc 1335411521913968232439212005009499, .negSucc 70839743532776267919971424850862499, .negSucc 3764462373559698053303469993539366619, .negSucc 200351794835371727264819253678543930099, .negSucc 10677307235968788426211466171784688529499, .negSucc 569684308970756656480863861312291798242499], [(.ofNat 0, .ofNat 1), (.negSucc 3, .ofNat 1), (.ofNat 0, .ofNat 1), (.ofNat 1200, .ofNat 1), (.ofNat 0, .ofNat 1), (.negSucc 1709919, .ofNat 1), (.ofNat 0, .ofNat 1), (.ofNat 5392214800, .ofNat 1), (.ofNat 0, .ofNat 1), (.negSucc 29585852093375, .ofNat 1), (.ofNat 0, .ofNat 1), (.ofNat 249014742602846000, .ofNat 1), (.ofNat 0, .ofNat 1), (.negSucc 2975489262447878557471, .ofNat 1), (.ofNat 0, .ofNat 1), (.ofNat 47874450547803834395538000, .ofNat 1), (.ofNat 0, .ofNat 1), (.negSucc 997765390398249623933136423807, .ofNat 1), (.ofNat 0, .ofNat 1), (.ofNat 26146749232979071166682854804134000, .ofNat 1), (.ofNat 0, .ofNat 1), (.negSucc 841457166242131487532298673007954165983, .ofNat 1), (.ofNat 0, .ofNat 1), (.ofNat 32624811964588279544921424652752603836877200, .ofNat 1), (.ofNat 0, .ofNat 1)]⟩
theorem row2_ok : okRow row2 = true := by decide +kernel
def row6 : Row := ⟨.negSucc 42, 43, [.ofNat 1, .negSucc 0, .negSucc 0, .ofNat 1, .negSucc 0, .ofNat 1, .negSucc 0, .negSucc 0, .ofNat 1, .ofNat 1, .ofNat 1, .negSucc 0, .ofNat 1, .ofNat 1, .ofNat 1, .ofNat 1, .ofNat 1, .negSucc 0, .negSucc 0, .negSucc 0, .ofNat 1, .negSucc 0, .ofNat 1, .ofNat 1, .ofNat 1, .negSucc 0, .negSucc 0, .negSucc 0, .negSucc 0, .negSucc 0, .ofNat 1, .negSucc 0, .negSucc 0, .negSucc 0, .ofNat 1, .ofNat 1, .negSucc 0, .ofNat 1, .negSucc 0, .ofNat 1, .ofNat 1, .negSucc 0, .ofNat 0], [.ofNat 0, .ofNat 1, .negSucc 0, .negSucc 0, .ofNat 1, .negSucc 0, .ofNat 1, .negSucc 0, .negSucc 0, .ofNat 1, .ofNat 1, .ofNat 1, .negSucc 0, .ofNat 1, .ofNat 1, .ofNat 1, .ofNat 1, .ofNat 1, .negSucc 0, .negSucc 0, .negSucc 0, .ofNat 1, .negSucc 0, .ofNat 1, .ofNat 1, .ofNat 1, .negSucc 0, .negSucc 0, .negSucc 0, .negSucc 0, .negSucc 0, .ofNat 1, .negSucc 0, .negSucc 0, .negSucc 0, .ofNat 1, .ofNat 1, .negSucc 0, .ofNat 1, .negSucc 0, .ofNat 1, .ofNat 1, .negSucc 0], [.ofNat 0, .negSucc 42, .negSucc 1848, .negSucc 58092, .negSucc 1577196, .negSucc 37834452, .negSucc 750732828, .negSucc 8453804772, .ofNat 234282846083, .ofNat 23126272953707, .ofNat 1189939005406691, .ofNat 49256264602783547, .ofNat 1753643902383776963, .ofNat 52377157916844761867, .ofNat 1085241342559496799011, .negSucc 7058518907482850724132, .negSucc 2650068864675795415970556, .negSucc 213168402613578314772549972, .negSucc 13271411992032178052665619868, .negSucc 737965793188075918539103975812, .negSucc 38474615220577882261110040972476, .negSucc 1923816999961392739973779531621812, .negSucc 93417006935199742164777081107193948, .negSucc 4438963830930254837964703995593259492, .negSucc 207451710927016859279036636915205404796], [(.ofNat 0, .ofNat 1), (.negSucc 0, .ofNat 1), (.ofNat 0, .ofNat 1), (.ofNat 498, .ofNat 1), (.ofNat 0, .ofNat 1), (.negSucc 530409, .ofNat 1), (.ofNat 0, .ofNat 1), (.ofNat 1071919282, .ofNat 1), (.ofNat 0, .ofNat 1), (.negSucc 3637360823057, .ofNat 1), (.ofNat 0, .ofNat 1), (.ofNat 18767718403608746, .ofNat 1), (.ofNat 0, .ofNat 1), (.negSucc 137174831106986574745, .ofNat 1), (.ofNat 0, .ofNat 1), (.ofNat 1349307404531343227718690, .ofNat 1), (.ofNat 0, .ofNat 1), (.negSucc 17189646634603346225758026273, .ofNat 1), (.ofNat 0, .ofNat 1), (.ofNat 275342161606278234947103602722714, .ofNat 1), (.ofNat 0, .ofNat 1), (.negSucc 232899340950668002067594970719781285005, .ofNat 43), (.ofNat 0, .ofNat 1), (.ofNat 128359391804187208491481656572724559174418, .ofNat 1), (.ofNat 0, .ofNat 1)]⟩
theorem row6_ok : okRow row6 = true := by decide +kernel
def row10 : Row := ⟨.negSucc 30, 31, [.ofNat 1, .ofNat 1, .negSucc 0, .ofNat 1, .ofNat 1, .negSucc 0, .ofNat 1, .ofNat 1, .ofNat 1, .ofNat 1, .negSucc 0, .negSucc 0, .negSucc 0, .ofNat 1, .negSucc 0, .ofNat 1, .negSucc 0, .ofNat 1, .ofNat 1, .ofNat 1, .negSucc 0, .negSucc 0, .negSucc 0, .negSucc 0, .ofNat 1, .negSucc 0, .negSucc 0, .ofNat 1, .negSucc 0, .negSucc 0, .ofNat 0], [.ofNat 0, .ofNat 1, .ofNat 1, .negSucc 0, .ofNat 1, .ofNat 1, .negSucc 0, .ofNat 1, .ofNat 1, .ofNat 1, .ofNat 1, .negSucc 0, .negSucc 0, .negSucc 0, .ofNat 1, .negSucc 0, .ofNat 1, .negSucc 0, .ofNat 1, .ofNat 1, .ofNat 1, .negSucc 0, .negSucc 0, .negSucc 0, .negSucc 0, .ofNat 1, .negSucc 0, .negSucc 0, .ofNat 1, .negSucc 0, .negSucc 0], [.ofNat 0, .negSucc 92, .negSucc 2882, .negSucc 80444, .negSucc 2217026, .negSucc 61305692, .negSucc 1706277602, .negSucc 47824147484, .negSucc 1349758237826, .negSucc 38347775228252, .negSucc 1096234223173922, .negSucc 31514406337837724, .negSucc 910544310235641026, .negSucc 26425335057983272412, .negSucc 769874025611679078242, .negSucc 22504550356073349819164, .negSucc 659732818781483739834626, .negSucc 19388024521553474786542172, .negSucc 570967970169410132455942562, .negSucc 16844964227523610094376059804, .negSucc 497732576031708809326690146626, .negSucc 14726331076413982864695067981532, .negSucc 436199742519207113689473991718882, .negSucc 12933053692306029241447728293487644, .negSucc 383782092355941514071814350950385026], [(.ofNat 0, .ofNat 1), (.negSucc 2, .ofNat 1), (.ofNat 0, .ofNat 1), (.ofNat 288, .ofNat 1), (.ofNat 0, .ofNat 1), (.negSucc 129599, .ofNat 1), (.ofNat 0, .ofNat 1), (.ofNat 129797472, .ofNat 1), (.ofNat 0, .ofNat 1), (.negSucc 226243359359, .ofNat 1), (.ofNat 0, .ofNat 1), (.ofNat 604943220711456, .ofNat 1), (.ofNat 0, .ofNat 1), (.negSucc 2296391559803839679, .ofNat 1), (.ofNat 0, .ofNat 1), (.ofNat 363874028900695165988640, .ofNat 31), (.ofNat 0, .ofNat 1), (.negSucc 77716280492031543886920959, .ofNat 1), (.ofNat 0, .ofNat 1), (.ofNat 646992553142123781424754641824, .ofNat 1), (.ofNat 0, .ofNat 1), (.negSucc 6614722088237862328665383589153599, .ofNat 1), (.ofNat 0, .ofNat 1), (.ofNat 81475233712559635580799250999774375008, .ofNat 1), (.ofNat 0, .ofNat 1)]⟩
theorem row10_ok : okRow row10 = true := by decide +kernel
def row14 : Row := ⟨.negSucc 18, 19, [.ofNat 1, .negSucc 0, .negSucc 0, .ofNat 1, .ofNat 1, .ofNat 1, .ofNat 1, .negSucc 0, .ofNat 1, .negSucc 0, .ofNat 1, .negSucc 0, .negSucc 0, .negSucc 0, .negSucc 0, .ofNat 1, .ofNat 1, .negSucc 0, .ofNat 0], [.ofNat 0, .ofNat 1, .negSucc 0, .negSucc 0, .ofNat 1, .ofNat 1, .ofNat 1, .ofNat 1, .negSucc 0, .ofNat 1, .negSucc 0, .ofNat 1, .negSucc 0, .negSucc 0, .negSucc 0, .negSucc 0, .ofNat 1, .ofNat 1, .negSucc 0], [.ofNat 0, .negSucc 18, .negSucc 360, .negSucc 5604, .negSucc 82668, .negSucc 1222668, .negSucc 18606300, .negSucc 294930444, .negSucc 4885105788, .negSucc 84256846188, .negSucc 1501938437340, .negSucc 27428321758284, .negSucc 509020186434108, .negSucc 9537939300907308, .negSucc 179605183152033180, .negSucc 3387997756635290124, .negSucc 63890700222862373628, .negSucc 1202989769016604514028, .negSucc 22600112883431183753820, .negSucc 423478750538917878869964, .negSucc 7913527804050679438140348, .negSucc 147479314161817498814514348, .negSucc 2741289484799693830671679260, .negSucc 50827819306934075733804561804, .negSucc 940243695764410294900655750268], [(.ofNat 0, .ofNat 1), (.negSucc 0, .ofNat 1), (.ofNat 0, .ofNat 1), (.ofNat 66, .ofNat 1), (.ofNat 0, .ofNat 1), (.negSucc 13449, .ofNat 1), (.ofNat 0, .ofNat 1), (.ofNat 5303074, .ofNat 1), (.ofNat 0, .ofNat 1), (.negSucc 66751985429, .ofNat 19), (.ofNat 0, .ofNat 1), (.ofNat 3539203405562, .ofNat 1), (.ofNat 0, .ofNat 1), (.negSucc 5050550896601209, .ofNat 1), (.ofNat 0, .ofNat 1), (.ofNat 9699414331688008530, .ofNat 1), (.ofNat 0, .ofNat 1), (.negSucc 24125251402544959825569, .ofNat 1), (.ofNat 0, .ofNat 1), (.ofNat 75448030424803759004254378, .ofNat 1), (.ofNat 0, .ofNat 1), (.negSucc 289764571129187077440536469449, .ofNat 1), (.ofNat 0, .ofNat 1), (.ofNat 1340736465532215664738176276981506, .ofNat 1), (.ofNat 0, .ofNat 1)]⟩
theorem row14_ok : okRow row14 = true := by decide +kernel
def row18 : Row := ⟨.negSucc 6, 7, [.ofNat 1, .ofNat 1, .negSucc 0, .ofNat 1, .negSucc 0, .negSucc 0, .ofNat 0], [.ofNat 0, .ofNat 1, .ofNat 1, .negSucc 0, .ofNat 1, .negSucc 0, .negSucc 0], [.ofNat 0, .negSucc 6, .negSucc 48, .negSucc 294, .negSucc 1728, .negSucc 10086, .negSucc 58848, .negSucc 343734, .negSucc 2011008, .negSucc 11787846, .negSucc 69241248, .negSucc 407605974, .negSucc 2404673088, .negSucc 14215874406, .negSucc 84204010848, .negSucc 499643137014, .negSucc 2969445811968, .negSucc 17672548037766, .negSucc 105306321615648, .negSucc 628159510168854, .negSucc 3750429845811648, .negSucc 22409400210325926, .negSucc 133988328824103648, .negSucc 801580877399293494, .negSucc 4797704790533056128], [(.ofNat 0, .ofNat 1), (.negSucc 0, .ofNat 1), (.ofNat 0, .ofNat 1), (.ofNat 48, .ofNat 7), (.ofNat 0, .ofNat 1), (.negSucc 159, .ofNat 1), (.ofNat 0, .ofNat 1), (.ofNat 8176, .ofNat 1), (.ofNat 0, .ofNat 1), (.negSucc 5086655, .ofNat 7), (.ofNat 0, .ofNat 1), (.ofNat 99070928, .ofNat 1), (.ofNat 0, .ofNat 1), (.negSucc 19175657695, .ofNat 1), (.ofNat 0, .ofNat 1), (.ofNat 34983594079440, .ofNat 7), (.ofNat 0, .ofNat 1), (.negSucc 1687181167133823, .ofNat 1), (.ofNat 0, .ofNat 1), (.ofNat 716179171430814352, .ofNat 1), (.ofNat 0, .ofNat 1), (.negSucc 2613393093900057637343, .ofNat 7), (.ofNat 0, .ofNat 1), (.ofNat 234473304419544079405424, .ofNat 1), (.ofNat 0, .ofNat 1)]⟩
theorem row18_ok : okRow row18 = true := by decide +kernel
def row22 : Row := ⟨.ofNat 5, 5, [.ofNat 1, .negSucc 0, .negSucc 0, .ofNat 1, .ofNat 0], [.ofNat 0, .ofNat 1, .negSucc 0, .negSucc 0, .ofNat 1], [.ofNat 0, .ofNat 0, .ofNat 4, .ofNat 30, .ofNat 160, .ofNat 750, .ofNat 3304, .ofNat 14070, .ofNat 58720, .ofNat 241950, .ofNat 988504, .ofNat 4015110, .ofNat 16241680, .ofNat 65506350, .ofNat 263636104, .ofNat 1059360150, .ofNat 4251855040, .ofNat 17050597950, .ofNat 68331794104, .ofNat 273715121190, .ofNat 1096023794800, .ofNat 4387584060750, .ofNat 17560800790504, .ofNat 70274592610230, .ofNat 281192530396960], [(.ofNat 0, .ofNat 1), (.ofNat 0, .ofNat 1), (.ofNat 4, .ofNat 5), (.ofNat 0, .ofNat 1), (.negSucc 7, .ofNat 1), (.ofNat 0, .ofNat 1), (.ofNat 804, .ofNat 5), (.ofNat 0, .ofNat 1), (.negSucc 5775, .ofNat 1), (.ofNat 0, .ofNat 1), (.ofNat 1651004, .ofNat 5), (.ofNat 0, .ofNat 1), (.negSucc 27622103, .ofNat 1), (.ofNat 0, .ofNat 1), (.ofNat 15920571604, .ofNat 5), (.ofNat 0, .ofNat 1), (.negSucc 483949589791, .ofNat 1), (.ofNat 0, .ofNat 1), (.ofNat 468896302250604, .ofNat 5), (.ofNat 0, .ofNat 1), (.negSucc 22566900581985639, .ofNat 1), (.ofNat 0, .ofNat 1), (.ofNat 33011440685167168004, .ofNat 5), (.ofNat 0, .ofNat 1), (.negSucc 2307883601079395222447, .ofNat 1)]⟩
theorem row22_ok : okRow row22 = true := by decide +kernel
def row26 : Row := ⟨.ofNat 17, 17, [.ofNat 1, .ofNat 1, .negSucc 0, .ofNat 1, .negSucc 0, .negSucc 0, .negSucc 0, .ofNat 1, .ofNat 1, .negSucc 0, .negSucc 0, .negSucc 0, .ofNat 1, .negSucc 0, .ofNat 1, .ofNat 1, .ofNat 0], [.ofNat 0, .ofNat 1, .ofNat 1, .negSucc 0, .ofNat 1, .negSucc 0, .negSucc 0, .negSucc 0, .ofNat 1, .ofNat 1, .negSucc 0, .negSucc 0, .negSucc 0, .ofNat 1, .negSucc 0, .ofNat 1, .ofNat 1], [.ofNat 0, .ofNat 0, .ofNat 136, .ofNat 3468, .ofNat 67456, .ofNat 1196460, .ofNat 20324656, .ofNat 337023708, .ofNat 5505507136, .ofNat 89058057420, .ofNat 1431119876176, .ofNat 22893803148348, .ofNat 365105861576416, .ofNat 5810419628302380, .ofNat 92338733737210096, .ofNat 1466084750999519388, .ofNat 23263880004826823296, .ofNat 369027720248307923340, .ofNat 5852818040365875734416, .ofNat 92822702107903876824828, .ofNat 1472194918029077745695776, .ofNat 23352119853625282496472300, .ofNat 370473737388506072363097136, .ofNat 5878591773623232211455352668, .ofNat 93300613492800624859854801856], [(.ofNat 0, .ofNat 1), (.ofNat 0, .ofNat 1), (.ofNat 8, .ofNat 1), (.ofNat 0, .ofNat 1), (.negSucc 655, .ofNat 1), (.ofNat 0, .ofNat 1), (.ofNat 138984, .ofNat 1), (.ofNat 0, .ofNat 1), (.negSucc 958428703, .ofNat 17), (.ofNat 0, .ofNat 1), (.ofNat 37040430040, .ofNat 1), (.ofNat 0, .ofNat 1), (.negSucc 35766492971567, .ofNat 1), (.ofNat 0, .ofNat 1), (.ofNat 47643871703260616, .ofNat 1), (.ofNat 0, .ofNat 1), (.negSucc 83702146199513589823, .ofNat 1), (.ofNat 0, .ofNat 1), (.ofNat 187495636559443234781112, .ofNat 1), (.ofNat 0, .ofNat 1), (.negSucc 521568826538007283065075279, .ofNat 1), (.ofNat 0, .ofNat 1), (.ofNat 1763970822938630545763975829928, .ofNat 1), (.ofNat 0, .ofNat 1), (.negSucc 121176226696047566880554112875106911, .ofNat 17)]⟩
theorem row26_ok : okRow row26 = true := by decide +kernel
def row30 : Row := ⟨.ofNat 29, 29, [.ofNat 1, .negSucc 0, .negSucc 0, .ofNat 1, .ofNat 1, .ofNat 1, .ofNat 1, .negSucc 0, .ofNat 1, .negSucc 0, .negSucc 0, .negSucc 0, .ofNat 1, .negSucc 0, .negSucc 0, .ofNat 1, .negSucc 0, .negSucc 0, .negSucc 0, .ofNat 1, .negSucc 0, .ofNat 1, .ofNat 1, .ofNat 1, .ofNat 1, .negSucc 0, .negSucc 0, .ofNat 1, .ofNat 0], [.ofNat 0, .ofNat 1, .negSucc 0, .negSucc 0, .ofNat 1, .ofNat 1, .ofNat 1, .ofNat 1, .negSucc 0, .ofNat 1, .negSucc 0, .negSucc 0, .negSucc 0, .ofNat 1, .negSucc 0, .negSucc 0, .ofNat 1, .negSucc 0, .negSucc 0, .negSucc 0, .ofNat 1, .negSucc 0, .ofNat 1, .ofNat 1, .ofNat 1, .ofNat 1, .negSucc 0, .negSucc 0, .ofNat 1], [.ofNat 0, .ofNat 0, .ofNat 348, .ofNat 15138, .ofNat 476064, .ofNat 13296210, .ofNat 352630488, .ofNat 9145890138, .ofNat 235555161504, .ofNat 6078374234370, .ofNat 158014754218728, .ofNat 4152173231071338, .ofNat 110482204627192944, .ofNat 2978438522165709330, .ofNat 81319664499416326968, .ofNat 2246224195270367199738, .ofNat 62679150784700532696384, .ofNat 1763958606935795041389090, .ofNat 49983818703710852236547208, .ofNat 1423889286111269747620531338, .ofNat 40722782366894416419706327824, .ofNat 1167917153512468067626794361650, .ofNat 33557440528778741295999573791448, .ofNat 965248588270092405650656749402138, .ofNat 27778340818414358187723607640823264], [(.ofNat 0, .ofNat 1), (.ofNat 0, .ofNat 1), (.ofNat 12, .ofNat 1), (.ofNat 0, .ofNat 1), (.negSucc 3767, .ofNat 1), (.ofNat 0, .ofNat 1), (.ofNat 2541996, .ofNat 1), (.ofNat 0, .ofNat 1), (.negSucc 3071414255, .ofNat 1), (.ofNat 0, .ofNat 1), (.ofNat 5906689035060, .ofNat 1), (.ofNat 0, .ofNat 1), (.negSucc 16621824169730663, .ofNat 1), (.ofNat 0, .ofNat 1), (.ofNat 1869237835699515996876, .ofNat 29), (.ofNat 0, .ofNat 1), (.negSucc 329559644952828806196191, .ofNat 1), (.ofNat 0, .ofNat 1), (.ofNat 2148308718203794099581114948, .ofNat 1), (.ofNat 0, .ofNat 1), (.negSucc 17390729103460073022585354878039, .ofNat 1), (.ofNat 0, .ofNat 1), (.ofNat 171157658084442896066855022648663372, .ofNat 1), (.ofNat 0, .ofNat 1), (.negSucc 2012666184708753695569385611402314771407, .ofNat 1)]⟩
theorem row30_ok : okRow row30 = true := by decide +kernel
def row34 : Row := ⟨.ofNat 41, 41, [.ofNat 1, .ofNat 1, .negSucc 0, .ofNat 1, .ofNat 1, .negSucc 0, .negSucc 0, .ofNat 1, .ofNat 1, .ofNat 1, .negSucc 0, .negSucc 0, .negSucc 0, .negSucc 0, .negSucc 0, .ofNat 1, .negSucc 0, .ofNat 1, .negSucc 0, .ofNat 1, .ofNat 1, .negSucc 0, .ofNat 1, .negSucc 0, .ofNat 1, .negSucc 0, .negSucc 0, .negSucc 0, .negSucc 0, .negSucc 0, .ofNat 1, .ofNat 1, .ofNat 1, .negSucc 0, .negSucc 0, .ofNat 1, .ofNat 1, .negSucc 0, .ofNat 1, .ofNat 1, .ofNat 0], [.ofNat 0, .ofNat 1, .ofNat 1, .negSucc 0, .ofNat 1, .ofNat 1, .negSucc 0, .negSucc 0, .ofNat 1, .ofNat 1, .ofNat 1, .negSucc 0, .negSucc 0, .negSucc 0, .negSucc 0, .negSucc 0, .ofNat 1, .negSucc 0, .ofNat 1, .negSucc 0, .ofNat 1, .ofNat 1, .negSucc 0, .ofNat 1, .negSucc 0, .ofNat 1, .negSucc 0, .negSucc 0, .negSucc 0, .negSucc 0, .negSucc 0, .ofNat 1, .ofNat 1, .ofNat 1, .negSucc 0, .negSucc 0, .ofNat 1, .ofNat 1, .negSucc 0, .ofNat 1, .ofNat 1], [.ofNat 0, .ofNat 0, .ofNat 1312, .ofNat 80688, .ofNat 3823168, .ofNat 165813840, .ofNat 6904119232, .ofNat 281181219648, .ofNat 11302523692288, .ofNat 450680203657200, .ofNat 17881622942239552, .ofNat 707378557780005408, .ofNat 27936221720969012608, .ofNat 1102364433837218020560, .ofNat 43487653578229084967872, .ofNat 1715710621889412959443968, .ofNat 67710227726765235608048128, .ofNat 2673325750818448778734591920, .ofNat 105600450938455503174180400192, .ofNat 4173570593121731669070687119328, .ofNat 165036060286820298519179828702848, .ofNat 6529402264887156311836599075419280, .ofNat 258453323092552774084411784054072512, .ofNat 10235135983283905749244017105392215488, .ofNat 405504645027588042907804850329480960768], [(.ofNat 0, .ofNat 1), (.ofNat 0, .ofNat 1), (.ofNat 32, .ofNat 1), (.ofNat 0, .ofNat 1), (.negSucc 14335, .ofNat 1), (.ofNat 0, .ofNat 1), (.ofNat 17614176, .ofNat 1), (.ofNat 0, .ofNat 1), (.negSucc 41555176191, .ofNat 1), (.ofNat 0, .ofNat 1), (.ofNat 158802741230560, .ofNat 1), (.ofNat 0, .ofNat 1), (.negSucc 891924550427021567, .ofNat 1), (.ofNat 0, .ofNat 1), (.ofNat 6910805556207296016224, .ofNat 1), (.ofNat 0, .ofNat 1), (.negSucc 70620061533489414080766463, .ofNat 1), (.ofNat 0, .ofNat 1), (.ofNat 920137082659999539541963750368, .ofNat 1), (.ofNat 0, .ofNat 1), (.negSucc 610417143434035458804470173810542079, .ofNat 41), (.ofNat 0, .ofNat 1), (.ofNat 292881882439912601604140904124463524192, .ofNat 1), (.ofNat 0, .ofNat 1), (.negSucc 6883978163305809477508231480502942991426815, .ofNat 1)]⟩
theorem row34_ok : okRow row34 = true := by decide +kernel
def row38 : Row := ⟨.ofNat 57, 57, [.ofNat 1, .ofNat 1, .ofNat 0, .ofNat 1, .negSucc 0, .ofNat 0, .ofNat 1, .ofNat 1, .ofNat 0, .negSucc 0, .negSucc 0, .ofNat 0, .negSucc 0, .ofNat 1, .ofNat 0, .ofNat 1, .negSucc 0, .ofNat 0, .ofNat 0, .negSucc 0, .ofNat 0, .negSucc 0, .negSucc 0, .ofNat 0, .ofNat 1, .negSucc 0, .ofNat 0, .ofNat 1, .ofNat 1, .ofNat 0, .negSucc 0, .ofNat 1, .ofNat 0, .negSucc 0, .negSucc 0, .ofNat 0, .negSucc 0, .ofNat 0, .ofNat 0, .negSucc 0, .ofNat 1, .ofNat 0, .ofNat 1, .negSucc 0, .ofNat 0, .negSucc 0, .negSucc 0, .ofNat 0, .ofNat 1, .ofNat 1, .ofNat 0, .negSucc 0, .ofNat 1, .ofNat 0, .ofNat 1, .ofNat 1, .ofNat 0], [.ofNat 0, .ofNat 1, .ofNat 1, .ofNat 0, .ofNat 1, .negSucc 0, .ofNat 0, .ofNat 1, .ofNat 1, .ofNat 0, .negSucc 0, .negSucc 0, .ofNat 0, .negSucc 0, .ofNat 1, .ofNat 0, .ofNat 1, .negSucc 0, .ofNat 0, .ofNat 0, .negSucc 0, .ofNat 0, .negSucc 0, .negSucc 0, .ofNat 0, .ofNat 1, .negSucc 0, .ofNat 0, .ofNat 1, .ofNat 1, .ofNat 0, .negSucc 0, .ofNat 1, .ofNat 0, .negSucc 0, .negSucc 0, .ofNat 0, .negSucc 0, .ofNat 0, .ofNat 0, .negSucc 0, .ofNat 1, .ofNat 0, .ofNat 1, .negSucc 0, .ofNat 0, .negSucc 0, .negSucc 0, .ofNat 0, .ofNat 1, .ofNat 1, .ofNat 0, .negSucc 0, .ofNat 1, .ofNat 0, .ofNat 1, .ofNat 1], [.ofNat 0, .ofNat 0, .ofNat 3192, .ofNat 272916, .ofNat 18126912, .ofNat 1105244820, .ofNat 64764203472, .ofNat 3713218952436, .ofNat 210116226247872, .ofNat 11790478164667860, .ofNat 657979513261547952, .ofNat 36584555997860050356, .ofNat 2029153399730249785632, .ofNat 112362735235511608766100, .ofNat 6215393456949295847234832, .ofNat 343580523714211592950082676, .ofNat 18985677251894680921188984192, .ofNat 1048938567596201141496609651540, .ofNat 57951433317760738370940534080112, .ofNat 3201948123237504486989289082521396, .ofNat 176942897747709425320428866937027552, .ofNat 9780112534770292214929868856698076180, .ofNat 540707547736074981008768042523123939792, .ofNat 29901950017792580266544646387313086678516, .ofNat 1654099748601077253645144259172312567579712], [(.ofNat 0, .ofNat 1), (.ofNat 0, .ofNat 1), (.ofNat 56, .ofNat 1), (.ofNat 0, .ofNat 1), (.negSucc 45871, .ofNat 1), (.ofNat 0, .ofNat 1), (.ofNat 107996568, .ofNat 1), (.ofNat 0, .ofNat 1), (.negSucc 491894238303, .ofNat 1), (.ofNat 0, .ofNat 1), (.ofNat 3632701839435880, .ofNat 1), (.ofNat 0, .ofNat 1), (.negSucc 39434416566341857295, .ofNat 1), (.ofNat 0, .ofNat 1), (.ofNat 590550783812734419446072, .ofNat 1), (.ofNat 0, .ofNat 1), (.negSucc 11663760287668170163493190847, .ofNat 1), (.ofNat 0, .ofNat 1), (.ofNat 293727775643483163262942266055944, .ofNat 1), (.ofNat 0, .ofNat 1), (.negSucc 9185807609381351253206561649497614959, .ofNat 1), (.ofNat 0, .ofNat 1), (.ofNat 349260108609931041477716609273690902670296, .ofNat 1), (.ofNat 0, .ofNat 1), (.negSucc 15866383945228754483677694800090643725880377631, .ofNat 1)]⟩
theorem row38_ok : okRow row38 = true := by decide +kernel
end Ft

namespace Ft
def row3 : Row := ⟨.negSucc 51, 52, [.ofNat 1, .ofNat 0, .negSucc 0, .ofNat 0, .negSucc 0, .ofNat 0, .ofNat 1, .ofNat 0, .ofNat 1, .ofNat 0, .ofNat 1, .ofNat 0, .ofNat 0, .ofNat 0, .ofNat 1, .ofNat 0, .ofNat 1, .ofNat 0, .ofNat 1, .ofNat 0, .negSucc 0, .ofNat 0, .negSucc 0, .ofNat 0, .ofNat 1, .ofNat 0, .negSucc 0, .ofNat 0, .ofNat 1, .ofNat 0, .ofNat 1, .ofNat 0, .negSucc 0, .ofNat 0, .negSucc 0, .ofNat 0, .negSucc 0, .ofNat 0, .ofNat 0, .ofNat 0, .negSucc 0, .ofNat 0, .negSucc 0, .ofNat 0, .negSucc 0, .ofNat 0, .ofNat 1, .ofNat 0, .ofNat 1, .ofNat 0, .negSucc 0, .ofNat 0], [.ofNat 0, .ofNat 1, .ofNat 0, .negSucc 0, .ofNat 0, .negSucc 0, .ofNat 0, .ofNat 1, .ofNat 0, .ofNat 1, .ofNat 0, .ofNat 1, .ofNat 0, .ofNat 0, .ofNat 0, .ofNat 1, .ofNat 0, .ofNat 1, .ofNat 0, .ofNat 1, .ofNat 0, .negSucc 0, .ofNat 0, .negSucc 0, .ofNat 0, .ofNat 1, .ofNat 0, .negSucc 0, .ofNat 0, .ofNat 1, .ofNat 0, .ofNat 1, .ofNat 0, .negSucc 0, .ofNat 0, .negSucc 0, .ofNat 0, .negSucc 0, .ofNat 0, .ofNat 0, .ofNat 0, .negSucc 0, .ofNat 0, .negSucc 0, .ofNat 0, .negSucc 0, .ofNat 0, .ofNat 1, .ofNat 0, .ofNat 1, .ofNat 0, .negSucc 0], [.ofNat 0, .negSucc 103, .negSucc 5407, .negSucc 234103, .negSucc 9723583, .negSucc 402673543, .negSucc 16856254687, .negSucc 717996617623, .negSucc 31248794754943, .negSucc 1393442215963303, .negSucc 63754047709777567, .negSucc 2992802554455439543, .negSucc 143937690325038768703, .negSucc 7074218433795193131463, .negSucc 354135288520293009393247, .negSucc 17993935012838890324667863, .negSucc 924893675147349597710468863, .negSucc 47948426462466367183003682023, .negSucc 2500880879844258582355063197727, .negSucc 130973085371819966544850268622583, .negSucc 6876557743041183490033475847679423, .negSucc 361538734519003404580461483255038983, .negSucc 19017844231580272424279806696631127007, .negSucc 1000282435414762131484321996071832263703, .negSucc 52583645777722957044572150087125531424383], [(.ofNat 0, .ofNat 1), (.negSucc 1, .ofNat 1), (.ofNat 0, .ofNat 1), (.ofNat 906, .ofNat 1), (.ofNat 0, .ofNat 1), (.negSucc 1286569, .ofNat 1), (.ofNat 0, .ofNat 1), (.ofNat 3715520354, .ofNat 1), (.ofNat 0, .ofNat 1), (.negSucc 18330755254865, .ofNat 1), (.ofNat 0, .ofNat 1), (.ofNat 138114669861371962, .ofNat 1), (.ofNat 0, .ofNat 1), (.negSucc 1475752562763067867641, .ofNat 1), (.ofNat 0, .ofNat 1), (.ofNat 21226580343124927647462930, .ofNat 1), (.ofNat 0, .ofNat 1), (.negSucc 395453947710855078800684404897, .ofNat 1), (.ofNat 0, .ofNat 1), (.ofNat 9263369228708637641382766772302058, .ofNat 1), (.ofNat 0, .ofNat 1), (.negSucc 266480366035364384970116314669361282633, .ofNat 1), (.ofNat 0, .ofNat 1), (.ofNat 9235548294344777460489946837509572320766146, .ofNat 1), (.ofNat 0, .ofNat 1)]⟩
theorem row3_ok : okRow row3 = true := by decide +kernel
def row7 : Row := ⟨.negSucc 39, 40, [.ofNat 1, .ofNat 0, .negSucc 0, .ofNat 0, .ofNat 0, .ofNat 0, .ofNat 1, .ofNat 0, .ofNat 1, .ofNat 0, .ofNat 1, .ofNat 0, .ofNat 1, .ofNat 0, .ofNat 0, .ofNat 0, .negSucc 0, .ofNat 0, .ofNat 1, .ofNat 0, .negSucc 0, .ofNat 0, .ofNat 1, .ofNat 0, .ofNat 0, .ofNat 0, .negSucc 0, .ofNat 0, .negSucc 0, .ofNat 0, .negSucc 0, .ofNat 0, .negSucc 0, .ofNat 0, .ofNat 0, .ofNat 0, .ofNat 1, .ofNat 0, .negSucc 0, .ofNat 0], [.ofNat 0, .ofNat 1, .ofNat 0, .negSucc 0, .ofNat 0, .ofNat 0, .ofNat 0, .ofNat 1, .ofNat 0, .ofNat 1, .ofNat 0, .ofNat 1, .ofNat 0, .ofNat 1, .ofNat 0, .ofNat 0, .ofNat 0, .negSucc 0, .ofNat 0, .ofNat 1, .ofNat 0, .negSucc 0, .ofNat 0, .ofNat 1, .ofNat 0, .ofNat 0, .ofNat 0, .negSucc 0, .ofNat 0, .negSucc 0, .ofNat 0, .negSucc 0, .ofNat 0, .negSucc 0, .ofNat 0, .ofNat 0, .ofNat 0, .ofNat 1, .ofNat 0, .negSucc 0], [.ofNat 0, .negSucc 79, .negSucc 3199, .negSucc 109039, .negSucc 3603199, .negSucc 119488399, .negSucc 4021807999, .negSucc 137965306159, .negSucc 4829930585599, .negSucc 172526108749519, .negSucc 6280598082703999, .negSucc 232581507835168879, .negSucc 8741851144594131199, .negSucc 332700556082071719439, .negSucc 12791556851016172323199, .negSucc 495792172369542111969199, .negSucc 19336969914824455055743999, .negSucc 757746980726464261745614159, .negSucc 29796458014667624149649897599, .negSucc 1174565343042643431036610619119, .negSucc 46379166533678486156046129247999, .negSucc 1833328206588077705833622088129679, .negSucc 72515280415092456648984514988259199, .negSucc 2869066744149376394590223234413870639, .negSucc 113517263560152530890931876100476787199], [(.ofNat 0, .ofNat 1), (.negSucc 1, .ofNat 1), (.ofNat 0, .ofNat 1), (.ofNat 474, .ofNat 1), (.ofNat 0, .ofNat 1), (.negSucc 395209, .ofNat 1), (.ofNat 0, .ofNat 1), (.ofNat 675139346, .ofNat 1), (.ofNat 0, .ofNat 1), (.negSucc 1970888641937, .ofNat 1), (.ofNat 0, .ofNat 1), (.ofNat 8786878460808778, .ofNat 1), (.ofNat 0, .ofNat 1), (.negSucc 55554806926841917785, .ofNat 1), (.ofNat 0, .ofNat 1), (.ofNat 472826082378870394576770, .ofNat 1), (.ofNat 0, .ofNat 1), (.negSucc 5212314380499684345587864353, .ofNat 1), (.ofNat 0, .ofNat 1), (.ofNat 72246524093876766202667383579322, .ofNat 1), (.ofNat 0, .ofNat 1), (.negSucc 1229777361260217506555275508026987241, .ofNat 1), (.ofNat 0, .ofNat 1), (.ofNat 25219545568892938145604274267431638120434, .ofNat 1), (.ofNat 0, .ofNat 1)]⟩
theorem row7_ok : okRow row7 = true := by decide +kernel
def row11 : Row := ⟨.negSucc 23, 24, [.ofNat 1, .ofNat 0, .ofNat 0, .ofNat 0, .ofNat 1, .ofNat 0, .ofNat 1, .ofNat 0, .ofNat 0, .ofNat 0, .ofNat 1, .ofNat 0, .negSucc 0, .ofNat 0, .ofNat 0, .ofNat 0, .negSucc 0, .ofNat 0, .negSucc 0, .ofNat 0, .ofNat 0, .ofNat 0, .negSucc 0, .ofNat 0], [.ofNat 0, .ofNat 1, .ofNat 0, .ofNat 0, .ofNat 0, .ofNat 1, .ofNat 0, .ofNat 1, .ofNat 0, .ofNat 0, .ofNat 0, .ofNat 1, .ofNat 0, .negSucc 0, .ofNat 0, .ofNat 0, .ofNat 0, .negSucc 0, .ofNat 0, .negSucc 0, .ofNat 0, .ofNat 0, .ofNat 0, .negSucc 0], [.ofNat 0, .negSucc 47, .negSucc 1151, .negSucc 24335, .negSucc 504575, .negSucc 10522607, .negSucc 222141311, .negSucc 4751395535, .negSucc 102865522175, .negSucc 2250632480687, .negSucc 49685200198271, .negSucc 1105076735688335, .negSucc 24730707159634175, .negSucc 556262177716365167, .negSucc 12563777779106562431, .negSucc 284725789412541446735, .negSucc 6470332454618087832575, .negSucc 147365811415831536480047, .negSucc 3362448238502637421809791, .negSucc 76834363768718133835742735, .negSucc 1757828368332672188149829375, .negSucc 40255125214021974316795289327, .negSucc 922594108502907777554486036351, .negSucc 21158306055141868775015776848335, .negSucc 485489508549623493239401891416575], [(.ofNat 0, .ofNat 1), (.negSucc 1, .ofNat 1), (.ofNat 0, .ofNat 1), (.ofNat 138, .ofNat 1), (.ofNat 0, .ofNat 1), (.negSucc 39849, .ofNat 1), (.ofNat 0, .ofNat 1), (.ofNat 24410722, .ofNat 1), (.ofNat 0, .ofNat 1), (.negSucc 25643069009, .ofNat 1), (.ofNat 0, .ofNat 1), (.ofNat 41155246651706, .ofNat 1), (.ofNat 0, .ofNat 1), (.negSucc 93672593609179129, .ofNat 1), (.ofNat 0, .ofNat 1), (.ofNat 287008385885508924690, .ofNat 1), (.ofNat 0, .ofNat 1), (.negSucc 1139006590453298870376609, .ofNat 1), (.ofNat 0, .ofNat 1), (.ofNat 5683489863117703629482026474, .ofNat 1), (.ofNat 0, .ofNat 1), (.negSucc 34827887010689235548462290763849, .ofNat 1), (.ofNat 0, .ofNat 1), (.ofNat 257122682532924676816208278498001858, .ofNat 1), (.ofNat 0, .ofNat 1)]⟩
theorem row11_ok : okRow row11 = true := by decide +kernel
def row15 : Row := ⟨.negSucc 14, 15, [.ofNat 1, .ofNat 1, .ofNat 0, .ofNat 1, .ofNat 0, .ofNat 0, .negSucc 0, .ofNat 1, .ofNat 0, .ofNat 0, .negSucc 0, .ofNat 0, .negSucc 0, .negSucc 0, .ofNat 0], [.ofNat 0, .ofNat 1, .ofNat 1, .ofNat 0, .ofNat 1, .ofNat 0, .ofNat 0, .negSucc 0, .ofNat 1, .ofNat 0, .ofNat 0, .negSucc 0, .ofNat 0, .negSucc 0, .negSucc 0], [.ofNat 0, .negSucc 29, .negSucc 449, .negSucc 6029, .negSucc 79649, .negSucc 1053149, .negSucc 13979249, .negSucc 186359069, .negSucc 2494800449, .negSucc 33529367069, .negSucc 452258255249, .negSucc 6120420430109, .negSucc 83075530903649, .negSucc 1130659658069789, .negSucc 15425412952950449, .negSucc 210900798856965149, .negSucc 2889071430514949249, .negSucc 39645190490732129309, .negSucc 544877792422455056849, .negSucc 7499250623205006140189, .negSucc 103344896064760339097249, .negSucc 1425811690141124954553629, .negSucc 19692149813524677526686449, .negSucc 272234465616516461844211229, .negSucc 3766845672682386096545107649], [(.ofNat 0, .ofNat 1), (.negSucc 1, .ofNat 1), (.ofNat 0, .ofNat 1), (.ofNat 48, .ofNat 1), (.ofNat 0, .ofNat 1), (.negSucc 4959, .ofNat 1), (.ofNat 0, .ofNat 1), (.ofNat 1159312, .ofNat 1), (.ofNat 0, .ofNat 1), (.negSucc 472932287, .ofNat 1), (.ofNat 0, .ofNat 1), (.ofNat 296058470576, .ofNat 1), (.ofNat 0, .ofNat 1), (.negSucc 263127221186335, .ofNat 1), (.ofNat 0, .ofNat 1), (.ofNat 314896687039116240, .ofNat 1), (.ofNat 0, .ofNat 1), (.negSucc 488146114235808248703, .ofNat 1), (.ofNat 0, .ofNat 1), (.ofNat 951472496445124399070704, .ofNat 1), (.ofNat 0, .ofNat 1), (.negSucc 2277548791136300486593696991, .ofNat 1), (.ofNat 0, .ofNat 1), (.ofNat 6568116273984420956923560900368, .ofNat 1), (.ofNat 0, .ofNat 1)]⟩
theorem row15_ok : okRow row15 = true := by decide +kernel
def row19 : Row := ⟨.negSucc 3, 4, [.ofNat 1, .ofNat 0, .negSucc 0, .ofNat 0], [.ofNat 0, .ofNat 1, .ofNat 0, .negSucc 0], [.ofNat 0, .negSucc 1, .negSucc 7, .negSucc 25, .negSucc 79, .negSucc 241, .negSucc 727, .negSucc 2185, .negSucc 6559, .negSucc 19681, .negSucc 59047, .negSucc 177145, .negSucc 531439, .negSucc 1594321, .negSucc 4782967, .negSucc 14348905, .negSucc 43046719, .negSucc 129140161, .negSucc 387420487, .negSucc 1162261465, .negSucc 3486784399, .negSucc 10460353201, .negSucc 31381059607, .negSucc 94143178825, .negSucc 282429536479], [(.ofNat 0, .ofNat 1), (.negSucc 0, .ofNat 2), (.ofNat 0, .ofNat 1), (.ofNat 3, .ofNat 2), (.ofNat 0, .ofNat 1), (.negSucc 24, .ofNat 2), (.ofNat 0, .ofNat 1), (.ofNat 427, .ofNat 2), (.ofNat 0, .ofNat 1), (.negSucc 12464, .ofNat 2), (.ofNat 0, .ofNat 1), (.ofNat 555731, .ofNat 2), (.ofNat 0, .ofNat 1), (.negSucc 35135944, .ofNat 2), (.ofNat 0, .ofNat 1), (.ofNat 2990414715, .ofNat 2), (.ofNat 0, .ofNat 1), (.negSucc 329655706464, .ofNat 2), (.ofNat 0, .ofNat 1), (.ofNat 45692713833379, .ofNat 2), (.ofNat 0, .ofNat 1), (.negSucc 7777794952988024, .ofNat 2), (.ofNat 0, .ofNat 1), (.ofNat 1595024111042171723, .ofNat 2), (.ofNat 0, .ofNat 1)]⟩
theorem row19_ok : okRow row19 = true := by decide +kernel
def row23 : Row := ⟨.ofNat 8, 8, [.ofNat 1, .ofNat 0, .negSucc 0, .ofNat 0, .negSucc 0, .ofNat 0, .ofNat 1, .ofNat 0], [.ofNat 0, .ofNat 1, .ofNat 0, .negSucc 0, .ofNat 0, .negSucc 0, .ofNat 0, .ofNat 1], [.ofNat 0, .ofNat 0, .ofNat 16, .ofNat 192, .ofNat 1696, .ofNat 13440, .ofNat 101296, .ofNat 743232, .ofNat 5367616, .ofNat 38380800, .ofNat 272650576, .ofNat 1928321472, .ofNat 13596615136, .ofNat 95666712960, .ofNat 672114774256, .ofNat 4717029582912, .ofNat 33080299632256, .ofNat 231867445393920, .ofNat 1624598513224336, .ofNat 11379820536783552, .ofNat 79696895379186976, .ofNat 558069016464727680, .ofNat 3907436831410912816, .ofNat 27356826316982659392, .ofNat 191521626453361487296], [(.ofNat 0, .ofNat 1), (.ofNat 0, .ofNat 1), (.ofNat 2, .ofNat 1), (.ofNat 0, .ofNat 1), (.negSucc 43, .ofNat 1), (.ofNat 0, .ofNat 1), (.ofNat 2166, .ofNat 1), (.ofNat 0, .ofNat 1), (.negSucc 196887, .ofNat 1), (.ofNat 0, .ofNat 1), (.ofNat 28730410, .ofNat 1), (.ofNat 0, .ofNat 1), (.negSucc 6148123331, .ofNat 1), (.ofNat 0, .ofNat 1), (.ofNat 1813990148894, .ofNat 1), (.ofNat 0, .ofNat 1), (.negSucc 705775346640175, .ofNat 1), (.ofNat 0, .ofNat 1), (.ofNat 350112935442888018, .ofNat 1), (.ofNat 0, .ofNat 1), (.negSucc 215681051222514096219, .ofNat 1), (.ofNat 0, .ofNat 1), (.ofNat 161537815119247080938182, .ofNat 1), (.ofNat 0, .ofNat 1), (.negSucc 144555133640020128085896263, .ofNat 1)]⟩
theorem row23_ok : okRow row23 = true := by decide +kernel
def row27 : Row := ⟨.ofNat 21, 21, [.ofNat 1, .negSucc 0, .ofNat 0, .ofNat 1, .ofNat 1, .ofNat 0, .ofNat 0, .negSucc 0, .ofNat 0, .negSucc 0, .negSucc 0, .ofNat 0, .negSucc 0, .ofNat 0, .ofNat 0, .ofNat 1, .ofNat 1, .ofNat 0, .negSucc 0, .ofNat 1, .ofNat 0], [.ofNat 0, .ofNat 1, .negSucc 0, .ofNat 0, .ofNat 1, .ofNat 1, .ofNat 0, .ofNat 0, .negSucc 0, .ofNat 0, .negSucc 0, .negSucc 0, .ofNat 0, .negSucc 0, .ofNat 0, .ofNat 0, .ofNat 1, .ofNat 1, .ofNat 0, .negSucc 0, .ofNat 1], [.ofNat 0, .ofNat 0, .ofNat 168, .ofNat 5292, .ofNat 122304, .ofNat 2531340, .ofNat 50028048, .ofNat 970663932, .ofNat 18740750784, .ofNat 362525205420, .ofNat 7049580425328, .ofNat 137987814474972, .ofNat 2719277322812064, .ofNat 53927247911273100, .ofNat 1075407216920585808, .ofNat 21545819232277556412, .ofNat 433304874724614582144, .ofNat 8739943195313312278380, .ofNat 176683067302245586045488, .ofNat 3577557420274088486340252, .ofNat 72521004902121392479677024, .ofNat 1471121777331561083797405260, .ofNat 29853804152756486408165860368, .ofNat 605907751186752830239175418492, .ofNat 12296576247642672649646976592704], [(.ofNat 0, .ofNat 1), (.ofNat 0, .ofNat 1), (.ofNat 8, .ofNat 1), (.ofNat 0, .ofNat 1), (.negSucc 1231, .ofNat 1), (.ofNat 0, .ofNat 1), (.ofNat 431304, .ofNat 1), (.ofNat 0, .ofNat 1), (.negSucc 272938143, .ofNat 1), (.ofNat 0, .ofNat 1), (.ofNat 275203390840, .ofNat 1), (.ofNat 0, .ofNat 1), (.negSucc 406091981949935, .ofNat 1), (.ofNat 0, .ofNat 1), (.ofNat 825760611387195176, .ofNat 1), (.ofNat 0, .ofNat 1), (.negSucc 2213931285096656191807, .ofNat 1), (.ofNat 0, .ofNat 1), (.ofNat 7567795478231718271197912, .ofNat 1), (.ofNat 0, .ofNat 1), (.negSucc 32124256025894098502363554959, .ofNat 1), (.ofNat 0, .ofNat 1), (.ofNat 165788429470789114369414281664648, .ofNat 1), (.ofNat 0, .ofNat 1), (.negSucc 1022285558251156297106427262086362591, .ofNat 1)]⟩
theorem row27_ok : okRow row27 = true := by decide +kernel
def row31 : Row := ⟨.ofNat 33, 33, [.ofNat 1, .ofNat 1, .ofNat 0, .ofNat 1, .negSucc 0, .ofNat 0, .negSucc 0, .ofNat 1, .ofNat 0, .negSucc 0, .ofNat 0, .ofNat 0, .negSucc 0, .negSucc 0, .ofNat 0, .ofNat 1, .ofNat 1, .ofNat 0, .negSucc 0, .negSucc 0, .ofNat 0, .ofNat 0, .negSucc 0, .ofNat 0, .ofNat 1, .negSucc 0, .ofNat 0, .negSucc 0, .ofNat 1, .ofNat 0, .ofNat 1, .ofNat 1, .ofNat 0], [.ofNat 0, .ofNat 1, .ofNat 1, .ofNat 0, .ofNat 1, .negSucc 0, .ofNat 0, .negSucc 0, .ofNat 1, .ofNat 0, .negSucc 0, .ofNat 0, .ofNat 0, .negSucc 0, .negSucc 0, .ofNat 0, .ofNat 1, .ofNat 1, .ofNat 0, .negSucc 0, .negSucc 0, .ofNat 0, .ofNat 0, .negSucc 0, .ofNat 0, .ofNat 1, .negSucc 0, .ofNat 0, .negSucc 0, .ofNat 1, .ofNat 0, .ofNat 1, .ofNat 1], [.ofNat 0, .ofNat 0, .ofNat 792, .ofNat 39204, .ofNat 1501632, .ofNat 52729380, .ofNat 1778013072, .ofNat 58624132644, .ofNat 1906603250112, .ofNat 61457171480100, .ofNat 1969120593875952, .ofNat 62829944425582884, .ofNat 1998915715141548192, .ofNat 63463807675600752420, .ofNat 2011972643806439354832, .ofNat 63719013737972039205924, .ofNat 2016523229546292446719872, .ofNat 63786023755807967467490340, .ofNat 2017027441192620062627297712, .ofNat 63770501300796565665705001764, .ofNat 2016016545700405838581629229152, .ofNat 63733703494141002954998339437860, .ofNat 2014986070289747055326225196872592, .ofNat 63712401741672089852283233151610404, .ofNat 2014844751009306600474682941566260032], [(.ofNat 0, .ofNat 1), (.ofNat 0, .ofNat 1), (.ofNat 24, .ofNat 1), (.ofNat 0, .ofNat 1), (.negSucc 6767, .ofNat 1), (.ofNat 0, .ofNat 1), (.ofNat 5344632, .ofNat 1), (.ofNat 0, .ofNat 1), (.negSucc 8159522015, .ofNat 1), (.ofNat 0, .ofNat 1), (.ofNat 20197659699720, .ofNat 1), (.ofNat 0, .ofNat 1), (.negSucc 73489431556065743, .ofNat 1), (.ofNat 0, .ofNat 1), (.ofNat 368879811291242400408, .ofNat 1), (.ofNat 0, .ofNat 1), (.negSucc 2441992864913334149141951, .ofNat 1), (.ofNat 0, .ofNat 1), (.ofNat 20612420330110566504345798696, .ofNat 1), (.ofNat 0, .ofNat 1), (.negSucc 216062544918195404293850426558639, .ofNat 1), (.ofNat 0, .ofNat 1), (.ofNat 2753526719629557921482585413020838584, .ofNat 1), (.ofNat 0, .ofNat 1), (.negSucc 41927255811742689326559550224891221723807, .ofNat 1)]⟩
theorem row31_ok : okRow row31 = true := by decide +kernel
def row35 : Row := ⟨.ofNat 44, 44, [.ofNat 1, .ofNat 0, .negSucc 0, .ofNat 0, .ofNat 1, .ofNat 0, .ofNat 1, .ofNat 0, .ofNat 1, .ofNat 0, .ofNat 0, .ofNat 0, .negSucc 0, .ofNat 0, .negSucc 0, .ofNat 0, .negSucc 0, .ofNat 0, .ofNat 1, .ofNat 0, .negSucc 0, .ofNat 0, .negSucc 0, .ofNat 0, .ofNat 1, .ofNat 0, .negSucc 0, .ofNat 0, .negSucc 0, .ofNat 0, .negSucc 0, .ofNat 0, .ofNat 0, .ofNat 0, .ofNat 1, .ofNat 0, .ofNat 1, .ofNat 0, .ofNat 1, .ofNat 0, .negSucc 0, .ofNat 0, .ofNat 1, .ofNat 0], [.ofNat 0, .ofNat 1, .ofNat 0, .negSucc 0, .ofNat 0, .ofNat 1, .ofNat 0, .ofNat 1, .ofNat 0, .ofNat 1, .ofNat 0, .ofNat 0, .ofNat 0, .negSucc 0, .ofNat 0, .negSucc 0, .ofNat 0, .negSucc 0, .ofNat 0, .ofNat 1, .ofNat 0, .negSucc 0, .ofNat 0, .negSucc 0, .ofNat 0, .ofNat 1, .ofNat 0, .negSucc 0, .ofNat 0, .negSucc 0, .ofNat 0, .negSucc 0, .ofNat 0, .ofNat 0, .ofNat 0, .ofNat 1, .ofNat 0, .ofNat 1, .ofNat 0, .ofNat 1, .ofNat 0, .negSucc 0, .ofNat 0, .ofNat 1], [.ofNat 0, .ofNat 0, .ofNat 1232, .ofNat 81312, .ofNat 4012448, .ofNat 179002560, .ofNat 7641940592, .ofNat 319496883552, .ofNat 13227204592448, .ofNat 545518797774720, .ofNat 22490799543771152, .ofNat 928892185387221792, .ofNat 38480110601683713248, .ofNat 1600014491724336367680, .ofNat 66799178273536458030512, .ofNat 2800323648021738085048032, .ofNat 117865969023091273903326848, .ofNat 4979824470794043931498141440, .ofNat 211132994784035571361334606672, .ofNat 8979851141051014626111582298272, .ofNat 383002620704785840523749527945248, .ofNat 16375865458489872285356164423896000, .ofNat 701671458110766123157431633207867632, .ofNat 30120174874862846334091802368590268512, .ofNat 1294953254185772563611696989601998080448], [(.ofNat 0, .ofNat 1), (.ofNat 0, .ofNat 1), (.ofNat 28, .ofNat 1), (.ofNat 0, .ofNat 1), (.negSucc 17223, .ofNat 1), (.ofNat 0, .ofNat 1), (.ofNat 25568724, .ofNat 1), (.ofNat 0, .ofNat 1), (.negSucc 70297785487, .ofNat 1), (.ofNat 0, .ofNat 1), (.ofNat 310304063520140, .ofNat 1), (.ofNat 0, .ofNat 1), (.negSucc 2008692711067743191, .ofNat 1), (.ofNat 0, .ofNat 1), (.ofNat 17927974778565066983236, .ofNat 1), (.ofNat 0, .ofNat 1), (.negSucc 211002777045608793296232735, .ofNat 1), (.ofNat 0, .ofNat 1), (.ofNat 3166323052747391262202777551612, .ofNat 1), (.ofNat 0, .ofNat 1), (.negSucc 59004405195106649104901804193340519, .ofNat 1), (.ofNat 0, .ofNat 1), (.ofNat 1336817212123975543589824186190419570868, .ofNat 1), (.ofNat 0, .ofNat 1), (.negSucc 36187345148244624563499933082252543336768943, .ofNat 1)]⟩
theorem row35_ok : okRow row35 = true := by decide +kernel
def row39 : Row := ⟨.ofNat 60, 60, [.ofNat 1, .ofNat 0, .ofNat 0, .ofNat 0, .ofNat 0, .ofNat 0, .ofNat 1, .ofNat 0, .ofNat 0, .ofNat 0, .ofNat 1, .ofNat 0, .negSucc 0, .ofNat 0, .ofNat 0, .ofNat 0, .ofNat 1, .ofNat 0, .negSucc 0, .ofNat 0, .ofNat 0, .ofNat 0, .negSucc 0, .ofNat 0, .ofNat 0, .ofNat 0, .ofNat 0, .ofNat 0, .negSucc 0, .ofNat 0, .negSucc 0, .ofNat 0, .ofNat 0, .ofNat 0, .ofNat 0, .ofNat 0, .negSucc 0, .ofNat 0, .ofNat 0, .ofNat 0, .negSucc 0, .ofNat 0, .ofNat 1, .ofNat 0, .ofNat 0, .ofNat 0, .negSucc 0, .ofNat 0, .ofNat 1, .ofNat 0, .ofNat 0, .ofNat 0, .ofNat 1, .ofNat 0, .ofNat 0, .ofNat 0, .ofNat 0, .ofNat 0, .ofNat 1, .ofNat 0], [.ofNat 0, .ofNat 1, .ofNat 0, .ofNat 0, .ofNat 0, .ofNat 0, .ofNat 0, .ofNat 1, .ofNat 0, .ofNat 0, .ofNat 0, .ofNat 1, .ofNat 0, .negSucc 0, .ofNat 0, .ofNat 0, .ofNat 0, .ofNat 1, .ofNat 0, .negSucc 0, .ofNat 0, .ofNat 0, .ofNat 0, .negSucc 0, .ofNat 0, .ofNat 0, .ofNat 0, .ofNat 0, .ofNat 0, .negSucc 0, .ofNat 0, .negSucc 0, .ofNat 0, .ofNat 0, .ofNat 0, .ofNat 0, .ofNat 0, .negSucc 0, .ofNat 0, .ofNat 0, .ofNat 0, .negSucc 0, .ofNat 0, .ofNat 1, .ofNat 0, .ofNat 0, .ofNat 0, .negSucc 0, .ofNat 0, .ofNat 1, .ofNat 0, .ofNat 0, .ofNat 0, .ofNat 1, .ofNat 0, .ofNat 0, .ofNat 0, .ofNat 0, .ofNat 0, .ofNat 1], [.ofNat 0, .ofNat 0, .ofNat 2880, .ofNat 259200, .ofNat 17642880, .ofNat 1091232000, .ofNat 64756290240, .ofNat 3768401750400, .ofNat 217260515669760, .ofNat 12474331246195200, .ofNat 715291607616206400, .ofNat 41024987773930512000, .ofNat 2355494216229009728640, .ofNat 135450227402984008569600, .ofNat 7802529364969228957095360, .ofNat 450279082720689318968112000, .ofNat 26032430199245225907040427520, .ofNat 1507676588126970876736614835200, .ofNat 87462831649417270115602628301120, .ofNat 5081773776668997729646598824118400, .ofNat 295689015210733059691153390218134400, .ofNat 17227973099759507344774209760810272000, .ofNat 1004996039166233012030324610443528767680, .ofNat 58692101101706094066450580141858984099200, .ofNat 3431125251211410216309538143916133387777280], [(.ofNat 0, .ofNat 1), (.ofNat 0, .ofNat 1), (.ofNat 48, .ofNat 1), (.ofNat 0, .ofNat 1), (.negSucc 51551, .ofNat 1), (.ofNat 0, .ofNat 1), (.ofNat 140967504, .ofNat 1), (.ofNat 0, .ofNat 1), (.negSucc 719856659903, .ofNat 1), (.ofNat 0, .ofNat 1), (.ofNat 5907874011139440, .ofNat 1), (.ofNat 0, .ofNat 1), (.negSucc 71112822920233325855, .ofNat 1), (.ofNat 0, .ofNat 1), (.ofNat 1180217556867928253613456, .ofNat 1), (.ofNat 0, .ofNat 1), (.negSucc 25829504600505173523918350207, .ofNat 1), (.ofNat 0, .ofNat 1), (.ofNat 720742724621644173161221414207152, .ofNat 1), (.ofNat 0, .ofNat 1), (.negSucc 24975065038411808738994928696426433759, .ofNat 1), (.ofNat 0, .ofNat 1), (.ofNat 1052183210284033785331219462261276709458128, .ofNat 1), (.ofNat 0, .ofNat 1), (.negSucc 52963077102807909899573820544550409608072277311, .ofNat 1)]⟩
theorem row39_ok : okRow row39 = true := by decide +kernel
end Ft

namespace Ft
def rows : List Row := [row0, row1, row2, row3, row4, row5, row6, row7, row8, row9, row10, row11, row12, row13, row14, row15, row16, row17, row18, row19, row20, row21, row22, row23, row24, row25, row26, row27, row28, row29, row30, row31, row32, row33, row34, row35, row36, row37, row38, row39, row40, row41]
theorem rows_ok : ∀ r ∈ rows, okRow r = true := (List.forall_mem_cons.mpr ⟨row0_ok, (List.forall_mem_cons.mpr ⟨row1_ok, (List.forall_mem_cons.mpr ⟨row2_ok, (List.forall_mem_cons.mpr ⟨row3_ok, (List.forall_mem_cons.mpr ⟨row4_ok, (List.forall_mem_cons.mpr ⟨row5_ok, (List.forall_mem_cons.mpr ⟨row6_ok, (List.forall_mem_cons.mpr ⟨row7_ok, (List.forall_mem_cons.mpr ⟨row8_ok, (List.forall_mem_cons.mpr ⟨row9_ok, (List.forall_mem_cons.mpr ⟨row10_ok, (List.forall_mem_cons.mpr ⟨row11_ok, (List.forall_mem_cons.mpr ⟨row12_ok, (List.forall_mem_cons.mpr ⟨row13_ok, (List.forall_mem_cons.mpr ⟨row14_ok, (List.forall_mem_cons.mpr ⟨row15_ok, (List.forall_mem_cons.mpr ⟨row16_ok, (List.forall_mem_cons.mpr ⟨row17_ok, (List.forall_mem_cons.mpr ⟨row18_ok, (List.forall_mem_cons.mpr ⟨row19_ok, (List.forall_mem_cons.mpr ⟨row20_ok, (List.forall_mem_cons.mpr ⟨row21_ok, (List.forall_mem_cons.mpr ⟨row22_ok, (List.forall_mem_cons.mpr ⟨row23_ok, (List.forall_mem_cons.mpr ⟨row24_ok, (List.forall_mem_cons.mpr ⟨row25_ok, (List.forall_mem_cons.mpr ⟨row26_ok, (List.forall_mem_cons.mpr ⟨row27_ok, (List.forall_mem_cons.mpr ⟨row28_ok, (List.forall_mem_cons.mpr ⟨row29_ok, (List.forall_mem_cons.mpr ⟨row30_ok, (List.forall_mem_cons.mpr ⟨row31_ok, (List.forall_mem_cons.mpr ⟨row32_ok, (List.forall_mem_cons.mpr ⟨row33_ok, (List.forall_mem_cons.mpr ⟨row34_ok, (List.forall_mem_cons.mpr ⟨row35_ok, (List.forall_mem_cons.mpr ⟨row36_ok, (List.forall_mem_cons.mpr ⟨row37_ok, (List.forall_mem_cons.mpr ⟨row38_ok, (List.forall_mem_cons.mpr ⟨row39_ok, (List.forall_mem_cons.mpr ⟨row40_ok, (List.forall_mem_cons.mpr ⟨row41_ok, (fun _ h => nomatch h)⟩)⟩)⟩)⟩)⟩)⟩)⟩)⟩)⟩)⟩)⟩)⟩)⟩)⟩)⟩)⟩)⟩)⟩)⟩)⟩)⟩)⟩)⟩)⟩)⟩)⟩)⟩)⟩)⟩)⟩)⟩)⟩)⟩)⟩)⟩)⟩)⟩)⟩)⟩)⟩)⟩)⟩)
theorem rows_all : (List.range 131).all (fun i => !isSign ((i : Int) - 65) || rows.any fun r => decide (r.s = (i : Int) - 65)) = true := by decide +kernel
def bn (s : Int) : Nat → Fq := match rows.find? fun r => decide (r.s = s) with
  | none => fun _ => (0, 1)
  | some r => fun k => r.bs.getD k (0, 1)
theorem bn_row {s : Int} (hs : isSign s = true) (h : s.natAbs ≤ 65) : ∃ r, RowOk r ∧ r.s = s ∧ bn s = fun k => r.bs.getD k (0, 1) := by
  have c := List.all_eq_true.mp rows_all (s + 65).toNat (List.mem_range.mpr (by omega))
  have e : (((s + 65).toNat : Nat) : Int) - 65 = s := by omega
  rw [e, hs] at c
  have c' : (rows.any fun r => decide (r.s = s)) = true := c
  obtain ⟨r0, hr0, hr1⟩ := List.any_eq_true.mp c'
  cases f : rows.find? fun r => decide (r.s = s) with
  | none => exact absurd hr1 (by simpa using List.find?_eq_none.mp f r0 hr0)
  | some r =>
    refine ⟨r, rowOk (rows_ok r (List.mem_of_find?_eq_some f)), of_decide_eq_true (List.find?_some (p := fun r : Row => decide (r.s = s)) f), ?_⟩
    unfold bn
    rw [f]
def kumB (p e : Nat) : Bool := match red (p : Int) 3 ((bn 1 (2 + 2 * e)).1, (bn 1 (2 + 2 * e)).2 * ((2 + 2 * e : Nat) : Int)), red (p : Int) 3 ((bn 1 (2 + 2 * e + p - 1)).1, (bn 1 (2 + 2 * e + p - 1)).2 * ((2 + 2 * e + p - 1 : Nat) : Int)) with
  | some X, some Y => smallB X && smallB Y && decide ((X.1 * Y.2 - Y.1 * X.2) % (p : Int) = 0)
  | _, _ => false
theorem kum_all : [5, 7, 11, 13, 17, 19].all (fun p => (List.range ((26 - p) / 2)).all fun e => Nat.beq ((2 + 2 * e) % (p - 1)) 0 || kumB p e) = true := by decide +kernel
theorem mat7 : Mat7 bn := by
  refine ⟨fun s hs h => ?_, fun s k hs h hk => ?_, fun k hk => ?_, fun s k t hs h h1 h2 ht => ?_, fun p e hp he hne => ?_⟩
  · obtain ⟨r, R, rfl, hb⟩ := bn_row hs h
    have lw := R.lw
    rw [R.abs]
    exact ⟨R.big, lw.1.trans lw.2.1, by rw [lw.1]; exact lw.2.2⟩
  · obtain ⟨r, R, rfl, hb⟩ := bn_row hs h
    rw [hb]
    exact R.bern (by omega)
  · obtain ⟨r, R, e, hb⟩ := bn_row (s := 1) (by decide +kernel) (by decide)
    rw [hb]
    have b := R.bern hk
    rw [e] at b
    exact ⟨b.1, b.2.1⟩
  · obtain ⟨r, R, rfl, hb⟩ := bn_row hs h
    rw [hb]
    rw [R.abs] at ht ⊢
    have z : psumTo r.s (k - 1) (0 * r.m) = 0 := by rw [Nat.zero_mul]; rfl
    exact endsC_ok R (max 1 (min 5 (240 / r.m))) 0 (by rw [z]; exact R.en k h1 h2) t (by omega) (by omega)
  · have c := List.all_eq_true.mp (List.all_eq_true.mp kum_all p hp) e (List.mem_range.mpr he)
    have hne' : Nat.beq ((2 + 2 * e) % (p - 1)) 0 = false := by
      cases k : Nat.beq ((2 + 2 * e) % (p - 1)) 0
      · rfl
      · exact absurd (Nat.eq_of_beq_eq_true k) hne
    rw [hne', Bool.false_or] at c
    unfold kumB at c
    split at c
    · rename_i X Y hX hY
      simp only [Bool.and_eq_true, decide_eq_true_eq] at c
      exact ⟨X, Y, hX, hY, smallB_of c.1.1, smallB_of c.1.2, c.2⟩
    · cases c
end Ft

open PySem PySem.W PyProof.Rows in
set_option maxRecDepth 100000 in
set_option maxHeartbeats 0 in
theorem PySem.Challenge.cw_firstterms_k07_whole_sums_of_powers_by_b_holds : PySem.Challenge.rw_firstterms_k07_whole_sums_of_powers_by_b.Holds := by
  w_on; o_law; k_head; (case hw => w_witness2)
  k_fill
  refine Ft.walk (l := PySem.Challenge.rw_firstterms_k07_whole_sums_of_powers_by_b) rfl rfl (fun w h Y => PySem.W.kIn_of Y) ?F
  case F =>
    intro w mg fa h KX G hmg
    refine' Ft.law_at Ft.mat7 KX G hmg ?a ?lk ?c ?k ?D ?B
    (case a => k_is); (case lk => k_is); (case c => k_is); (case k => k_is)
    case D =>
      refine ⟨?d0, ?d1, ?d2, ?d3, ?d4, ?d5, ?d6, ?d7, ?d8, ?d9, ?d10, ?d11, ?d12, ?d13, ?d14, ?d15, ?d16, ?d17, ?d18, ?d19, ?d20, ?d21, ?d22, ?d23, ?d24, ?d25, ?d26, ?d27, ?d28, ?d29, ?d30, ?d31⟩
      (case d0 => refine' Ft.df_mk KX G ?a0 ?l0 ?c0 ?k0 (Ft.b1 fun _ _ _ _ _ _ _ => rfl); (case a0 => k_is); (case l0 => k_is); (case c0 => k_is); (case k0 => k_is))
      (case d1 => refine' Ft.df_mk KX G ?a1 ?l1 ?c1 ?k1 (Ft.b3 fun _ _ _ _ _ _ _ _ _ => rfl); (case a1 => k_is); (case l1 => k_is); (case c1 => k_is); (case k1 => k_is))
      (case d2 => refine' Ft.df_mk KX G ?a2 ?l2 ?c2 ?k2 (Ft.b1 fun _ _ _ _ _ _ _ => rfl); (case a2 => k_is); (case l2 => k_is); (case c2 => k_is); (case k2 => k_is))
      (case d3 => refine' Ft.df_mk KX G ?a3 ?l3 ?c3 ?k3 (Ft.b3 fun _ _ _ _ _ _ _ _ _ => rfl); (case a3 => k_is); (case l3 => k_is); (case c3 => k_is); (case k3 => k_is))
      (case d4 => refine' Ft.df_mk KX G ?a4 ?l4 ?c4 ?k4 (Ft.b2 fun _ _ _ _ _ _ _ _ => rfl); (case a4 => k_is); (case l4 => k_is); (case c4 => k_is); (case k4 => k_is))
      (case d5 => refine' Ft.df_mk KX G ?a5 ?l5 ?c5 ?k5 (Ft.b2 fun _ _ _ _ _ _ _ _ => rfl); (case a5 => k_is); (case l5 => k_is); (case c5 => k_is); (case k5 => k_is))
      (case d6 => refine' Ft.df_mk KX G ?a6 ?l6 ?c6 ?k6 (Ft.b2 fun _ _ _ _ _ _ _ _ => rfl); (case a6 => k_is); (case l6 => k_is); (case c6 => k_is); (case k6 => k_is))
      (case d7 => refine' Ft.df_mk KX G ?a7 ?l7 ?c7 ?k7 (Ft.b2 fun _ _ _ _ _ _ _ _ => rfl); (case a7 => k_is); (case l7 => k_is); (case c7 => k_is); (case k7 => k_is))
      (case d8 => refine' Ft.df_mk KX G ?a8 ?l8 ?c8 ?k8 (Ft.b1 fun _ _ _ _ _ _ _ => rfl); (case a8 => k_is); (case l8 => k_is); (case c8 => k_is); (case k8 => k_is))
      (case d9 => refine' Ft.df_mk KX G ?a9 ?l9 ?c9 ?k9 (Ft.b1 fun _ _ _ _ _ _ _ => rfl); (case a9 => k_is); (case l9 => k_is); (case c9 => k_is); (case k9 => k_is))
      (case d10 => refine' Ft.df_mk KX G ?a10 ?l10 ?c10 ?k10 (Ft.b2 fun _ _ _ _ _ _ _ _ => rfl); (case a10 => k_is); (case l10 => k_is); (case c10 => k_is); (case k10 => k_is))
      (case d11 => refine' Ft.df_mk KX G ?a11 ?l11 ?c11 ?k11 (Ft.b2 fun _ _ _ _ _ _ _ _ => rfl); (case a11 => k_is); (case l11 => k_is); (case c11 => k_is); (case k11 => k_is))
      (case d12 => refine' Ft.df_mk KX G ?a12 ?l12 ?c12 ?k12 (Ft.b1 fun _ _ _ _ _ _ _ => rfl); (case a12 => k_is); (case l12 => k_is); (case c12 => k_is); (case k12 => k_is))
      (case d13 => refine' Ft.df_mk KX G ?a13 ?l13 ?c13 ?k13 (Ft.b2 fun _ _ _ _ _ _ _ _ => rfl); (case a13 => k_is); (case l13 => k_is); (case c13 => k_is); (case k13 => k_is))
      (case d14 => refine' Ft.df_mk KX G ?a14 ?l14 ?c14 ?k14 (Ft.b1 fun _ _ _ _ _ _ _ => rfl); (case a14 => k_is); (case l14 => k_is); (case c14 => k_is); (case k14 => k_is))
      (case d15 => refine' Ft.df_mk KX G ?a15 ?l15 ?c15 ?k15 (Ft.b1 fun _ _ _ _ _ _ _ => rfl); (case a15 => k_is); (case l15 => k_is); (case c15 => k_is); (case k15 => k_is))
      (case d16 => refine' Ft.df_mk KX G ?a16 ?l16 ?c16 ?k16 (Ft.b2 fun _ _ _ _ _ _ _ _ => rfl); (case a16 => k_is); (case l16 => k_is); (case c16 => k_is); (case k16 => k_is))
      (case d17 => refine' Ft.df_mk KX G ?a17 ?l17 ?c17 ?k17 (Ft.b1 fun _ _ _ _ _ _ _ => rfl); (case a17 => k_is); (case l17 => k_is); (case c17 => k_is); (case k17 => k_is))
      (case d18 => refine' Ft.df_mk KX G ?a18 ?l18 ?c18 ?k18 (Ft.b2 fun _ _ _ _ _ _ _ _ => rfl); (case a18 => k_is); (case l18 => k_is); (case c18 => k_is); (case k18 => k_is))
      (case d19 => refine' Ft.df_mk KX G ?a19 ?l19 ?c19 ?k19 (Ft.b1 fun _ _ _ _ _ _ _ => rfl); (case a19 => k_is); (case l19 => k_is); (case c19 => k_is); (case k19 => k_is))
      (case d20 => refine' Ft.df_mk KX G ?a20 ?l20 ?c20 ?k20 (Ft.b2 fun _ _ _ _ _ _ _ _ => rfl); (case a20 => k_is); (case l20 => k_is); (case c20 => k_is); (case k20 => k_is))
      (case d21 => refine' Ft.df_mk KX G ?a21 ?l21 ?c21 ?k21 (Ft.b2 fun _ _ _ _ _ _ _ _ => rfl); (case a21 => k_is); (case l21 => k_is); (case c21 => k_is); (case k21 => k_is))
      (case d22 => refine' Ft.df_mk KX G ?a22 ?l22 ?c22 ?k22 (Ft.b1 fun _ _ _ _ _ _ _ => rfl); (case a22 => k_is); (case l22 => k_is); (case c22 => k_is); (case k22 => k_is))
      (case d23 => refine' Ft.df_mk KX G ?a23 ?l23 ?c23 ?k23 (Ft.b1 fun _ _ _ _ _ _ _ => rfl); (case a23 => k_is); (case l23 => k_is); (case c23 => k_is); (case k23 => k_is))
      (case d24 => refine' Ft.df_mk KX G ?a24 ?l24 ?c24 ?k24 (Ft.b2 fun _ _ _ _ _ _ _ _ => rfl); (case a24 => k_is); (case l24 => k_is); (case c24 => k_is); (case k24 => k_is))
      (case d25 => refine' Ft.df_mk KX G ?a25 ?l25 ?c25 ?k25 (Ft.b1 fun _ _ _ _ _ _ _ => rfl); (case a25 => k_is); (case l25 => k_is); (case c25 => k_is); (case k25 => k_is))
      (case d26 => refine' Ft.df_mk KX G ?a26 ?l26 ?c26 ?k26 (Ft.b2 fun _ _ _ _ _ _ _ _ => rfl); (case a26 => k_is); (case l26 => k_is); (case c26 => k_is); (case k26 => k_is))
      (case d27 => refine' Ft.df_mk KX G ?a27 ?l27 ?c27 ?k27 (Ft.b1 fun _ _ _ _ _ _ _ => rfl); (case a27 => k_is); (case l27 => k_is); (case c27 => k_is); (case k27 => k_is))
      (case d28 => refine' Ft.df_mk KX G ?a28 ?l28 ?c28 ?k28 (Ft.b3 fun _ _ _ _ _ _ _ _ _ => rfl); (case a28 => k_is); (case l28 => k_is); (case c28 => k_is); (case k28 => k_is))
      (case d29 => refine' Ft.df_mk KX G ?a29 ?l29 ?c29 ?k29 (Ft.b2 fun _ _ _ _ _ _ _ _ => rfl); (case a29 => k_is); (case l29 => k_is); (case c29 => k_is); (case k29 => k_is))
      (case d30 => refine' Ft.df_mk KX G ?a30 ?l30 ?c30 ?k30 (Ft.b2 fun _ _ _ _ _ _ _ _ => rfl); (case a30 => k_is); (case l30 => k_is); (case c30 => k_is); (case k30 => k_is))
      (case d31 => refine' Ft.df_mk KX G ?a31 ?l31 ?c31 ?k31 (Ft.b1 fun _ _ _ _ _ _ _ => rfl); (case a31 => k_is); (case l31 => k_is); (case c31 => k_is); (case k31 => k_is))
    case B =>
      refine' ⟨PySem.W.mg_none_of KX G ?z0, PySem.W.mg_none_of KX G ?z1, PySem.W.mg_of KX G ?z2, PySem.W.mg_none_of KX G ?z3, PySem.W.mg_of KX G ?z4, PySem.W.mg_none_of KX G ?z5, PySem.W.mg_none_of KX G ?z6, PySem.W.mg_none_of KX G ?z7, PySem.W.mg_of KX G ?z8, PySem.W.mg_none_of KX G ?z9, PySem.W.mg_none_of KX G ?z10, PySem.W.mg_none_of KX G ?z11, PySem.W.mg_none_of KX G ?z12, PySem.W.mg_none_of KX G ?z13, PySem.W.mg_none_of KX G ?z14, PySem.W.mg_none_of KX G ?z15, PySem.W.mg_none_of KX G ?z16⟩
      (case z0 => k_is)
      (case z1 => k_is)
      (case z2 => k_is)
      (case z3 => k_is)
      (case z4 => k_is)
      (case z5 => k_is)
      (case z6 => k_is)
      (case z7 => k_is)
      (case z8 => k_is)
      (case z9 => k_is)
      (case z10 => k_is)
      (case z11 => k_is)
      (case z12 => k_is)
      (case z13 => k_is)
      (case z14 => k_is)
      (case z15 => k_is)
      (case z16 => k_is)

