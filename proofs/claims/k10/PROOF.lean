import PyProof.Rows.All
import Wide.All
import OpenK.AllK
import Wide.FinOn
import HandS.ForMost
import HandS.Flow
import HandS.Wide
import HandS.Gcd
import HandS.IsInst
import HandS.Zip
import HandS.Ends
import HandS.Walk
import KE.KMathGC
import HandS.Style
import Flt.RightSqrt
import PyProof.ReprBulk
import PyProof.Rows.StrJoinMade
import KE.GoesMore
import KE.GoesEnum
import PyProof.Draws
import HandS.Iter
import KE.GoesZip
import HandS.TupAny
import HandS.WideBits
import PySem.Challenge.RW_firstterms_k10_sums_and_products_of_begi
set_option Elab.async false
set_option maxRecDepth 100000
namespace Ft
open PySem L2

/-! ### general: what a def may be called for -/
structure Cal (P : Program) (w : World) (K : PySem.W.Frag) (mg : Str → Option Value) (base : Heap) (k : Nat) (x : Str) (sp : Sp) : Prop where
  ex : ∃ (f : Addr) (fd : FuncData) (ps : List Str), FnOk P w K mg base CX0 k f fd ps sp ∧ mg x = some (.ref f) ∧ PySem.W.keepIn K (.ref f) = true ∧ Binds K fd ps []
/-- a def of the top: its text stands, its name leads to it, its arguments bind -/
structure Df (K : PySem.W.Frag) (mg : Str → Option Value) (x : Str) (st : Stmt) (ps : List Str) : Prop where
  ex : ∃ (f : Addr) (fd : FuncData), Fun K x x st f fd ∧ mg x = some (.ref f) ∧ Binds K fd ps []
section
variable {X : Cx} {k j : Nat} {x : Str} {sp : Sp} {p pos : Pos} {e : Expr} {es : List Expr} {t : TA}
theorem pe_c (c : Cal X.prog X.w X.K X.mg X.base k x sp) (hr : Room j X.A) (hk : k ≤ j) (hg : Gl X x) (ha : PA X (e :: es) t)
    (hdb : (x == ("__debug__" : Str)) = false := by decide) (he : starEach (e :: es) X.env = (false, eval e X.env) :: starEach es X.env := by rfl) (hpl : (backTo pos (starEach es X.env)).any (·.1) = false := by rfl) :
    PE X (.Call (.Name x p) (e :: es) [] pos) (tCall sp [] E0 t) := by
  obtain ⟨f, fd, ps, F, hm, kp, b⟩ := c.ex
  exact pe_call F (hr.mono hk) hg hm kp b .nil pass0 ha hdb he hpl
end
/-- what may be called for by keywords alone, in this order -/
structure CalK (P : Program) (w : World) (K : PySem.W.Frag) (mg : Str → Option Value) (base : Heap) (k : Nat) (x : Str) (ks : List Str) (gV : List V → List V → List V) (sp : Sp) : Prop where
  ex : ∃ (f : Addr) (fd : FuncData) (ps : List Str) (g : List Value → List Value → List Value), FnOk P w K mg base CX0 k f fd ps sp ∧ mg x = some (.ref f) ∧ PySem.W.keepIn K (.ref f) = true ∧ KBinds K fd ps ks g gV
section
variable {X : Cx} {k j : Nat} {x : Str} {ks : List Str} {gV : List V → List V → List V} {sp : Sp} {p pos : Pos} {kws : List Keyword} {tk : TA}
theorem pe_k0 (c : CalK X.prog X.w X.K X.mg X.base k x ks gV sp) (hr : Room j X.A) (hk : k ≤ j) (hg : Gl X x) (hkw : PK X kws tk)
    (hall : (backToKw pos (keywordEach kws X.env)).all (·.1.isSome) = true := by rfl) (hks : (backToKw pos (keywordEach kws X.env)).filterMap (·.1) = ks := by rfl) (hdb : (x == ("__debug__" : Str)) = false := by decide)
    (hpl : ((backTo pos (starEach [] X.env)).any (·.1) || (backToKw pos (keywordEach kws X.env)).any (·.1.isNone)) = false := by rfl) :
    PE X (.Call (.Name x p) [] kws pos) (tCallK sp gV E0 tNil tk) := by
  obtain ⟨f, fd, ps, g, F, hm, kp, b⟩ := c.ex
  refine ⟨fun pins s σ H Q I h => wpAny_Call_Name_kw (ld_glob I hg hm ?_ hdb)⟩
  refine PySem.W.callWith_KW0 (h₀ := X.base) I.ok.mod.kin kp hall (thn (hkw.run pos pins s σ H _ I h) fun ws s2 ⟨zs, H2, I2, rz, q2⟩ => ⟨I2.kIn, ?_⟩) hpl
  rw [hks]
  exact run_fnk F (hr.mono hk) b pass0 I2 .nil rz q2
end
section
variable {X : Cx}
theorem pe_ty {x : Str} {n : String} {pos : Pos} (hg : Gl X x) (hm : X.mg x = none) (hv : bootBuiltins x = some (.type n)) (hn : x ≠ "__name__" := by decide) (hd : (x == ("__debug__" : Str)) = false := by decide) : PE X (.Name x pos) (tC (.ty n)) := pe_bltn hg hm hv rfl hn hd
end
theorem kit_int_int {K : PySem.W.Frag} : PySem.W.kitOne K (.type "int") (.type "int") = some true := kit_ty (by decide +kernel)
theorem kit_int_bool {K : PySem.W.Frag} : PySem.W.kitOne K (.type "int") (.type "bool") = some false := kit_ty (by decide +kernel)
theorem ifD {c A B : Prop} [Decidable c] (h1 : c → A) (h2 : ¬ c → B) : if decide c = true then A else B := by
  by_cases h : c
  · rw [decide_eq_true h]; exact iteT (h1 h)
  · rw [decide_eq_false h]; exact iteF (h2 h)
theorem ifI {i j : Int} {A B : Prop} (h1 : i = j → A) (h2 : i ≠ j → B) : if decide (V.int i = V.int j) = true then A else B :=
  ifD (fun h => h1 (V.int.inj h)) fun h => h2 fun e => h (congrArg V.int e)
theorem ifN {c A B : Prop} [Decidable c] (h1 : ¬ c → A) (h2 : c → B) : if (!decide c) = true then A else B := by
  by_cases h : c
  · rw [decide_eq_true h]; exact iteF (h2 h)
  · rw [decide_eq_false h]; exact iteT (h1 h)
theorem ifNI {i j : Int} {A B : Prop} (h1 : i ≠ j → A) (h2 : i = j → B) : if (!decide (V.int i = V.int j)) = true then A else B :=
  ifN (fun h => h1 fun e => h (congrArg V.int e)) fun h => h2 (V.int.inj h)
/-- what follows, said once for all ways that lead there -/
theorem tSeq_join {a b : TS} {D : Ends} {σ : L2.St} {H : Hp} (J : L2.St → Hp → Prop) (h1 : ∀ N : L2.St → Hp → Prop, (∀ σ H, J σ H → N σ H) → a { D with nx := N } σ H) (h2 : ∀ σ H, J σ H → b D σ H) : tSeq a b D σ H := h1 (b D) h2
/-- while, by an invariant and a measure -/
theorem while_go {c : TT} {tb : TS} {D : Ends} {σ : L2.St} {H : Hp} (Pv : L2.St → Hp → Prop) (μ : L2.St → Hp → Nat) (h0 : Pv σ H)
    (hs : ∀ σ H, Pv σ H → c σ H fun b H1 => if b = true then ∃ N : L2.St → Hp → Prop, (∀ σ' H', N σ' H' → ∃ m', m' < μ σ H ∧ m' = μ σ' H' ∧ Pv σ' H') ∧ tb { D with nx := N, ct := N, bk := D.nx } σ H1 else D.nx σ H1) :
    tWhile c tb D σ H := by
  refine ⟨fun m σ H => m = μ σ H ∧ Pv σ H, ⟨_, rfl, h0⟩, ?_⟩
  rintro m σ H ⟨rfl, p⟩
  exact hs σ H p
/-- math.isqrt below 2 ^ 64 -/
def rIsqrt : List V → Hp → VK → Prop := fun vs H Q => ∃ a : Int, vs = [.int a] ∧ 0 ≤ a ∧ a < 2 ^ 64 ∧ Q (.int ((Float64.isqrt a.toNat : Nat) : Int)) H
theorem cr_isqrt {X : Cx} : CallR X (.builtin "math.isqrt") rIsqrt := by
  intro pins s σ H vs us Q I r h
  obtain ⟨a, rfl, h0, h1, q⟩ := h
  obtain ⟨u, rfl, t, rfl⟩ := vals1 r
  exact PySem.W.mg_isqrt h0 h1 ⟨.int _, H, I.tok _, ⟨_, rfl⟩, q⟩
/-- the built-ins of the text -/
structure Bi (mg : Str → Option Value) : Prop where
  abs : mg "abs" = none
  all : mg "all" = none
  bool : mg "bool" = none
  enumerate : mg "enumerate" = none
  gcd : mg "gcd" = some (.builtin "math.gcd")
  int : mg "int" = none
  int_ : mg "int" = none
  isinstance : mg "isinstance" = none
  len : mg "len" = none
  len_ : mg "len" = none
  list : mg "list" = none
  max : mg "max" = none
  max_ : mg "max" = none
  min : mg "min" = none
  min_ : mg "min" = none
  range : mg "range" = none
  repr : mg "repr" = none
  sum : mg "sum" = none
  tuple : mg "tuple" = none
  zip : mg "zip" = none
/-- math.comb of ints from 0 to 18000 -/
def rComb : List V → Hp → VK → Prop := fun vs H Q => ∃ a b : Int, vs = [.int a, .int b] ∧ 0 ≤ a ∧ 0 ≤ b ∧ a ≤ 18000 ∧ Q (.int (PySem.W.mcComb a b)) H
theorem cr_comb {X : Cx} : CallR X (.builtin "math.comb") rComb := by
  intro pins s σ H vs us Q I r h
  obtain ⟨a, b, rfl, h0, h1, h2, q⟩ := h
  obtain ⟨t, u, rfl⟩ := Vals.int2 r
  exact PySem.W.mc_comb h0 h1 (by omega) (.inr h2) fun _ => ⟨.int _, H, I.tok _, ⟨_, rfl⟩, q⟩
end Ft

namespace Ft
open PySem L2
def top (i : Nat) : Stmt := PySem.Challenge.pw_firstterms_k10_sums_and_products_of_begi.main.body.getD i (.Pass ⟨0, 0, 0, 0⟩)
abbrev s_is_integer : Stmt := top 6
abbrev N_is_integer : List Str := ["thing"]
theorem sc_is_integer : FnScope N_is_integer ["thing"] (defScope s_is_integer) := ⟨rfl, rfl, rfl, by decide +kernel, rfl, by decide +kernel, by decide +kernel⟩
abbrev s_is_from : Stmt := top 7
abbrev N_is_from : List Str := ["thing", "least"]
theorem sc_is_from : FnScope N_is_from ["thing", "least"] (defScope s_is_from) := ⟨rfl, rfl, rfl, by decide +kernel, rfl, by decide +kernel, by decide +kernel⟩
abbrev s_is_between : Stmt := top 8
abbrev N_is_between : List Str := ["thing", "least", "most"]
theorem sc_is_between : FnScope N_is_between ["thing", "least", "most"] (defScope s_is_between) := ⟨rfl, rfl, rfl, by decide +kernel, rfl, by decide +kernel, by decide +kernel⟩
abbrev s_is_tuple_of_integers : Stmt := top 9
abbrev N_is_tuple_of_integers : List Str := ["thing", "many", "item"]
theorem sc_is_tuple_of_integers : FnScope N_is_tuple_of_integers ["thing", "many"] (defScope s_is_tuple_of_integers) := ⟨rfl, rfl, rfl, by decide +kernel, rfl, by decide +kernel, by decide +kernel⟩
abbrev s_is_pair_of_integers : Stmt := top 10
abbrev N_is_pair_of_integers : List Str := ["thing"]
theorem sc_is_pair_of_integers : FnScope N_is_pair_of_integers ["thing"] (defScope s_is_pair_of_integers) := ⟨rfl, rfl, rfl, by decide +kernel, rfl, by decide +kernel, by decide +kernel⟩
abbrev s_is_number : Stmt := top 11
abbrev N_is_number : List Str := ["thing"]
theorem sc_is_number : FnScope N_is_number ["thing"] (defScope s_is_number) := ⟨rfl, rfl, rfl, by decide +kernel, rfl, by decide +kernel, by decide +kernel⟩
abbrev s_check_between : Stmt := top 12
abbrev N_check_between : List Str := ["thing", "least", "most"]
theorem sc_check_between : FnScope N_check_between ["thing", "least", "most"] (defScope s_check_between) := ⟨rfl, rfl, rfl, by decide +kernel, rfl, by decide +kernel, by decide +kernel⟩
abbrev s_check_number : Stmt := top 13
abbrev N_check_number : List Str := ["thing"]
theorem sc_check_number : FnScope N_check_number ["thing"] (defScope s_check_number) := ⟨rfl, rfl, rfl, by decide +kernel, rfl, by decide +kernel, by decide +kernel⟩
abbrev s_lowest_terms : Stmt := top 15
abbrev N_lowest_terms : List Str := ["top", "bottom", "common"]
theorem sc_lowest_terms : FnScope N_lowest_terms ["top", "bottom"] (defScope s_lowest_terms) := ⟨rfl, rfl, rfl, by decide +kernel, rfl, by decide +kernel, by decide +kernel⟩
abbrev s_is_beginning : Stmt := top 17
abbrev N_is_beginning : List Str := ["thing", "bottom", "tops", "top"]
theorem sc_is_beginning : FnScope N_is_beginning ["thing"] (defScope s_is_beginning) := ⟨rfl, rfl, rfl, by decide +kernel, rfl, by decide +kernel, by decide +kernel⟩
abbrev s_check_beginning : Stmt := top 18
abbrev N_check_beginning : List Str := ["beginning"]
theorem sc_check_beginning : FnScope N_check_beginning ["beginning"] (defScope s_check_beginning) := ⟨rfl, rfl, rfl, by decide +kernel, rfl, by decide +kernel, by decide +kernel⟩
abbrev s_lowered : Stmt := top 19
abbrev N_lowered : List Str := ["bottom", "tops", "common", "top"]
theorem sc_lowered : FnScope N_lowered ["bottom", "tops"] (defScope s_lowered) := ⟨rfl, rfl, rfl, by decide +kernel, rfl, by decide +kernel, by decide +kernel⟩
abbrev s_term_at : Stmt := top 20
abbrev N_term_at : List Str := ["beginning", "n", "bottom", "tops"]
theorem sc_term_at : FnScope N_term_at ["beginning", "n"] (defScope s_term_at) := ⟨rfl, rfl, rfl, by decide +kernel, rfl, by decide +kernel, by decide +kernel⟩
abbrev s_added : Stmt := top 21
abbrev N_added : List Str := ["one", "other", "a", "b", "tops"]
theorem sc_added : FnScope N_added ["one", "other"] (defScope s_added) := ⟨rfl, rfl, rfl, by decide +kernel, rfl, by decide +kernel, by decide +kernel⟩
abbrev s_multiplied : Stmt := top 22
abbrev N_multiplied : List Str := ["one", "other"]
theorem sc_multiplied : FnScope N_multiplied ["one", "other"] (defScope s_multiplied) := ⟨rfl, rfl, rfl, by decide +kernel, rfl, by decide +kernel, by decide +kernel⟩
abbrev s_product_tops : Stmt := top 23
abbrev N_product_tops : List Str := ["one", "other", "many", "i", "n"]
theorem sc_product_tops : FnScope N_product_tops ["one", "other"] (defScope s_product_tops) := ⟨rfl, rfl, rfl, by decide +kernel, rfl, by decide +kernel, by decide +kernel⟩
abbrev s_times : Stmt := top 24
abbrev N_times : List Str := ["beginning", "number", "bottom", "tops", "top"]
theorem sc_times : FnScope N_times ["beginning", "number"] (defScope s_times) := ⟨rfl, rfl, rfl, by decide +kernel, rfl, by decide +kernel, by decide +kernel⟩
abbrev s_first_apart : Stmt := top 25
abbrev N_first_apart : List Str := ["one", "other", "n"]
theorem sc_first_apart : FnScope N_first_apart ["one", "other"] (defScope s_first_apart) := ⟨rfl, rfl, rfl, by decide +kernel, rfl, by decide +kernel, by decide +kernel⟩
abbrev s__law_deck : Stmt := top 27
abbrev N__law_deck : List Str := ["_law_script", "_law_mixed", "_law_cell"]
theorem sc__law_deck : FnScope N__law_deck ["_law_script"] (defScope s__law_deck) := ⟨rfl, rfl, rfl, by decide +kernel, rfl, by decide +kernel, by decide +kernel⟩
abbrev s__law_draw : Stmt := top 28
abbrev N__law_draw : List Str := ["_law_deck_here", "_law_many", "_law_number", "_law_cell"]
theorem sc__law_draw : FnScope N__law_draw ["_law_deck_here", "_law_many"] (defScope s__law_draw) := ⟨rfl, rfl, rfl, by decide +kernel, rfl, by decide +kernel, by decide +kernel⟩
abbrev s__law_integer : Stmt := top 29
abbrev N__law_integer : List Str := ["_law_deck_here", "_law_way", "_law_great", "_law_turn"]
theorem sc__law_integer : FnScope N__law_integer ["_law_deck_here", "_law_way"] (defScope s__law_integer) := ⟨rfl, rfl, rfl, by decide +kernel, rfl, by decide +kernel, by decide +kernel⟩
abbrev s__law_beginning : Stmt := top 30
abbrev N__law_beginning : List Str := ["_law_deck_here", "_law_many", "_law_way", "_law_factor", "_law_bottom", "_law_at", "_law_tops", "_law_top"]
theorem sc__law_beginning : FnScope N__law_beginning ["_law_deck_here", "_law_many"] (defScope s__law_beginning) := ⟨rfl, rfl, rfl, by decide +kernel, rfl, by decide +kernel, by decide +kernel⟩
abbrev s__law_common : Stmt := top 31
abbrev N__law_common : List Str := ["_law_one", "_law_other"]
theorem sc__law_common : FnScope N__law_common ["_law_one", "_law_other"] (defScope s__law_common) := ⟨rfl, rfl, rfl, by decide +kernel, rfl, by decide +kernel, by decide +kernel⟩
abbrev s__law_reduced : Stmt := top 32
abbrev N__law_reduced : List Str := ["_law_bottom", "_law_tops", "_law_common_here", "_law_top"]
theorem sc__law_reduced : FnScope N__law_reduced ["_law_bottom", "_law_tops"] (defScope s__law_reduced) := ⟨rfl, rfl, rfl, by decide +kernel, rfl, by decide +kernel, by decide +kernel⟩
abbrev s__law_added : Stmt := top 33
abbrev N__law_added : List Str := ["_law_one", "_law_other", "_law_x", "_law_y"]
theorem sc__law_added : FnScope N__law_added ["_law_one", "_law_other"] (defScope s__law_added) := ⟨rfl, rfl, rfl, by decide +kernel, rfl, by decide +kernel, by decide +kernel⟩
abbrev s__law_multiplied : Stmt := top 34
abbrev N__law_multiplied : List Str := ["_law_one", "_law_other", "_law_many", "_law_i", "_law_n", "_law_tops"]
theorem sc__law_multiplied : FnScope N__law_multiplied ["_law_one", "_law_other"] (defScope s__law_multiplied) := ⟨rfl, rfl, rfl, by decide +kernel, rfl, by decide +kernel, by decide +kernel⟩
abbrev s__law_times : Stmt := top 35
abbrev N__law_times : List Str := ["_law_one", "_law_number", "_law_x"]
theorem sc__law_times : FnScope N__law_times ["_law_one", "_law_number"] (defScope s__law_times) := ⟨rfl, rfl, rfl, by decide +kernel, rfl, by decide +kernel, by decide +kernel⟩
abbrev s__law_apart : Stmt := top 36
abbrev N__law_apart : List Str := ["_law_one", "_law_other", "_law_n", "_law_x", "_law_y", "_law_some"]
theorem sc__law_apart : FnScope N__law_apart ["_law_one", "_law_other"] (defScope s__law_apart) := ⟨rfl, rfl, rfl, by decide +kernel, rfl, by decide +kernel, by decide +kernel⟩
abbrev s__law_other_form : Stmt := top 37
abbrev N__law_other_form : List Str := ["_law_one", "_law_factor", "_law_top"]
theorem sc__law_other_form : FnScope N__law_other_form ["_law_one", "_law_factor"] (defScope s__law_other_form) := ⟨rfl, rfl, rfl, by decide +kernel, rfl, by decide +kernel, by decide +kernel⟩
abbrev s__law_is_short : Stmt := top 38
abbrev N__law_is_short : List Str := ["_law_one", "_law_top"]
theorem sc__law_is_short : FnScope N__law_is_short ["_law_one"] (defScope s__law_is_short) := ⟨rfl, rfl, rfl, by decide +kernel, rfl, by decide +kernel, by decide +kernel⟩
abbrev s__law_is_grouped : Stmt := top 39
abbrev N__law_is_grouped : List Str := ["_law_one", "_law_other", "_law_third", "_law_near", "_law_far", "_law_left", "_law_right", "_law_parts"]
theorem sc__law_is_grouped : FnScope N__law_is_grouped ["_law_one", "_law_other", "_law_third"] (defScope s__law_is_grouped) := ⟨rfl, rfl, rfl, by decide +kernel, rfl, by decide +kernel, by decide +kernel⟩
abbrev s_law : Stmt := top 40
abbrev N_law : List Str := ["_law_script", "_law_deck_here", "_law_many", "_law_turn", "_law_one", "_law_other", "_law_third", "_law_number", "_law_way", "_law_factor", "_law_due", "_law_told", "_law_it", "_law_near", "_law_far", "_law_wide", "_law_at", "_law_common_here", "_law_step", "_law_bent"]
theorem sc_law : FnScope N_law ["_law_script"] (defScope s_law) := ⟨rfl, rfl, rfl, by decide +kernel, rfl, by decide +kernel, by decide +kernel⟩
end Ft

/-! Defs that are called where no repr is under way (A.guards = some []): their texts may say repr of a list or a tuple. -/
namespace Ft
open PySem L2 PySem.Spec PyProof.Rows

structure FnG (P : Program) (w : World) (K : PySem.W.Frag) (mg : Str → Option Value) (base : Heap) (k : Nat) (f : Addr) (fd : FuncData) (ps : List Str) (sp : Sp) : Prop where
  len : ∀ vs H Q E, sp vs H Q E → vs.length = ps.length
  go : ∀ (A : Around) (outer : List Env) (s : Shared) (H : Hp) (args : Args) (us : List Value) (vs : List V) (Q : VK) (E : XK), A.guards = some [] → Room k A →
    Env0 P w K mg base A outer s H → BindsTo s fd args (ps.zip us) → Vals vs us → sp vs H Q E → codeAny (model P w) A (.call (.ref f) args) (CR CX0 outer P w H s Q E) s
theorem FnG.of {P : Program} {w : World} {K : PySem.W.Frag} {mg : Str → Option Value} {base : Heap} {k : Nat} {f : Addr} {fd : FuncData} {ps : List Str} {sp : Sp} (F : FnOk P w K mg base CX0 k f fd ps sp) : FnG P w K mg base k f fd ps sp :=
  ⟨F.len, fun A outer s H args us vs Q E _ => F.run A outer s H args us vs Q E⟩
/-- what may be called for, where no repr is under way -/
structure CalG (P : Program) (w : World) (K : PySem.W.Frag) (mg : Str → Option Value) (base : Heap) (k : Nat) (x : Str) (sp : Sp) : Prop where
  ex : ∃ (f : Addr) (fd : FuncData) (ps : List Str), FnG P w K mg base k f fd ps sp ∧ mg x = some (.ref f) ∧ PySem.W.keepIn K (.ref f) = true ∧ Binds K fd ps []
section
variable {X : Cx} {k j : Nat} {x : Str} {sp : Sp} {p pos : Pos} {e : Expr} {es : List Expr} {t : TA}
theorem pe_g (c : CalG X.prog X.w X.K X.mg X.base k x sp) (hgd : X.A.guards = some []) (hr : Room j X.A) (hk : k ≤ j) (hg : Gl X x) (ha : PA X (e :: es) t)
    (hdb : (x == ("__debug__" : Str)) = false := by decide) (he : starEach (e :: es) X.env = (false, eval e X.env) :: starEach es X.env := by rfl) (hpl : (backTo pos (starEach es X.env)).any (·.1) = false := by rfl) :
    PE X (.Call (.Name x p) (e :: es) [] pos) (tCall sp [] E0 t) := by
  obtain ⟨f, fd, ps, F, hm, kp, b⟩ := c.ex
  refine ⟨fun pins s σ H Q I h => wpAny_Call_Name_kw (ld_glob I hg hm ?_ hdb)⟩
  refine PySem.W.callWith_K (h₀ := X.base) I.ok.mod.kin kp (thn (ha.run pos pins s σ H _ I h) fun us s1 ⟨vs, H1, I1, rv, q1⟩ => ⟨I1.kIn, ?_⟩) he hpl
  have rv' : Vals (vs ++ []) us := by rw [List.append_nil]; exact rv
  have hl : us.length = ps.length := by
    have z := F.len _ _ _ _ q1
    rw [rv'.length] at z
    exact z
  have bd := b s1 us I1.kIn (by rw [List.append_nil]; exact hl)
  rw [List.append_nil] at bd
  refine wpAny_call (codeAny_mono (F.go X.A X.stack s1 H1 ⟨us, []⟩ us (vs ++ []) Q E0 hgd (hr.mono hk) I1.env0 bd rv' q1) fun r s2 hq => ?_)
  match r, hq with
  | .error _, hq => exact (hq : False).elim
  | .ok (.ret _), hq => exact I1.after hq
  | .ok .next, hq => exact (hq : False).elim
  | .ok .brk, hq => exact (hq : False).elim
  | .ok .cont, hq => exact (hq : False).elim
end
/-- a def by its body, where no repr is under way -/
theorem fun_g {P : Program} {w : World} {K : PySem.W.Frag} {mg : Str → Option Value} {base : Heap} {x qual : Str} {st : Stmt} {f : Addr} {fd : FuncData} {N ps : List Str} {k : Nat} {sp : Sp} (F : Fun K x qual st f fd) (S : FnScope N ps (defScope st))
    (len : ∀ vs H Q E, sp vs H Q E → vs.length = ps.length)
    (body : ∀ (cdv : Value) (A : Around) (outer : List Env) (s : Shared) (H : Hp) (vs : List V) (Q : VK) (E : XK), (A.deeper (envOfC qual (defScope st) s.heap.objs.size f cdv)).guards = some [] →
      Room k (A.deeper (envOfC qual (defScope st) s.heap.objs.size f cdv)) → sp vs H Q E →
      ∃ t, PSs (cxOf CX0 P w K mg base N qual (defScope st) f cdv A outer s H E).nox (defBody st) t ∧ t { nx := fun _ H' => Q .non H', rt := Q } (start N vs) H) : FnG P w K mg base (k + 1) f fd ps sp := by
  obtain ⟨oc, od, kV, doc, pm, an, cdv, ct, osl, rfl, lk, hcd⟩ := F.ex
  refine ⟨len, fun A outer s H args us vs Q E hgd hr e0 hb rv hsp => ?_⟩
  have inK : K.In s.heap := e0.mod.kin.keeps fun b o e => (e0.bs b o e).1
  have noL : s.heap.NoLimit := e0.mod.nolimit.keeps fun b o e => (e0.bs b o e).1
  have kinds : ∀ y ∈ ps.zip us, (defScope st).names.lookup y.1 = some .local ∨ ((defScope st).names.lookup y.1 = some .cell ∧ ((cellsFrom (s.heap.objs.size + 1) (defScope st).names []).lookup y.1).isSome = true) := by
    intro y hy
    rcases S.par y.1 (List.of_mem_zip hy).1 with q | q
    · exact .inl q
    · exact .inr ⟨q, PySem.W.cellsFrom_some _ _ _ (.inl q)⟩
  refine codeAny_call_function hr.depth (inK _ _ lk) rfl S.co S.gen rfl (PySem.W.codeRec_of inK hcd) (hb _ _ _ _ ?_)
  refine wpAny_newFunctionEnv_cells S.kind kinds fun env he s1 made => ?_
  subst he
  refine ⟨noL.keeps made.toInCall.keep, codeAny_func ?_⟩
  obtain ⟨t, ht, hq⟩ := body cdv A outer s H vs Q E hgd (hr.deeper _) hsp
  have J0 : Inv (cxOf CX0 P w K mg base N qual (defScope st) f cdv A outer s H E) [] (start N vs) H s1 := inv_start S hr.hd e0 (len _ _ _ _ hsp) rv made
  refine wpAny_mono (ht.nox.run [] s1 (start N vs) H _ J0 hq) (fun fl s' hs => ?_) fun _ _ hs => hs
  match fl, hs with
  | .ret u, hs =>
    obtain ⟨v, σ', H', J, rv', q⟩ := hs
    exact ⟨v, H', J.os, J.bare, J.base, J.hok, rv', q⟩
  | .next, hs =>
    obtain ⟨σ', H', J, q⟩ := hs
    exact ⟨V.non, H', J.os, J.bare, J.base, J.hok, rfl, q⟩
  | .brk, hs => exact (hs.choose_spec.choose_spec.2 : False).elim
  | .cont, hs => exact (hs.choose_spec.choose_spec.2 : False).elim
end Ft

/-! The law's call, from a promise that holds where no repr is under way. -/
namespace Ft
open PySem L2 PySem.Spec PyProof.Rows

/-- the heap behind the top, seen with the script tracked (or nothing) -/
theorem call_of {P : Program} {w : World} {K : PySem.W.Frag} {mg mb : Str → Option Value} {k : Nat} {fa a : Addr} {fd : FuncData} {x : Str} {sp : Sp} {s1 : Shared} {vs : List Value} {H : Hp}
    (inK : K.In s1.heap) (hns : s1.heap.Ns mainGlobals mg) (hb : s1.heap.Ns builtinsNs mb) (hbb : ∀ x : Str, x ≠ "__name__" → mb x = bootBuiltins x) (hlim : s1.heap.NoLimit) (hg : s1.gens = #[])
    (ha : s1.heap.get? a = some { cls := .type "list", data := .seq vs.toArray }) (hr : Room k callerA)
    (F : ∀ base : Heap, K.In base → base.Ns mainGlobals mg → FnG P w K mg base k fa fd [x] sp) (hbind : ∀ (s : Shared) (u : Value), BindsTo s fd ⟨[u], []⟩ [(x, u)])
    (hO : Only H) (hp : sp [.ref a] H (fun v _ => v = .bl true) fun _ _ _ => False) (hok : HOk P w H s1.heap) (only : ∀ b, H b ≠ none → b = a) (notK : H a ≠ none → K.lookup a = none) :
    codeAny (model P w) callerA (.call (.ref fa) ⟨[.ref a], []⟩) (fun r s2 => r = .ok (.ret (.bool true)) ∧ OldK s1.heap s2.heap ∧ s2.os = s1.os ∧ AllBare s2.gens) s1 := by
  have below : ∀ {b : Addr} {o : Obj}, s1.heap.get? b = some o → H b = none → (hidT s1.heap H).get? b = some o := fun e n => hidT_get e n
  have dictFree : ∀ {b : Addr} {o : Obj} {es : Array DictEntry} {ep : Nat}, s1.heap.get? b = some o → o.data = .dict es ep → H b = none := by
    intro b o es ep e d
    cases q : H b with
    | none => rfl
    | some z =>
      obtain rfl : b = a := only b (fun n => by rw [n] at q; cases q)
      rw [ha] at e
      cases e
      exact absurd (show Data.seq vs.toArray _ = Data.dict es ep from d) (fun z => by cases z)
  have spaces : ∀ {b : Addr} {m : Str → Option Value}, s1.heap.Ns b m → (hidT s1.heap H).Ns b m := fun {b m} ⟨o, es, ep, e, d, r⟩ => ⟨o, es, ep, below e (dictFree e d), d, r⟩
  have inB : K.In (hidT s1.heap H) := by
    intro b o e
    refine below (inK b o e) ?_
    cases q : H b with
    | none => rfl
    | some z =>
      have nz : H b ≠ none := fun n => by rw [n] at q; cases q
      obtain rfl : b = a := only b nz
      rw [notK nz] at e
      cases e
  have hM : Mod K mg (hidT s1.heap H) := ⟨inB, spaces hns, ⟨mb, spaces hb, hbb⟩, hlim.elim fun mc z => ⟨mc, spaces z.1, z.2⟩⟩
  have noFr : ∀ b ∈ frs ([] : List Env), H b = none := fun b z => absurd (show b ∈ ([] : List Addr) from z) List.not_mem_nil
  have e0 : Env0 P w K mg (hidT s1.heap H) callerA [] s1 H := ⟨rfl, hM, fun b o e => of_hidT e, Nat.le_of_eq (hidT_size _ _), trivial, noFr, hok, .of_eq hg⟩
  refine codeAny_mono ((F _ inB (spaces hns)).go callerA [] s1 H ⟨[.ref a], []⟩ [.ref a] [.ref a] _ _ rfl hr e0 (hbind s1 (.ref a)) (.cons rfl .nil) hp) fun r s2 h => ?_
  match r, h with
  | .error _, h => exact (h : False).elim
  | .ok .next, h => exact (h : False).elim
  | .ok .brk, h => exact (h : False).elim
  | .ok .cont, h => exact (h : False).elim
  | .ok (.ret u), h =>
    obtain ⟨v, H2, os, bare, un, hok2, rv, q⟩ := h
    obtain rfl : v = .bl true := q
    obtain rfl : u = Value.bool true := rv
    refine ⟨rfl, OldK.of_keep fun b o e => ?_, os, bare⟩
    cases q : H b with
    | none => exact un.keep b o e q (fun z => absurd (show b ∈ ([] : List Addr) from z) List.not_mem_nil) List.not_mem_nil
    | some z =>
      rcases hO b with n | ⟨ob, xs, y⟩
      · rw [q] at n; cases n
      · have k1 := (hok b _ y).1
        have k2 := (hok2 b _ (un.frzs b ob _ y)).1
        rw [e] at k1
        cases k1
        exact k2
/-- what k_head leaves, from the law's promise -/
theorem walk_g {l : PySem.W.OpenLaw} {n k : Nat} {q : Program} {loose : List Str} {XP : (Str → Option Value) → Heap → Prop} {YP : World → Heap → Prop} {d : DefRec} {K : Params → PySem.W.Frag} {sp : PySem.W.Frag → Sp} {x : Str}
    (hn : l.most = some n) (hn2 : n ≤ sizeLine) (hdf : d.params.defaults = []) (hr : Room k callerA)
    (hY : ∀ (w : World) (h : Heap), YP w h → (K w.params).In h)
    (F : ∀ (w : World) (mg : Str → Option Value) (fa : Addr) (h : Heap), (K w.params).In h → h.Ns mainGlobals mg → mg d.name = some (.ref fa) →
      ∃ fd : FuncData, (∀ (s : Shared) (u : Value), BindsTo s fd ⟨[u], []⟩ [(x, u)]) ∧
        ∀ base : Heap, (K w.params).In base → base.Ns mainGlobals mg → FnG l.prog w (K w.params) mg base k fa fd [x] (sp (K w.params)))
    (hsp : ∀ (K : PySem.W.Frag) (H : Hp) (a : Addr) (ns : List Int), ns.length ≤ n → SqL K H a (ns.map V.int) → sp K [.ref a] H (fun v _ => v = .bl true) fun _ _ _ => False) :
    PySem.W.WalkO q loose XP YP l.row.toRowW d [] (fun f vs => PySem.call f vs) := by
  refine Att.attach_call hn hdf fun w s0 s1 mg mb fa o pm cd doc a vs ns G Y ho hd hcd hmg hobj hints hlen hg => ?_
  have inK := hY w _ Y
  obtain ⟨fd, hb, hF⟩ := F w mg fa _ inK G.T.g hmg
  have rv := vals_ints hints
  have lv := hints.length
  have main := fun (H : Hp) (hO : Only H) (hS : SqL (K w.params) H a (ns.map V.int)) => call_of (H := H) inK G.T.g G.T.b G.T.builtins G.T.nolimit hg hobj hr hF hb hO (hsp (K w.params) H a ns hlen hS)
  cases hk : (K w.params).lookup a with
  | some ob =>
    have e := inK a ob hk
    rw [hobj] at e
    cases e
    have none_ : ∀ {b : Addr} {z : HO}, (fun _ => none : Hp) b = some z → False := fun z => by cases z
    exact main (fun _ => none) (fun _ => .inl rfl) (.inr ⟨_, vs.toArray, _, hk, rfl, rfl, rfl, by rw [List.size_toArray, lv]; exact Nat.le_trans hlen hn2, by simpa using rv⟩) (fun b z y => (none_ (b := b) y).elim) (fun b z => absurd rfl z) fun z => absurd rfl z
  | none =>
    let ob : Obj := { cls := .type "list", data := .seq vs.toArray }
    have at_a : ∀ {b : Addr}, b = a → (fun b => if b = a then some (HO.frz ob (.lst (ns.map V.int))) else none : Hp) b = some (.frz ob (.lst (ns.map V.int))) := fun h => if_pos h
    have off_a : ∀ {b : Addr}, ¬ b = a → (fun b => if b = a then some (HO.frz ob (.lst (ns.map V.int))) else none : Hp) b = none := fun h => if_neg h
    refine main (fun b => if b = a then some (.frz ob (.lst (ns.map V.int))) else none) (fun b => ?_) (.inl (.inr ⟨ob, at_a rfl⟩)) (fun b u z => ?_) (fun b z => ?_) fun _ => hk
    · exact (Decidable.em (b = a)).elim (fun h => .inr ⟨_, _, at_a h⟩) fun h => .inl (off_a h)
    · by_cases h : b = a
      · have y := (at_a h).symm.trans z
        cases y
        subst h
        exact ⟨hobj, by rw [List.length_map]; exact Nat.le_trans hlen hn2, vs, _, rv, hobj⟩
      · exact absurd ((off_a h).symm.trans z) (fun y => by cases y)
    · exact (Decidable.em (b = a)).elim id fun h => absurd (off_a h) z
end Ft

/-! repr of data; the deck of draws -/
namespace Ft
open PySem L2 PySem.Spec PyProof.Rows

def rRepr (K : PySem.W.Frag) : List V → Hp → VK → Prop := fun xs H Q => ∃ a d, xs = [.ref a] ∧ Dp K H (.ref a) d ∧ d.showable = true ∧ d.hasDict = false ∧ d.depth ≤ 64 ∧ d.shown.length ≤ sizeLine ∧ Q (.str d.shown) H
theorem call_repr {X : Cx} {k : Nat} (hgd : X.A.guards = some []) (hr : Room k X.A) : CallR X (.builtin "repr") (rRepr X.K) := by
  intro pins s σ H xs us Q I r h
  obtain ⟨a, d, rfl, hd, h1, h2, h3, h4, q⟩ := h
  obtain ⟨u, rfl, rx⟩ := vals1 r
  obtain ⟨as, rd⟩ := Dp.reads I d (.ref a) u hd rx
  obtain rfl : u = Value.ref a := rx
  exact repr_of_reads' rd h1 (fun z => by rw [h2] at z; cases z) hgd (by have := hr.un; omega) (fun _ _ e => e) (fun h' u tk kept => ⟨.str d.shown, H, I.kept kept, ⟨_, rfl⟩, q⟩) h4

/-! ### the deck -/
def kCells : Key := .inr "cells"
def kMixed : Key := .inr "mixed"
def kDraws : Key := .inr "draws"
theorem ncm : ¬ kCells = kMixed := by decide +kernel
theorem ncd : ¬ kCells = kDraws := by decide +kernel
theorem nmd : ¬ kMixed = kDraws := by decide +kernel
theorem nmc : ¬ kMixed = kCells := by decide +kernel
theorem ndc : ¬ kDraws = kCells := by decide +kernel
def deckL (l : Addr) (mx dr : Int) : List (Key × V) := [(kCells, .ref l), (kMixed, .int mx), (kDraws, .int dr)]
theorem deck_cells {l : Addr} {mx dr : Int} : valV (deckL l mx dr) kCells = some (.ref l) := valV_pos rfl
theorem deck_mixed {l : Addr} {mx dr : Int} : valV (deckL l mx dr) kMixed = some (.int mx) := by
  unfold deckL
  rw [valV_neg ncm]
  exact valV_pos rfl
theorem deck_draws {l : Addr} {mx dr : Int} : valV (deckL l mx dr) kDraws = some (.int dr) := by
  unfold deckL
  rw [valV_neg ncd, valV_neg nmd]
  exact valV_pos rfl
theorem deck_put {l : Addr} {mx dr z : Int} : putK (deckL l mx dr) kDraws (.int z) = deckL l mx z := by
  unfold putK deckL
  rw [if_pos (by simp)]
  simp only [List.map_cons, List.map_nil, if_neg ncd, if_neg nmd, if_true]
/-- a deck at d, its list at l -/
def DeckAt (H : Hp) (d l : Addr) : Prop := ∃ (mx dr : Int) (cs : List Int), H d = some (.dK (deckL l mx dr)) ∧ H l = some (.lst (cs.map V.int)) ∧ cs.length ≤ 63
/-- all that was tracked is as it was, but at d and l -/
def But (d l : Addr) (H H' : Hp) : Prop := ∀ b o, H b = some o → b ≠ d → b ≠ l → H' b = some o
theorem But.refl {d l : Addr} {H : Hp} : But d l H H := fun _ _ h _ _ => h
theorem But.trans {d l : Addr} {H H1 H2 : Hp} (a : But d l H H1) (b : But d l H1 H2) : But d l H H2 := fun c o h h1 h2 => b c o (a c o h h1 h2) h1 h2
theorem But.of {d l : Addr} {H H' : Hp} (s : Same H H') : But d l H H' := fun b o h _ _ => s b o h
theorem Same.upd_new {H : Hp} {p : Addr} {o : HO} (h : H p = none) : Same H (upd H p o) := fun b u e => by rw [upd_ne (ne_of_none e h)]; exact e
theorem DeckAt.same {H H' : Hp} {d l : Addr} (D : DeckAt H d l) (s : Same H H') : DeckAt H' d l := by
  obtain ⟨mx, dr, cs, h1, h2, h3⟩ := D
  exact ⟨mx, dr, cs, s _ _ h1, s _ _ h2, h3⟩
theorem DeckAt.ne {H : Hp} {d l : Addr} (D : DeckAt H d l) : d ≠ l := by
  obtain ⟨mx, dr, cs, h1, h2, h3⟩ := D
  exact ne_of h1 h2 (by intro z; cases z)
/-- a new address is neither -/
theorem DeckAt.new {H : Hp} {d l p : Addr} (D : DeckAt H d l) (h : H p = none) : p ≠ d ∧ p ≠ l := by
  obtain ⟨mx, dr, cs, h1, h2, h3⟩ := D
  exact ⟨fun e => (by rw [e, h1] at h; cases h), fun e => (by rw [e, h2] at h; cases h)⟩
/-- draws: from 0 to below many; the deck stays a deck, all else stays -/
def sp_draw : Sp := fun vs H Q _ => ∃ (d l : Addr) (n : Int), vs = [.ref d, .int n] ∧ DeckAt H d l ∧ 0 < n ∧ n < 2 ^ 64 ∧ ∀ (H' : Hp) (r : Int), DeckAt H' d l → But d l H H' → 0 ≤ r → r < n → Q (.int r) H'
theorem sp_draw_len : ∀ vs H Q E, sp_draw vs H Q E → vs.length = 2 := fun _ _ _ _ ⟨_, _, _, e, _⟩ => by rw [e]; rfl
theorem dp_ints {K : PySem.W.Frag} {H : Hp} : ∀ ns : List Int, DpAll K H (ns.map V.int) (ns.map PyData.int)
  | [] => .nil
  | n :: ns => .cons (.int n) (dp_ints ns)
theorem eqv_nil : ∀ ds : List PyData, PyData.eqv (.list ds) (.list []) = ds.isEmpty
  | [] => rfl
  | _ :: _ => rfl
theorem deck_merge {l : Addr} {mx dr : Int} : mergeK [] (deckL l mx dr) = deckL l mx dr := by
  unfold mergeK deckL
  simp only [List.foldl_cons, List.foldl_nil]
  have h1 : putK ([] : List (Key × V)) kCells (.ref l) = [(kCells, V.ref l)] := rfl
  rw [h1]
  have h2 : putK [(kCells, V.ref l)] kMixed (.int mx) = [(kCells, V.ref l), (kMixed, V.int mx)] := putK_new _ (by rw [valV_neg ncm]; rfl)
  rw [h2]
  exact putK_new _ (by rw [valV_neg ncd, valV_neg nmd]; rfl)
/-- a slice of ints is one -/
theorem cut_ints (ns : List Int) (lo hi : Option Int) : ∃ ms : List Int, cutV (ns.map V.int) lo hi = ms.map V.int ∧ ms.length ≤ ns.length := by
  have hl := cutV_length (ns.map V.int) lo hi
  rw [List.length_map] at hl
  have h : cutV (ns.map V.int) lo hi = ((ns.drop (HT.sIx (ns.map V.int).length 0 lo)).take (HT.sIx (ns.map V.int).length (ns.map V.int).length hi - HT.sIx (ns.map V.int).length 0 lo)).map V.int := by
    unfold cutV
    rw [List.map_take, List.map_drop]
  refine ⟨_, h, ?_⟩
  rw [h, List.length_map] at hl
  exact hl
theorem int_at {ns : List Int} {i : Nat} {v : V} (h : (ns.map V.int)[i]? = some v) : ∃ z, v = .int z ∧ ns[i]? = some z := by
  rw [List.getElem?_map] at h
  cases e : ns[i]? with
  | none => rw [e] at h; cases h
  | some z => rw [e] at h; exact ⟨z, (Option.some.inj h).symm, rfl⟩
def sp_deck (K : PySem.W.Frag) : Sp := fun vs H Q _ => ∃ (a : Addr) (ns : List Int), vs = [.ref a] ∧ SqL K H a (ns.map V.int) ∧ ns.length ≤ 63 ∧ ∀ (H' : Hp) (d l : Addr), DeckAt H' d l → Same H H' → H d = none → H l = none → Q (.ref d) H'
theorem sp_deck_len {K : PySem.W.Frag} : ∀ vs H Q E, sp_deck K vs H Q E → vs.length = 1 := fun _ _ _ _ ⟨_, _, e, _⟩ => by rw [e]; rfl
/-- an item of a list that stands -/
def sp_pick (K : PySem.W.Frag) : Sp := fun vs H Q _ => ∃ (d l p : Addr) (xs : List V), vs = [.ref d, .ref p] ∧ DeckAt H d l ∧ (H p = some (.lst xs) ∧ p ≠ l ∨ H p = some (.tup xs)) ∧ 0 < xs.length ∧ xs.length < 2 ^ 64 ∧
  ∀ (H' : Hp) (v : V), DeckAt H' d l → But d l H H' → v ∈ xs → Q v H'
theorem sp_pick_len {K : PySem.W.Frag} : ∀ vs H Q E, sp_pick K vs H Q E → vs.length = 2 := fun _ _ _ _ ⟨_, _, _, _, e, _⟩ => by rw [e]; rfl
end Ft

namespace Ft
open PySem L2

/-! ### the mirror of the program's defs -/
def valueTwo (s : Int) : Int := if s % 2 = 0 then 0 else if s % 8 = 1 then 1 else -1
/-- a sign as an int: true is 1 -/
def sg (v : Bool) : Int := if v = true then 1 else -1
def halve (b : Nat) : Nat → Nat → Bool → Nat × Bool
  | 0, t, v => (t, v)
  | f + 1, t, v => if t % 2 = 0 then halve b f (t / 2) (if b % 8 = 3 ∨ b % 8 = 5 then !v else v) else (t, v)
def jac : Nat → Nat → Nat → Bool → Nat × Bool
  | 0, _, b, v => (b, v)
  | f + 1, t, b, v => if t = 0 then (b, v) else
    let r := halve b t t v
    jac f (b % r.1) r.1 (if r.1 % 4 = 3 ∧ b % 4 = 3 then !r.2 else r.2)
def valueOdd (top : Int) (b : Nat) : Int :=
  let r := jac b (top % (b : Int)).toNat b true
  if r.1 = 1 then sg r.2 else 0
def twos (z : Int) : Nat → Nat → Int → Nat × Int
  | 0, r, v => (r, v)
  | f + 1, r, v => if r % 2 = 0 then twos z f (r / 2) (v * z) else (r, v)
def valueRest (s : Int) (r : Nat) : Int :=
  if r = 0 then (if s = 1 then 1 else 0) else
    let q := twos (valueTwo s) r r 1
    q.2 * valueOdd s q.1
def valueAt (s n : Int) : Int := valueRest s (n % (s.natAbs : Int)).toNat
def sqs (p : Nat) : Nat → Nat → Nat
  | 0, r => r
  | f + 1, r => if r % (p * p) = 0 then sqs p f (r / (p * p)) else r
def wsq : Nat → Nat → Int → Nat → Nat × Int
  | 0, r, b, _ => (r, b)
  | f + 1, r, b, p => if p * p * p ≤ r then
      let r1 := sqs p r r
      if r1 % p = 0 then wsq f (r1 / p) (b * p) (p + 1) else wsq f r1 b (p + 1)
    else (r, b)
def without (m : Int) : Int :=
  let q := wsq m.natAbs m.natAbs (if 0 < m then 1 else -1) 2
  if Float64.isqrt q.1 * Float64.isqrt q.1 = q.1 then q.2 else q.2 * q.1
def anySign (m : Int) : Int := if without m % 4 = 1 then without m else 4 * without m
def isSign (n : Int) : Bool := decide (-400 ≤ n) && (decide (n ≤ 400) && (decide (n ≠ 0) && decide (anySign n = n)))

/-! ### promises -/
def sp1 (C : Int → Prop) (g : Int → V) : Sp := fun vs H Q _ => ∃ n, vs = [.int n] ∧ C n ∧ Q (g n) H
def sp2 (C : Int → Int → Prop) (g : Int → Int → V) : Sp := fun vs H Q _ => ∃ m n, vs = [.int m, .int n] ∧ C m n ∧ Q (g m n) H
def sp3 (C : Int → Int → Int → Prop) (g : Int → Int → Int → V) : Sp := fun vs H Q _ => ∃ l m n, vs = [.int l, .int m, .int n] ∧ C l m n ∧ Q (g l m n) H
theorem sp1_len {C g} : ∀ vs H Q E, sp1 C g vs H Q E → vs.length = 1 := fun _ _ _ _ ⟨_, e, _⟩ => by rw [e]; rfl
theorem sp2_len {C g} : ∀ vs H Q E, sp2 C g vs H Q E → vs.length = 2 := fun _ _ _ _ ⟨_, _, e, _⟩ => by rw [e]; rfl
theorem sp3_len {C g} : ∀ vs H Q E, sp3 C g vs H Q E → vs.length = 3 := fun _ _ _ _ ⟨_, _, _, e, _⟩ => by rw [e]; rfl
def sp_is_integer : Sp := sp1 (fun _ => True) fun _ => .bl true
def sp_is_between : Sp := sp3 (fun _ _ _ => True) fun n a b => .bl (decide (a ≤ n) && decide (n ≤ b))
def sp_check_integer : Sp := sp1 (fun _ => True) fun _ => .non
def sp_is_sign : Sp := sp1 (fun _ => True) fun n => .bl (isSign n)
def sp_check_sign : Sp := sp1 (fun n => isSign n = true) fun _ => .non
def sp_value_at_two : Sp := sp1 (fun _ => True) fun n => .int (valueTwo n)
def sp_value_at_odd : Sp := sp2 (fun _ b => 0 < b) fun t b => .int (valueOdd t b.toNat)
def sp_value_at : Sp := sp2 (fun s _ => s ≠ 0) fun s n => .int (valueAt s n)
def sp_sign_at : Sp := sp2 (fun s _ => isSign s = true) fun s n => .int (valueAt s n)
def sp_without_squares : Sp := sp1 (fun m => m ≠ 0 ∧ m.natAbs ≤ 160000) fun m => .int (without m)
def sp_any_sign_of : Sp := sp1 (fun m => m ≠ 0 ∧ m.natAbs ≤ 160000) fun m => .int (anySign m)
def sp_joined_sign : Sp := sp2 (fun a b => isSign a = true ∧ isSign b = true) fun a b => .int (anySign (a * b))

section
variable {P : Program} {w : World} {K : PySem.W.Frag} {mg : Str → Option Value} {base : Heap}
theorem ok_is_integer (D : Df K mg "is_integer" s_is_integer ["thing"]) (B : Bi mg)  : Cal P w K mg base 1 "is_integer" sp_is_integer := by
  obtain ⟨f, fd, F, m, b⟩ := D.ex
  have sc := sc_is_integer
  refine ⟨f, fd, _, F.ok sc sp1_len (fun cdv A outer s H vs Q E hr h => ?_), m, F.kp, b⟩
  obtain ⟨n, rfl, _, q⟩ := h
  have hu := hu_of hr
  refine ⟨_, (pss_one (ps_ret (pe_and (pe_callB call_isi (by rfl) B.isinstance (by decide +kernel) (pa_cons (pv 0) (pa_cons (pe_ty (n := "int") (by rfl) B.int_ (by decide +kernel)) pa_nil))) (pe_one (pe_not (pe_callB call_isi (by rfl) B.isinstance (by decide +kernel) (pa_cons (pv 0) (pa_cons (pe_ty (n := "bool") (by rfl) B.bool (by decide +kernel)) pa_nil)))))))), ?_⟩
  refine ⟨_, rfl, _, _, _, _, true, rfl, .ty _, .base (.int n), kit_int_int, true, rfl, iteT ?_⟩
  refine ⟨_, rfl, _, _, _, _, false, rfl, .ty _, .base (.int n), kit_int_bool, false, rfl, ?_⟩
  exact q
theorem ok_is_between (D : Df K mg "is_between" s_is_between ["thing", "least", "most"]) (c_is_integer : Cal P w K mg base 1 "is_integer" sp_is_integer) : Cal P w K mg base 2 "is_between" sp_is_between := by
  obtain ⟨f, fd, F, m, b⟩ := D.ex
  have sc := sc_is_between
  refine ⟨f, fd, _, F.ok sc sp3_len (fun cdv A outer s H vs Q E hr h => ?_), m, F.kp, b⟩
  obtain ⟨n, lo, hi, rfl, _, q⟩ := h
  have hu := hu_of hr
  refine ⟨_, (pss_one (ps_ret (pe_and (pe_c c_is_integer hr (by decide) (by rfl) (pa_cons (pv 0) pa_nil)) (pe_one (pe_chain op_le op_le (pv 1) (pv 0) (pv 2)))))), ?_⟩
  refine ⟨_, rfl, n, rfl, trivial, true, rfl, iteT ?_⟩
  refine ⟨_, rfl, _, rfl, lo, n, rfl, rfl, _, rfl, ?_⟩
  refine ifD (fun h => ?_) fun h => ?_
  · refine ⟨_, rfl, n, hi, rfl, rfl, ?_⟩
    simp only [decide_eq_true h, Bool.true_and] at q
    exact q
  · simp only [decide_eq_false h, Bool.false_and] at q
    exact q
end
end Ft

namespace Ft
open PySem L2
theorem sg_not (v : Bool) : -(sg v) = sg (!v) := by cases v <;> decide
theorem sg_true : sg true = 1 := by decide
/-- the int in slot i, as a measure -/
def m0 (i : Nat) (σ : L2.St) : Nat := match σ[i]? with
  | some (some (.int z)) => z.toNat
  | _ => 0
theorem st3 {a b c a' b' c' : Int} (h1 : a = a') (h2 : b = b') (h3 : c = c') : [some (V.int a), some (V.int b), some (V.int c)] = [some (V.int a'), some (V.int b'), some (V.int c')] := by rw [h1, h2, h3]
theorem halve_go {b f t : Nat} {v : Bool} (h : t % 2 = 0) : halve b (f + 1) t v = halve b f (t / 2) (if b % 8 = 3 ∨ b % 8 = 5 then !v else v) := by
  show (if t % 2 = 0 then _ else _) = _
  rw [if_pos h]
theorem halve_stop {b f t : Nat} {v : Bool} (h : ¬ t % 2 = 0) : halve b f t v = (t, v) := by
  cases f with
  | zero => rfl
  | succ f => show (if t % 2 = 0 then _ else _) = _; rw [if_neg h]
theorem jac_stop {b f : Nat} {v : Bool} : jac f 0 b v = (b, v) := by
  cases f with
  | zero => rfl
  | succ f => show (if (0:Nat) = 0 then _ else _) = _; rw [if_pos rfl]
theorem jac_go {b f t t' : Nat} {v v' : Bool} (h : t ≠ 0) (e : halve b t t v = (t', v')) : jac (f + 1) t b v = jac f (b % t') t' (if t' % 4 = 3 ∧ b % 4 = 3 then !v' else v') := by
  show (if t = 0 then _ else _) = _
  rw [if_neg h]
  dsimp only
  rw [e]

section
variable {P : Program} {w : World} {K : PySem.W.Frag} {mg : Str → Option Value} {base : Heap}
end
end Ft

namespace Ft
open PySem L2
theorem st4 {a b c d a' b' c' d' : Int} (h1 : a = a') (h2 : b = b') (h3 : c = c') (h4 : d = d') : [some (V.int a), some (V.int b), some (V.int c), some (V.int d)] = [some (V.int a'), some (V.int b'), some (V.int c'), some (V.int d')] := by rw [h1, h2, h3, h4]
theorem cdivN {i : Int} {n : Nat} (h0 : 0 < n) (h : n < 2 ^ 64) : CDivW i (n : Int) := wide_div (b := 64) (by omega) (by omega) (by decide) (by decide)
theorem cmulL {i : Int} {n : Nat} (h : n < 2 ^ 64) : CMul (n : Int) i := .inl ⟨by omega, by omega⟩
theorem cmulR {i : Int} {n : Nat} (h : n < 2 ^ 64) : CMul i (n : Int) := .inr ⟨by omega, by omega⟩
theorem twos_go {z : Int} {f r : Nat} {v : Int} (h : r % 2 = 0) : twos z (f + 1) r v = twos z f (r / 2) (v * z) := by
  show (if r % 2 = 0 then _ else _) = _
  rw [if_pos h]
theorem twos_stop {z : Int} {f r : Nat} {v : Int} (h : ¬ r % 2 = 0) : twos z f r v = (r, v) := by
  cases f with
  | zero => rfl
  | succ f => show (if r % 2 = 0 then _ else _) = _; rw [if_neg h]
theorem valueTwo_le (s : Int) : -1 ≤ valueTwo s ∧ valueTwo s ≤ 1 := by
  unfold valueTwo
  split
  · omega
  · split <;> omega
theorem sqs_go {p f r : Nat} (h : r % (p * p) = 0) : sqs p (f + 1) r = sqs p f (r / (p * p)) := by
  show (if r % (p * p) = 0 then _ else _) = _
  rw [if_pos h]
theorem sqs_stop {p f r : Nat} (h : ¬ r % (p * p) = 0) : sqs p f r = r := by
  cases f with
  | zero => rfl
  | succ f => show (if r % (p * p) = 0 then _ else _) = _; rw [if_neg h]
theorem wsq_stop {f r p : Nat} {b : Int} (h : ¬ p * p * p ≤ r) : wsq f r b p = (r, b) := by
  cases f with
  | zero => rfl
  | succ f => show (if p * p * p ≤ r then _ else _) = _; rw [if_neg h]
theorem wsq_go1 {f r p r1 : Nat} {b : Int} (h : p * p * p ≤ r) (e : sqs p r r = r1) (h1 : r1 % p = 0) : wsq (f + 1) r b p = wsq f (r1 / p) (b * p) (p + 1) := by
  show (if p * p * p ≤ r then _ else _) = _
  rw [if_pos h]
  dsimp only
  rw [e, if_pos h1]
theorem wsq_go2 {f r p r1 : Nat} {b : Int} (h : p * p * p ≤ r) (e : sqs p r r = r1) (h1 : ¬ r1 % p = 0) : wsq (f + 1) r b p = wsq f r1 b (p + 1) := by
  show (if p * p * p ≤ r then _ else _) = _
  rw [if_pos h]
  dsimp only
  rw [e, if_neg h1]
theorem cube_le {p r : Nat} (h : p * p * p ≤ r) (hp : 2 ≤ p) : p < r := by
  have h1 : 2 * p ≤ p * p := Nat.mul_le_mul_right p hp
  have h2 : p * p * 2 ≤ p * p * p := Nat.mul_le_mul_left (p * p) hp
  omega
theorem div_small {r q : Nat} (h : r % q = 0) (hr : 0 < r) (hq : 2 ≤ q) : 0 < r / q ∧ r / q < r := by
  refine ⟨?_, Nat.div_lt_self hr hq⟩
  have e := Nat.div_add_mod r q
  rw [h, Nat.add_zero] at e
  refine Nat.pos_of_ne_zero fun z => ?_
  rw [z, Nat.mul_zero] at e
  omega
theorem sq_small {p : Nat} (h : p ≤ 160001) : p * p < 2 ^ 64 := Nat.lt_of_le_of_lt (Nat.mul_le_mul h h) (by decide)
theorem isqrt_le (n : Nat) : Float64.isqrt n ≤ n := by
  have h := (Float64.isqrt_spec n).1
  rcases Nat.eq_zero_or_pos (Float64.isqrt n) with z | z
  · omega
  · exact Nat.le_trans (Nat.le_mul_of_pos_left _ z) h

section
variable {P : Program} {w : World} {K : PySem.W.Frag} {mg : Str → Option Value} {base : Heap}
theorem isSign_le {z : Int} (h : isSign z = true) : z.natAbs ≤ 400 ∧ z ≠ 0 ∧ anySign z = z := by
  unfold isSign at h
  simp only [Bool.and_eq_true, decide_eq_true_eq] at h
  omega
theorem mul_le_160000 {a b : Int} (ha : a.natAbs ≤ 400) (hb : b.natAbs ≤ 400) : (a * b).natAbs ≤ 160000 := by
  rw [Int.natAbs_mul]
  exact Nat.mul_le_mul ha hb
end
end Ft

namespace Ft
open PySem L2
theorem canLay_ints : ∀ ns : List Int, PyData.canLayAll0 (ns.map PyData.int) = true
  | [] => rfl
  | n :: ns => by
    show (true && PyData.canLayAll0 (ns.map PyData.int)) = true
    rw [canLay_ints ns]
    rfl
theorem depth_ints : ∀ ns : List Int, PyData.depthAll (ns.map PyData.int) = 0
  | [] => rfl
  | n :: ns => by
    show max 0 (PyData.depthAll (ns.map PyData.int)) = 0
    rw [depth_ints ns]
    rfl
theorem shaped_ints (ns : List Int) : SeqAt.shaped (.list (ns.map PyData.int)) = true := by
  unfold SeqAt.shaped
  rw [show PyData.canLay0 (.list (ns.map PyData.int)) = true from canLay_ints ns, show PyData.depth (.list (ns.map PyData.int)) = 0 + 1 from by rw [← depth_ints ns]; rfl]
  rfl
section
variable {P : Program} {w : World} {K : PySem.W.Frag} {mg : Str → Option Value} {base : Heap}
theorem ok_draw (D : Df K mg "_law_draw" s__law_draw ["_law_deck_here", "_law_many"]) (B : Bi mg) : Cal P w K mg base 1 "_law_draw" sp_draw := by
  obtain ⟨f, fd, F, m, b⟩ := D.ex
  have sc := sc__law_draw
  refine ⟨f, fd, _, F.ok sc sp_draw_len (fun cdv A outer s H vs Q E hr h => ?_), m, F.kp, b⟩
  obtain ⟨d, l, n, rfl, DK, hn0, hn1, q⟩ := h
  have hu := hu_of hr
  have h64 : (A.deeper (PyProof.Rows.envOfC "_law_draw" (defScope s__law_draw) s.heap.objs.size f cdv)).units + 64 < cLine := by have := hr.un; omega
  refine ⟨_, (pss_cons (ps_dput hu (pv 0) pe_str (pe_op op_add (pe_dget hu (pv 0) pe_str (fun _ _ => rfl)) pe_int) rfl)
      (pss_cons (ps_set (i := 2) sc.nd rfl (Or.inl rfl) (pe_op op_add (pe_dget hu (pv 0) pe_str (fun _ _ => rfl)) (pe_op op_mul pe_int (pe_dget hu (pv 0) pe_str (fun _ _ => rfl)))))
      (pss_cons (ps_if (pt_cmpR (op_neD h64) (pe_dget hu (pv 0) pe_str (fun _ _ => rfl)) (pe_lst pa_nil) (nomark _))
      (pss_cons (ps_set (i := 3) sc.nd rfl (Or.inl rfl) (pe_bm0 PySem.F.plainAttrs_list PySem.F.slot_list_pop PySem.F.type_list_pop mt_pop (pe_dget hu (pv 0) pe_str (fun _ _ => rfl))))
        (pss_cons (ps_if (pt_cmpR op_ge (pv 3) (pe_op op_pow pe_int pe_int) (nomark _))
        (pss_cons (ps_expr (pe_bm PySem.F.plainAttrs_list PySem.F.slot_list_append PySem.F.type_list_append mt_append (pe_dget hu (pv 0) pe_str (fun _ _ => rfl)) (pa_cons (pe_op op_fdivW (pv 3) (pe_callB (call_max2 rfl) (by rfl) B.max_ (by decide +kernel) (pa_cons pe_int (pa_cons (pv 1) pa_nil)))) pa_nil)))
          (pss_one (ps_ret (pe_op op_mod (pe_callTy call_int1 (by rfl) B.int_ (by decide +kernel) (pa_cons (pv 3) pa_nil)) (pv 1)))))
        pss_nil)
        (pss_one (ps_set (i := 2) sc.nd rfl (Or.inl rfl) (pe_op op_add (pv 2) (pe_op op_mod (pe_callTy call_int1 (by rfl) B.int_ (by decide +kernel) (pa_cons (pv 3) pa_nil)) pe_int))))))
      pss_nil)
      (pss_cons (ps_set (i := 2) sc.nd rfl (Or.inl rfl) (pe_op op_mod (pe_callTy call_int1 (by rfl) B.int_ (by decide +kernel) (pa_cons (pe_op op_add (pe_op op_mul (pv 2) pe_int) pe_int) pa_nil)) pe_int))
      (pss_cons (ps_set (i := 2) sc.nd rfl (Or.inl rfl) (pe_op op_mod (pe_callTy call_int1 (by rfl) B.int_ (by decide +kernel) (pa_cons (pe_op op_add (pe_op op_add (pe_op op_mul (pv 2) (pv 2)) (pe_op op_mul pe_int (pe_dget hu (pv 0) pe_str (fun _ _ => rfl)))) pe_int) pa_nil)) pe_int))
      (pss_cons (ps_set (i := 2) sc.nd rfl (Or.inl rfl) (pe_op op_mod (pe_callTy call_int1 (by rfl) B.int_ (by decide +kernel) (pa_cons (pe_op op_mul (pv 2) pe_int) pa_nil)) pe_int))
      (pss_one (ps_ret (pe_op op_mod (pe_callTy call_int1 (by rfl) B.int_ (by decide +kernel) (pa_cons (pe_op op_fdivW (pv 2) pe_int) pa_nil)) (pv 1)))))))))), ?_⟩
  have dl := DK.ne
  obtain ⟨mx, dr, cs, hd, hl, hcs⟩ := DK
  -- draws + 1
  have gd := DGet.k (k := kDraws) hd
  rw [deck_draws] at gd
  have pd := DPut.k (k := kDraws) (v := .int (dr + 1)) hd (Nat.lt_of_le_of_lt (Nat.le_of_eq rfl : (deckL l mx dr).length ≤ 3) (by decide))
  rw [deck_put] at pd
  refine ⟨_, rfl, d, _, rfl, gd, _, _, rfl, rfl, _, rfl, d, _, rfl, pd, ?_⟩
  generalize hH1 : upd H d (.dK (deckL l mx (dr + 1))) = H1
  have hd1 : H1 d = some (.dK (deckL l mx (dr + 1))) := by rw [← hH1]; exact upd_same
  have hl1 : H1 l = some (.lst (cs.map V.int)) := by rw [← hH1, upd_ne dl.symm]; exact hl
  have b1 : But d l H H1 := fun b o e h1 h2 => by rw [← hH1, upd_ne h1]; exact e
  have gd1 := DGet.k (k := kDraws) hd1
  rw [deck_draws] at gd1
  have gm1 := DGet.k (k := kMixed) hd1
  rw [deck_mixed] at gm1
  have gc1 := DGet.k (k := kCells) hd1
  rw [deck_cells] at gc1
  refine ⟨_, rfl, d, _, rfl, gm1, _, rfl, d, _, rfl, gd1, _, _, rfl, rfl, .inl ⟨by decide, by decide⟩, _, _, rfl, rfl, ?_⟩
  dsimp only [gName]
  refine tSeq_join (fun σ H2 => ∃ (z : Int) (o : Option V), σ = [some (.ref d), some (.int n), some (.int z), o] ∧ DeckAt H2 d l ∧ But d l H H2) (fun N hN => ?_) ?_
  · -- if cells != []
    refine ⟨_, rfl, d, _, rfl, gc1, Nat.zero_le _, fun p hp => ?_⟩
    have s2 : Same H1 (upd H1 p (.lst [])) := Same.upd_new hp
    generalize hH2 : upd H1 p (.lst []) = H2 at s2
    have hd2 := s2 _ _ hd1
    have hl2 := s2 _ _ hl1
    have hp2 : H2 p = some (.lst []) := by rw [← hH2]; exact upd_same
    have b2 : But d l H H2 := b1.trans (But.of s2)
    have gc2 := DGet.k (k := kCells) hd2
    rw [deck_cells] at gc2
    refine ⟨_, _, .lst (SqL.of hl2) (dp_ints cs), .lst (SqL.of hp2) .nil, shaped_ints cs, by decide, _, rfl, ?_⟩
    rw [eqv_nil]
    cases hcc : cs with
    | nil =>
      refine iteF ?_
      exact hN _ _ ⟨_, none, rfl, ⟨mx, dr + 1, [], hd2, by rw [hcc] at hl2; exact hl2, by decide⟩, b2⟩
    | cons c0 cr =>
      refine iteT ?_
      -- cell = cells.pop()
      have hlast : ∃ c, (cs.map V.int)[(cs.map V.int).length - 1]? = some (V.int c) := by
        have hn : cs.length - 1 < cs.length := by rw [hcc]; exact Nat.sub_lt (Nat.succ_pos _) (by decide)
        exact ⟨cs[cs.length - 1], by rw [List.length_map, List.getElem?_map, List.getElem?_eq_getElem hn]; rfl⟩
      obtain ⟨c, hlast⟩ := hlast
      have hdrop : (cs.map V.int).dropLast = cs.dropLast.map V.int := by rw [List.map_dropLast]
      have ldrop : cs.dropLast.length ≤ 62 := by rw [List.length_dropLast]; omega
      have hne : l ≠ d := dl.symm
      refine ⟨_, rfl, d, _, rfl, gc2, .inl ⟨rfl, _, SqL.of hl2⟩, l, _, _, rfl, rfl, hl2, hlast, ?_⟩
      rw [hdrop]
      generalize hH3 : upd H2 l (.lst (cs.dropLast.map V.int)) = H3
      have hl3 : H3 l = some (.lst (cs.dropLast.map V.int)) := by rw [← hH3]; exact upd_same
      have hd3 : H3 d = some (.dK (deckL l mx (dr + 1))) := by rw [← hH3, upd_ne dl]; exact hd2
      have b3 : But d l H H3 := b2.trans fun b o e _ h2 => by rw [← hH3, upd_ne h2]; exact e
      have gc3 := DGet.k (k := kCells) hd3
      rw [deck_cells] at gc3
      refine ⟨_, rfl, _, _, rfl, rfl, ⟨by decide, by decide, by decide⟩, _, _, rfl, rfl, _, rfl, ifD (fun hbig => ?_) fun hbig => ?_⟩
      · -- cells.append(cell // max(2, many)); return int(cell) % many
        have hmx : (if n > 2 then n else 2) = max 2 n := by by_cases h : n > 2 <;> simp only [h, if_true, if_false] <;> omega
        refine ⟨_, rfl, d, _, rfl, gc3, .inl ⟨rfl, _, SqL.of hl3⟩, _, rfl, _, rfl, 2, n, rfl, _, _, rfl, rfl, ?_, ?_⟩
        · show CDivW c (if n > 2 then n else 2)
          exact wide_div (b := 64) (by split <;> omega) (by split <;> omega) (by decide) (by decide)
        refine ⟨l, _, _, rfl, rfl, hl3, Nat.lt_of_le_of_lt (by rw [List.length_map]; exact ldrop) (by decide : (62 : Nat) < sizeLine), ?_⟩
        have happ : cs.dropLast.map V.int ++ [V.int (c / (if n > 2 then n else 2))] = (cs.dropLast ++ [c / (if n > 2 then n else 2)]).map V.int := by rw [List.map_append]; rfl
        refine ⟨_, rfl, .inl ⟨c, rfl, ?_⟩⟩
        refine ⟨_, rfl, _, _, rfl, rfl, hn0, ?_⟩
        refine q _ _ ⟨mx, dr + 1, cs.dropLast ++ [c / (if n > 2 then n else 2)], by rw [upd_ne dl]; exact hd3, by rw [upd_same]; exact congrArg (fun z => some (HO.lst z)) happ, by rw [List.length_append]; exact Nat.add_le_add ldrop (Nat.le_refl 1)⟩ (b3.trans fun b o e _ h2 => by rw [upd_ne h2]; exact e) (Int.emod_nonneg _ (by omega)) (Int.emod_lt_of_pos _ hn0)
      · refine ⟨_, rfl, _, rfl, .inl ⟨c, rfl, ?_⟩⟩
        refine ⟨_, _, rfl, rfl, (by show (0 : Int) < 2147483629; decide), _, _, rfl, rfl, ?_⟩
        exact hN _ _ ⟨_, _, rfl, ⟨mx, dr + 1, cs.dropLast, hd3, hl3, Nat.le_trans ldrop (by decide)⟩, b3⟩
  · rintro _ H4 ⟨z, o, rfl, DK4, b4⟩
    obtain ⟨mx, dr, cs, hd4, hl4, hcs4⟩ := id DK4
    have gd4 := DGet.k (k := kDraws) hd4
    rw [deck_draws] at gd4
    refine ⟨_, rfl, _, _, rfl, rfl, .inr ⟨by decide, by decide⟩, _, _, rfl, rfl, .inl ⟨_, rfl, _, _, rfl, rfl, (by show (0 : Int) < 2147483647; decide), ?_⟩⟩
    have y0 := Int.emod_nonneg (z * 39373 + 59) (b := 2147483647) (by decide)
    have y1 := Int.emod_lt_of_pos (z * 39373 + 59) (b := 2147483647) (by decide)
    refine ⟨_, rfl, _, rfl, _, _, rfl, rfl, .inl ⟨by omega, by omega⟩, _, rfl, d, _, rfl, gd4, _, _, rfl, rfl, .inl ⟨by decide, by decide⟩, _, _, rfl, rfl, _, _, rfl, rfl, .inl ⟨_, rfl, _, _, rfl, rfl, (by show (0 : Int) < 2147483587; decide), ?_⟩⟩
    refine ⟨_, rfl, _, _, rfl, rfl, .inr ⟨by decide, by decide⟩, .inl ⟨_, rfl, _, _, rfl, rfl, (by show (0 : Int) < 2147483563; decide), ?_⟩⟩
    refine ⟨_, rfl, _, _, rfl, rfl, ⟨by decide, by decide⟩, .inl ⟨_, rfl, _, rfl, _, _, rfl, rfl, hn0, ?_⟩⟩
    exact q _ _ DK4 b4 (Int.emod_nonneg _ (by omega)) (Int.emod_lt_of_pos _ hn0)
end
end Ft

namespace Ft
open PySem L2
section
variable {P : Program} {w : World} {K : PySem.W.Frag} {mg : Str → Option Value} {base : Heap}
theorem ok_deck (D : Df K mg "_law_deck" s__law_deck ["_law_script"]) (B : Bi mg)  : Cal P w K mg base 1 "_law_deck" (sp_deck K) := by
  obtain ⟨f, fd, F, m, b⟩ := D.ex
  have sc := sc__law_deck
  refine ⟨f, fd, _, F.ok sc sp_deck_len (fun cdv A outer s H vs Q E hr h => ?_), m, F.kp, b⟩
  obtain ⟨a, ns, rfl, hS, hlen, q⟩ := h
  have hu := hu_of hr
  refine ⟨_, (pss_cons (ps_set (i := 1) sc.nd rfl (Or.inl rfl) pe_int)
      (pss_cons (ps_for PassesOwn.never rfl (pi_list (pe_slice sl_list (pv 0) po_none (po_some pe_int))) (pg_name (i := 2) sc.nd rfl (Or.inl rfl))
      (pss_one (ps_set (i := 1) sc.nd rfl (Or.inl rfl) (pe_op op_mod (pe_callTy call_int1 (by rfl) B.int_ (by decide +kernel) (pa_cons (pe_op op_add (pe_op op_add (pe_op op_mul (pv 1) pe_int) (pe_op op_mod (pe_callTy call_int1 (by rfl) B.int_ (by decide +kernel) (pa_cons (pv 2) pa_nil)) pe_int)) pe_int) pa_nil)) pe_int))))
      (pss_one (ps_ret (pe_disp (pps_cons pe_str (pe_revL (pe_callTy call_list_of (by rfl) B.list (by decide +kernel) (pa_cons (pe_slice sl_list (pv 0) po_none (po_some pe_int)) pa_nil))) (pps_cons pe_str (pv 1) (pps_cons pe_str pe_int pps_nil))) (by rfl) (by rfl) (fun z => by cases z) (by decide)))))), ?_⟩
  refine ⟨_, rfl, _, rfl, a, _, rfl, hS, fun p hp => ?_⟩
  obtain ⟨ms, hms, lms⟩ := cut_ints ns none (some 63)
  rw [hms]
  have s1 : Same H (upd H p (.lst (ms.map V.int))) := Same.upd_new hp
  generalize hH1 : upd H p (.lst (ms.map V.int)) = H1 at s1
  have hp1 : H1 p = some (.lst (ms.map V.int)) := by rw [← hH1]; exact upd_same
  refine ⟨p, rfl, ⟨_, SqL.of hp1⟩, for_list (K := K) (a := p) (xs := ms.map V.int) (fun i σ H2 => H1 = H2 ∧ ∃ (z : Int) (o : Option V), σ = [some (.ref a), some (.int z), o]) ⟨rfl, _, none, rfl⟩ (fun i σ H2 _ ⟨e, _⟩ => by rw [← e]; exact SqL.of hp1) ?_ ?_⟩
  · rintro i x σ _ hi ⟨rfl, z, o, rfl⟩
    obtain ⟨c, rfl, _⟩ := int_at hi
    refine ⟨_, rfl, _, _, rfl, rfl, .inr ⟨by decide, by decide⟩, _, rfl, .inl ⟨c, rfl, _, _, rfl, rfl, (by show (0 : Int) < 2147483629; decide), _, _, rfl, rfl, _, _, rfl, rfl, .inl ⟨_, rfl, _, _, rfl, rfl, (by show (0 : Int) < 2147483587; decide), ?_⟩⟩⟩
    exact ⟨rfl, _, _, rfl⟩
  · rintro σ _ ⟨rfl, z, o, rfl⟩
    intro d hd
    have s2 : Same H1 (upd H1 d (.dK [])) := Same.upd_new hd
    generalize hH2 : upd H1 d (.dK []) = H2 at s2
    have hd2 : H2 d = some (.dK []) := by rw [← hH2]; exact upd_same
    refine ⟨_, rfl, _, rfl, a, _, rfl, s2.seq (s1.seq hS), fun p2 hp2 => ?_⟩
    rw [hms]
    have s3 : Same H2 (upd H2 p2 (.lst (ms.map V.int))) := Same.upd_new hp2
    generalize hH3 : upd H2 p2 (.lst (ms.map V.int)) = H3 at s3
    have h3 : H3 p2 = some (.lst (ms.map V.int)) := by rw [← hH3]; exact upd_same
    refine ⟨p2, _, rfl, .inl (SqL.of h3), fun p3 hp3 => ?_⟩
    have s4 : Same H3 (upd H3 p3 (.lst (ms.map V.int))) := Same.upd_new hp3
    generalize hH4 : upd H3 p3 (.lst (ms.map V.int)) = H4 at s4
    have h4 : H4 p3 = some (.lst (ms.map V.int)) := by rw [← hH4]; exact upd_same
    refine ⟨p3, _, rfl, SqL.of h4, fun l hl => ?_⟩
    have s5 : Same H4 (upd H4 l (.lst (ms.map V.int).reverse)) := Same.upd_new hl
    generalize hH5 : upd H4 l (.lst (ms.map V.int).reverse) = H5 at s5
    have h5 : H5 l = some (.lst (ms.reverse.map V.int)) := by rw [← hH5, List.map_reverse]; exact upd_same
    have sA := s1.trans (s2.trans (s3.trans (s4.trans s5)))
    have hd5 : H5 d = some (.dK []) := s5 _ _ (s4 _ _ (s3 _ _ hd2))
    have dl : d ≠ l := ne_of hd5 h5 (by intro z; cases z)
    refine ⟨_, rfl, hd5, deckL l z 0, rfl, (by show (3 : Nat) ≤ 15; decide), ?_⟩
    rw [deck_merge]
    have hd0 : H d = none := s1.free hd
    have hl0 : H l = none := s1.free (s2.free (s3.free (s4.free hl)))
    refine q _ d l ⟨z, 0, ms.reverse, upd_same, by rw [upd_ne dl.symm]; exact h5, by rw [List.length_reverse]; omega⟩ (fun b u e => ?_) hd0 hl0
    rw [upd_ne (ne_of_none e hd0)]
    exact sA _ _ e
end
end Ft

namespace Ft
open PySem L2
/-- two keywords, in the other order -/
def swapV : List V → List V → List V := fun us zs => match us, zs with
  | [], [a, b] => [b, a]
  | _, _ => []
def swapU : List Value → List Value → List Value := fun us zs => match us, zs with
  | [], [a, b] => [b, a]
  | _, _ => []
theorem swap_rel : ∀ {vs : List V} {us : List Value} {zs : List V} {ws : List Value}, Vals vs us → Vals zs ws → Vals (swapV vs zs) (swapU us ws)
  | _, _, _, _, .nil, .nil => .nil
  | _, _, _, _, .nil, .cons _ .nil => .nil
  | _, _, _, _, .nil, .cons a (.cons b .nil) => .cons b (.cons a .nil)
  | _, _, _, _, .nil, .cons _ (.cons _ (.cons _ _)) => .nil
  | _, _, _, _, .cons _ _, _ => .nil
end Ft

set_option exponentiation.threshold 9000
namespace Ft
open PySem L2
/-! ### beginnings: a number and a tuple of numbers -/
theorem kit_tup_tup {K : PySem.W.Frag} : PySem.W.kitOne K (.type "tuple") (.type "tuple") = some true := kit_ty (by decide +kernel)
theorem kit_int_int' {K : PySem.W.Frag} : PySem.W.kitOne K (.type "int") (.type "int") = some true := kit_ty (by decide +kernel)
def Bg (H : Hp) (v : V) (b : Int) (ts : List Int) : Prop := ∃ p q, v = .ref p ∧ H p = some (.tup [.int b, .ref q]) ∧ H q = some (.tup (ts.map V.int))
theorem Bg.same {H H' : Hp} {v : V} {b : Int} {ts : List Int} (h : Bg H v b ts) (s : Same H H') : Bg H' v b ts := by
  obtain ⟨p, q, e, h1, h2⟩ := h
  exact ⟨p, q, e, s _ _ h1, s _ _ h2⟩
/-- what the document calls a beginning -/
def BgOk (b : Int) (ts : List Int) : Prop := 1 ≤ b ∧ 1 ≤ ts.length ∧ ts.length ≤ 400
def gcdL (g : Nat) (ts : List Int) : Nat := ts.foldl (fun g t => Nat.gcd g t.natAbs) g
def lowB (b : Int) (ts : List Int) : Int := b / ((gcdL b.natAbs ts : Nat) : Int)
def lowT (b : Int) (ts : List Int) : List Int := ts.map fun t => t / ((gcdL b.natAbs ts : Nat) : Int)
theorem gcdL_one : ∀ ts : List Int, gcdL 1 ts = 1
  | [] => rfl
  | t :: ts => by
    show gcdL (Nat.gcd 1 t.natAbs) ts = 1
    rw [Nat.gcd_one_left]
    exact gcdL_one ts
theorem gcdL_dvd : ∀ (ts : List Int) (g : Nat), gcdL g ts ∣ g
  | [], g => Nat.dvd_refl g
  | t :: ts, g => Nat.dvd_trans (gcdL_dvd ts (Nat.gcd g t.natAbs)) (Nat.gcd_dvd_left _ _)
theorem gcdL_drop {ts : List Int} {i : Nat} {z : Int} (h : ts[i]? = some z) (g : Nat) : gcdL g (ts.drop i) = gcdL (Nat.gcd g z.natAbs) (ts.drop (i + 1)) := by
  obtain ⟨hi, rfl⟩ := List.getElem?_eq_some_iff.mp h
  rw [List.drop_eq_getElem_cons hi]
  rfl
theorem take_snoc {ts : List Int} {i : Nat} {z : Int} (h : ts[i]? = some z) : ts.take (i + 1) = ts.take i ++ [z] := by
  rw [List.take_add_one, h]
  rfl
theorem all_true : ∀ n : Nat, (List.replicate n true).all id = true
  | 0 => rfl
  | n + 1 => by rw [List.replicate_succ, List.all_cons, all_true n]; rfl
def sp_from : Sp := fun vs H Q _ => ∃ n a : Int, vs = [.int n, .int a] ∧ Q (.bl (decide (a ≤ n))) H
def sp_checkFrom : Sp := fun vs H Q _ => ∃ n a : Int, vs = [.int n, .int a] ∧ a ≤ n ∧ Q .non H
def sp_isBeg : Sp := fun vs H Q _ => ∃ v b ts, vs = [v] ∧ Bg H v b ts ∧ BgOk b ts ∧ ∀ H', Same H H' → Q (.bl true) H'
def sp_checkBeg : Sp := fun vs H Q _ => ∃ v b ts, vs = [v] ∧ Bg H v b ts ∧ BgOk b ts ∧ ∀ H', Same H H' → Q .non H'
def sp_lowered : Sp := fun vs H Q _ => ∃ (b : Int) (p : Addr) (ts : List Int), vs = [.int b, .ref p] ∧ H p = some (.lst (ts.map V.int)) ∧ 0 < b ∧ b.natAbs < 2 ^ 8000 ∧ ts.length ≤ 1000 ∧ ∀ H' v, Same H H' → Bg H' v (lowB b ts) (lowT b ts) → Q v H'
section
variable {P : Program} {w : World} {K : PySem.W.Frag} {mg : Str → Option Value} {base : Heap}
theorem ok_check_between (D : Df K mg "check_between" s_check_between ["thing", "least", "most"]) (c_is_between : Cal P w K mg base 2 "is_between" sp_is_between) : Cal P w K mg base 3 "check_between" (sp3 (fun n a b => a ≤ n ∧ n ≤ b) fun _ _ _ => .non) := by
  obtain ⟨f, fd, F, m, b⟩ := D.ex
  have sc := sc_check_between
  refine ⟨f, fd, _, F.ok sc sp3_len (fun cdv A outer s H vs Q E hr h => ?_), m, F.kp, b⟩
  obtain ⟨n, lo, hi, rfl, hb, q⟩ := h
  refine ⟨_, (pss_one (ps_if (pt_not (pt_val (pe_c c_is_between hr (by decide) (by rfl) (pa_cons (pv 0) (pa_cons (pv 1) (pa_cons (pv 2) pa_nil))))))
      (pss_one ps_never)
      pss_nil)), ?_⟩
  refine ⟨_, rfl, _, rfl, _, rfl, n, lo, hi, rfl, trivial, _, rfl, ?_⟩
  rw [decide_eq_true hb.1, decide_eq_true hb.2]
  exact iteF q
theorem ok_is_from (D : Df K mg "is_from" s_is_from ["thing", "least"]) (c_is_integer : Cal P w K mg base 1 "is_integer" sp_is_integer) : Cal P w K mg base 2 "is_from" sp_from := by
  obtain ⟨f, fd, F, m, b⟩ := D.ex
  have sc := sc_is_from
  refine ⟨f, fd, _, F.ok sc (fun _ _ _ _ ⟨_, _, e, _⟩ => by rw [e]; rfl) (fun cdv A outer s H vs Q E hr h => ?_), m, F.kp, b⟩
  obtain ⟨n, a, rfl, q⟩ := h
  refine ⟨_, (pss_one (ps_ret (pe_and (pe_c c_is_integer hr (by decide) (by rfl) (pa_cons (pv 0) pa_nil)) (pe_one (pe_cmpR op_ge (pv 0) (pv 1) (nomark _)))))), ?_⟩
  refine ⟨_, rfl, n, rfl, trivial, true, rfl, iteT ?_⟩
  exact ⟨_, rfl, _, rfl, _, _, rfl, rfl, q⟩
theorem ok_is_beginning (D : Df K mg "is_beginning" s_is_beginning ["thing"]) (B : Bi mg) (c_is_from : Cal P w K mg base 2 "is_from" sp_from) (c_is_integer : Cal P w K mg base 1 "is_integer" sp_is_integer) : Cal P w K mg base 3 "is_beginning" sp_isBeg := by
  obtain ⟨f, fd, F, m, b⟩ := D.ex
  have sc := sc_is_beginning
  refine ⟨f, fd, _, F.ok sc (fun _ _ _ _ ⟨_, _, _, e, _⟩ => by rw [e]; rfl) (fun cdv A outer s H vs Q E hr h => ?_), m, F.kp, b⟩
  obtain ⟨v, b, ts, rfl, ⟨p, r, rfl, hp, hr2⟩, hb, q⟩ := h
  refine ⟨_, (pss_cons (ps_if (PW.pt (pw_or (pt_not (pt_val (pe_callB (id := "isinstance") (r := rIsi K) call_isi (by rfl) B.isinstance (by decide +kernel) (pa_cons (pv 0) (pa_cons (pe_ty (n := "tuple") (by rfl) B.tuple (by decide +kernel)) pa_nil))))) (pw_or1 (pt_cmpR op_ne (pe_callB call_len_seq (by rfl) B.len_ (by decide +kernel) (pa_cons (pv 0) pa_nil)) pe_int (nomark _)))))
      (pss_one (ps_ret pe_bl))
      pss_nil)
      (pss_cons (ps_asg (pv 0) (pg_tup rfl (pgs_cons (pg_name (i := 1) sc.nd rfl (Or.inl rfl)) (pgs_cons (pg_name (i := 2) sc.nd rfl (Or.inl rfl)) pgs_nil))))
      (pss_cons (ps_if (PW.pt (pw_or (pt_not (pt_val (pe_c c_is_from hr (by decide) (by rfl) (pa_cons (pv 1) (pa_cons pe_int pa_nil))))) (pw_or1 (pt_not (pt_val (pe_callB (id := "isinstance") (r := rIsi K) call_isi (by rfl) B.isinstance (by decide +kernel) (pa_cons (pv 2) (pa_cons (pe_ty (n := "tuple") (by rfl) B.tuple (by decide +kernel)) pa_nil))))))))
      (pss_one (ps_ret pe_bl))
      pss_nil)
      (pss_one (ps_ret (pe_and (pe_chain op_le op_le pe_int (pe_callB call_len_seq (by rfl) B.len_ (by decide +kernel) (pa_cons (pv 2) pa_nil)) pe_int) (pe_one (pe_callB (cr_all rfl) (by rfl) B.all (by decide +kernel) (pa_cons (pe_lc (own := [("top", 3)]) (g := gName 3) (tt := tYes) (by rfl) sc.nd (pi_tup (pv 2)) (blkOk_by (own := [("top", 3)]) (N := N_is_beginning) (sc := defScope s_is_beginning) (by decide +kernel)) (fun _ _ _ _ _ => (pg_name (i := 3) sc.nd rfl (Or.inl rfl))) (fun _ _ _ _ _ => pts_nil) (fun _ _ _ _ _ => (pe_c c_is_integer hr (by decide) (by rfl) (pa_cons (pv 3) pa_nil)))) pa_nil))))))))), ?_⟩
  have l1 := hb.2.1
  have l2 := hb.2.2
  refine ⟨_, rfl, _, _, _, _, true, rfl, .ty _, .base (.tup hp), kit_tup_tup, true, rfl, iteF ?_⟩
  refine ⟨_, rfl, p, _, rfl, .inr (SqT.of hp), rfl, _, rfl, ifNI (fun e => absurd rfl e) fun _ => ?_⟩
  dsimp only [tNext]
  refine ⟨_, rfl, p, _, rfl, SqT.of hp, rfl, ?_⟩
  refine ⟨_, _, rfl, _, _, rfl, rfl, ?_⟩
  refine ⟨_, rfl, b, 1, rfl, _, rfl, ?_⟩
  rw [decide_eq_true hb.1]
  refine iteF ?_
  refine ⟨_, rfl, _, _, _, _, true, rfl, .ty _, .base (.tup hr2), kit_tup_tup, true, rfl, iteF ?_⟩
  dsimp only [tNext]
  have ll : (ts.map V.int).length = ts.length := List.length_map ..
  refine ⟨_, rfl, r, _, rfl, .inr (SqT.of hr2), 1, _, rfl, rfl, _, rfl, ifD (fun _ => ?_) fun h => absurd (by rw [ll]; omega) h⟩
  refine ⟨_, _, rfl, rfl, _, rfl, ifD (fun _ => ?_) fun h => absurd (by rw [ll]; omega) h⟩
  refine ⟨_, rfl, r, rfl, ⟨_, SqT.of hr2⟩, fun D1 hD1 => ?_⟩
  refine lc_it (walk_tup (xs := ts.map V.int)) (fun i H' => Same H H' ∧ H' D1 = some (.lst ((List.replicate i true).map V.bl))) ⟨Same.upd_new hD1, upd_same⟩ (fun i H' _ ⟨s2, _⟩ => SqT.of (s2 _ _ hr2)) ?_ ?_
  · rintro i u H2 H3 hi ⟨s2, h2⟩ ⟨rfl, hu⟩
    obtain ⟨z, rfl, _⟩ := int_at hu
    refine ⟨rfl, ?_⟩
    refine ⟨_, rfl, z, rfl, trivial, _, h2, ?_, fun b o e => ?_, ?_⟩
    · rw [List.length_map, List.length_replicate]
      exact Nat.lt_of_le_of_lt (by omega : i ≤ 400) (by decide)
    · rw [upd_ne (ne_of_none e hD1)]
      exact s2 _ _ e
    · rw [upd_same, List.replicate_succ', List.map_append]
      rfl
  · rintro H2 ⟨s2, h2⟩
    refine ⟨D1, _, rfl, SqL.of h2, ?_⟩
    rw [all_true]
    exact q H2 s2
theorem ok_check_beginning (D : Df K mg "check_beginning" s_check_beginning ["beginning"]) (c_is_beginning : Cal P w K mg base 3 "is_beginning" sp_isBeg) : Cal P w K mg base 4 "check_beginning" sp_checkBeg := by
  obtain ⟨f, fd, F, m, b⟩ := D.ex
  have sc := sc_check_beginning
  refine ⟨f, fd, _, F.ok sc (fun _ _ _ _ ⟨_, _, _, e, _⟩ => by rw [e]; rfl) (fun cdv A outer s H vs Q E hr h => ?_), m, F.kp, b⟩
  obtain ⟨v, b, ts, rfl, hv, hb, q⟩ := h
  refine ⟨_, (pss_one (ps_if (pt_not (pt_val (pe_c c_is_beginning hr (by decide) (by rfl) (pa_cons (pv 0) pa_nil))))
      (pss_one ps_never)
      pss_nil)), ?_⟩
  refine ⟨_, rfl, v, b, ts, rfl, hv, hb, fun H1 s1 => ⟨_, rfl, iteF ?_⟩⟩
  exact q H1 s1
theorem ok_lowered (D : Df K mg "lowered" s_lowered ["bottom", "tops"]) (B : Bi mg)  : Cal P w K mg base 1 "lowered" sp_lowered := by
  obtain ⟨f, fd, F, m, b⟩ := D.ex
  have sc := sc_lowered
  refine ⟨f, fd, _, F.ok sc (fun _ _ _ _ ⟨_, _, _, e, _⟩ => by rw [e]; rfl) (fun cdv A outer s H vs Q E hr h => ?_), m, F.kp, b⟩
  obtain ⟨b, p, ts, rfl, hp, b0, b1, tl, q⟩ := h
  refine ⟨_, (pss_cons (ps_set (i := 2) sc.nd rfl (Or.inr rfl) (pe_callB call_abs (by rfl) B.abs (by decide +kernel) (pa_cons (pv 0) pa_nil)))
      (pss_cons (ps_for PassesOwn.never rfl (pi_list (pv 1)) (pg_name (i := 3) sc.nd rfl (Or.inl rfl))
      (pss_cons (ps_if (pt_cmpR op_eq (pv 2) pe_int (nomark _))
        (pss_one ps_break)
        pss_nil)
        (pss_one (ps_set (i := 2) sc.nd rfl (Or.inr rfl) (pe_callBfun cr_gcd (by rfl) B.gcd (pa_cons (pv 2) (pa_cons (pv 3) pa_nil)))))))
      (pss_cons (ps_if (pt_cmpR op_lt (pv 0) pe_int (nomark _))
      (pss_one (ps_set (i := 2) sc.nd rfl (Or.inr rfl) (pe_un un_neg (pv 2))))
      pss_nil)
      (pss_one (ps_ret (pe_tup (pa_cons (pe_op op_fdivW (pv 0) (pv 2)) (pa_cons (pe_callTy call_tuple_of (by rfl) B.tuple (by decide +kernel) (pa_cons (pe_lc (own := [("top", 3)]) (g := gName 3) (tt := tYes) (by rfl) sc.nd (pi_list (pv 1)) (blkOk_by (own := [("top", 3)]) (N := N_lowered) (sc := defScope s_lowered) (by decide +kernel)) (fun _ _ _ _ _ => (pg_name (i := 3) sc.nd rfl (Or.inl rfl))) (fun _ _ _ _ _ => pts_nil) (fun _ _ _ _ _ => (pe_op op_fdivW (pv 3) (pv 2)))) pa_nil)) pa_nil)))))))), ?_⟩
  have ea : (if b < 0 then -b else b) = (b.natAbs : Int) := by split <;> omega
  refine ⟨_, rfl, b, rfl, ?_⟩
  rw [ea]
  dsimp only [gName]
  refine tSeq_join (fun σ H' => H = H' ∧ ∃ o : Option V, σ = [some (.int b), some (.ref p), some (.int ((gcdL b.natAbs ts : Nat) : Int)), o]) (fun N hN => ?_) ?_
  · refine ⟨_, rfl, p, rfl, ⟨_, SqL.of hp⟩, for_list (K := K) (a := p) (xs := ts.map V.int) (fun i σ H' => H = H' ∧ ∃ (g : Nat) (o : Option V), σ = [some (.int b), some (.ref p), some (.int (g : Int)), o] ∧ gcdL g (ts.drop i) = gcdL b.natAbs ts) ⟨rfl, _, none, rfl, rfl⟩ (fun i σ H2 _ ⟨e, _⟩ => by rw [← e]; exact SqL.of hp) ?_ ?_⟩
    · rintro i x σ _ hi ⟨rfl, g, o, rfl, hg⟩
      obtain ⟨z, rfl, hz⟩ := int_at hi
      rw [gcdL_drop hz] at hg
      refine ⟨_, rfl, rfl, _, rfl, ifI (fun e => ?_) fun e => ?_⟩
      · have e' : g = 1 := by omega
        subst e'
        rw [Nat.gcd_one_left, gcdL_one] at hg
        exact hN _ _ ⟨rfl, _, by rw [← hg]; rfl⟩
      · refine ⟨_, rfl, _, rfl, _, _, rfl, ?_⟩
        exact ⟨rfl, _, _, rfl, hg⟩
    · rintro σ _ ⟨rfl, g, o, rfl, hg⟩
      rw [List.length_map, List.drop_length] at hg
      exact hN _ _ ⟨rfl, o, by rw [← hg]; rfl⟩
  rintro _ _ ⟨rfl, o, rfl⟩
  have gd := gcdL_dvd ts b.natAbs
  have bp : 0 < b.natAbs := by omega
  have gl := Nat.le_of_dvd bp gd
  have gp := Nat.pos_of_dvd_of_pos gd bp
  generalize hG : gcdL b.natAbs ts = G at gl gp
  have cd : ∀ i : Int, CDivW i (G : Int) := fun i => wide_div (b := 8000) (by omega) (Nat.lt_of_le_of_lt gl b1) (by decide) (by decide)
  refine ⟨_, rfl, _, _, rfl, rfl, _, rfl, ifD (fun e => absurd e (by omega)) fun _ => ?_⟩
  dsimp only [tNext]
  refine ⟨_, rfl, _, rfl, _, _, rfl, rfl, cd b, ?_⟩
  refine ⟨_, rfl, p, rfl, ⟨_, SqL.of hp⟩, fun D1 hD1 => ?_⟩
  refine lc_list (K := K) (a := p) (xs := ts.map V.int) (fun i H' => Same H H' ∧ H' D1 = some (.lst ((ts.take i).map fun t => V.int (t / (G : Int))))) ⟨Same.upd_new hD1, upd_same⟩ (fun i H' _ ⟨s2, _⟩ => SqL.of (s2 _ _ hp)) ?_ ?_
  · rintro i x H2 hx ⟨s2, h2⟩
    obtain ⟨z, rfl, hz⟩ := int_at hx
    have hi := (List.getElem?_eq_some_iff.mp hz).1
    refine ⟨rfl, ?_⟩
    refine ⟨_, rfl, _, rfl, _, _, rfl, rfl, cd z, _, h2, ?_, fun b o e => ?_, ?_⟩
    · rw [List.length_map, List.length_take]
      exact Nat.lt_of_le_of_lt (Nat.le_trans (Nat.min_le_right _ _) tl) (by decide)
    · rw [upd_ne (ne_of_none e hD1)]
      exact s2 _ _ e
    · rw [upd_same, take_snoc hz, List.map_append]
      rfl
  · rintro H2 ⟨s2, h2⟩
    have e1 : (ts.take (ts.map V.int).length).map (fun t => V.int (t / (G : Int))) = (lowT b ts).map V.int := by
      unfold lowT
      rw [hG, List.length_map, List.take_length, List.map_map]
      rfl
    rw [e1] at h2
    refine ⟨D1, _, rfl, .inl ⟨SqL.of h2, fun T1 hT1 => ?_⟩⟩
    have s3 : Same H2 (upd H2 T1 (.tup ((lowT b ts).map V.int))) := Same.upd_new hT1
    have h3 : (upd H2 T1 (.tup ((lowT b ts).map V.int))) T1 = some (.tup ((lowT b ts).map V.int)) := upd_same
    generalize hH3 : upd H2 T1 (.tup ((lowT b ts).map V.int)) = H3 at s3 h3
    refine ⟨(by show (2 : Nat) ≤ sizeLine; decide), fun T2 hT2 => ?_⟩
    have s4 : Same H3 (upd H3 T2 (.tup [V.int (b / (G : Int)), V.ref T1])) := Same.upd_new hT2
    refine q _ _ (s2.trans (s3.trans s4)) ⟨T2, T1, rfl, ?_, s4 _ _ h3⟩
    unfold lowB
    rw [hG]
    exact upd_same
end
end Ft

set_option exponentiation.threshold 9000
namespace Ft
open PySem L2
def sprL (ts : List Int) (d : Nat) : List Int := (List.range ts.length).map fun n => if n % d = 0 then ts.getD (n / d) 0 else 0
def eveL (ts : List Int) (d : Nat) : List Int := ((List.range ts.length).filter fun n => decide (n % d = 0)).map fun n => ts.getD n 0
def shfL (ts : List Int) (s : Nat) : List Int := List.replicate s 0 ++ ts
def sp_deed (f : List Int → Nat → List Int) (C : Nat → Prop) : Sp := fun vs H Q _ => ∃ v b ts d, vs = [v, .int ((d : Nat) : Int)] ∧ Bg H v b ts ∧ BgOk b ts ∧ b.natAbs < 2 ^ 8000 ∧ C d ∧ ∀ H' u, Same H H' → Bg H' u (lowB b (f ts d)) (lowT b (f ts d)) → Q u H'
theorem filter_succ (f : Nat → Bool) (j : Nat) : (List.range (j + 1)).filter f = (List.range j).filter f ++ if f j = true then [j] else [] := by
  rw [List.range_succ, List.filter_append]
  congr 1
  cases h : f j <;> simp [h]
theorem filter_len (f : Nat → Bool) (j : Nat) : ((List.range j).filter f).length ≤ j := by
  have := List.length_filter_le f (List.range j)
  rw [List.length_range] at this
  exact this
theorem getD_at {l : List Int} {i : Nat} (h : i < l.length) : (l.map V.int)[i]? = some (V.int (l.getD i 0)) := by
  rw [List.getElem?_map, List.getElem?_eq_getElem h, List.getD_eq_getElem?_getD, List.getElem?_eq_getElem h]
  rfl
section
variable {P : Program} {w : World} {K : PySem.W.Frag} {mg : Str → Option Value} {base : Heap}
end
end Ft

set_option exponentiation.threshold 9000
namespace Ft
open PySem L2
theorem flat_one {α : Type} (x : α) : ∀ n : Nat, (List.replicate n [x]).flatten = List.replicate n x
  | 0 => rfl
  | n + 1 => by rw [List.replicate_succ, List.flatten_cons, flat_one x n, List.replicate_succ]; rfl
/-- the first place where two rows part -/
def apartGo (b1 b2 : Int) (t1 t2 : List Int) : Nat → Nat → Option Nat
  | 0, _ => none
  | f + 1, i => if t1.getD i 0 * b2 = t2.getD i 0 * b1 then apartGo b1 b2 t1 t2 f (i + 1) else some i
def apart (b1 b2 : Int) (t1 t2 : List Int) : Option Nat := apartGo b1 b2 t1 t2 (min t1.length t2.length) 0
def optV : Option Nat → V
  | none => .non
  | some n => .int (n : Int)
def sp_apart : Sp := fun vs H Q _ => ∃ u v b1 b2 t1 t2, vs = [u, v] ∧ Bg H u b1 t1 ∧ Bg H v b2 t2 ∧ BgOk b1 t1 ∧ BgOk b2 t2 ∧ b1.natAbs < 2 ^ 8000 ∧ b2.natAbs < 2 ^ 8000 ∧ (∀ x ∈ t1, x.natAbs < 2 ^ 8000) ∧ (∀ x ∈ t2, x.natAbs < 2 ^ 8000) ∧ ∀ H', Same H H' → Q (optV (apart b1 b2 t1 t2)) H'
theorem mul8 {i j : Int} (h1 : i.natAbs < 2 ^ 8000) (h2 : j.natAbs < 2 ^ 8000) : CMulW i j := wide_mul h1 h2 (by decide) (by decide) (by decide)
theorem getD_mem {l : List Int} {i : Nat} (h : i < l.length) : l.getD i 0 ∈ l := by
  rw [List.getD_eq_getElem?_getD, List.getElem?_eq_getElem h]
  exact List.getElem_mem h
section
variable {P : Program} {w : World} {K : PySem.W.Frag} {mg : Str → Option Value} {base : Heap}
theorem fn_first_apart {f : Addr} {fd : FuncData} (F : Fun K "first_apart" "first_apart" s_first_apart f fd) (B : Bi mg) (c_check_beginning : Cal P w K mg base 4 "check_beginning" sp_checkBeg) : FnOk P w K mg base CX0 5 f fd ["one", "other"] sp_apart := by
  have sc := sc_first_apart
  refine F.ok sc (fun _ _ _ _ ⟨_, _, _, _, _, _, e, _⟩ => by rw [e]; rfl) (fun cdv A outer s H vs Q E hr h => ?_)
  obtain ⟨u, v, b1, b2, t1, t2, rfl, hu, hv, o1, o2, z1, z2, y1, y2, q⟩ := h
  refine ⟨_, (pss_cons (ps_expr (pe_c c_check_beginning hr (by decide) (by rfl) (pa_cons (pv 0) pa_nil)))
      (pss_cons (ps_expr (pe_c c_check_beginning hr (by decide) (by rfl) (pa_cons (pv 1) pa_nil)))
      (pss_cons (ps_for PassesOwn.never rfl (pi_range1 rfl B.range (pa_cons (pe_callB (call_min2 rfl) (by rfl) B.min_ (by decide +kernel) (pa_cons (pe_callB call_len_seq (by rfl) B.len_ (by decide +kernel) (pa_cons (pe_ix (show IxR _ (rIx K) from ix_seq) (pv 0) pe_int (fun _ _ => rfl)) pa_nil)) (pa_cons (pe_callB call_len_seq (by rfl) B.len_ (by decide +kernel) (pa_cons (pe_ix (show IxR _ (rIx K) from ix_seq) (pv 1) pe_int (fun _ _ => rfl)) pa_nil)) pa_nil))) pa_nil)) (pg_name (i := 2) sc.nd rfl (Or.inl rfl))
      (pss_one (ps_if (pt_cmpR op_ne (pe_op op_mulW (pe_ix (show IxR _ (rIx K) from ix_seq) (pe_ix (show IxR _ (rIx K) from ix_seq) (pv 0) pe_int (fun _ _ => rfl)) (pv 2) (fun _ _ => rfl)) (pe_ix (show IxR _ (rIx K) from ix_seq) (pv 1) pe_int (fun _ _ => rfl))) (pe_op op_mulW (pe_ix (show IxR _ (rIx K) from ix_seq) (pe_ix (show IxR _ (rIx K) from ix_seq) (pv 1) pe_int (fun _ _ => rfl)) (pv 2) (fun _ _ => rfl)) (pe_ix (show IxR _ (rIx K) from ix_seq) (pv 0) pe_int (fun _ _ => rfl))) (nomark _))
        (pss_one (ps_ret (pv 2)))
        pss_nil)))
      (pss_one (ps_ret pe_non))))), ?_⟩
  refine ⟨_, rfl, u, b1, t1, rfl, hu, o1, fun H1 s1 => ?_⟩
  refine ⟨_, rfl, v, b2, t2, rfl, hv.same s1, o2, fun H2 s2 => ?_⟩
  have s12 := s1.trans s2
  obtain ⟨p, r, rfl, hp, hr'⟩ := hu.same s12
  obtain ⟨p', r', rfl, hp', hr''⟩ := hv.same s12
  have ll1 : (t1.map V.int).length = t1.length := List.length_map ..
  have ll2 : (t2.map V.int).length = t2.length := List.length_map ..
  have k1 := o1.2.2
  have k2 := o2.2.2
  have fu : Bg H2 (.ref p) b1 t1 := ⟨p, r, rfl, hp, hr'⟩
  have fv : Bg H2 (.ref p') b2 t2 := ⟨p', r', rfl, hp', hr''⟩
  have a0 : ∀ {a c : V}, atI [a, c] 0 = some a := fun {a c} => atI_nat (j := 0) rfl
  have a1 : ∀ {a c : V}, atI [a, c] 1 = some c := fun {a c} => atI_nat (j := 1) rfl
  refine ⟨_, rfl, .inr (.inl ⟨p, _, 1, _, rfl, rfl, SqT.of hp, a1, ?_⟩)⟩
  refine ⟨r, _, rfl, .inr (SqT.of hr'), ?_⟩
  refine ⟨_, rfl, .inr (.inl ⟨p', _, 1, _, rfl, rfl, SqT.of hp', a1, ?_⟩)⟩
  refine ⟨r', _, rfl, .inr (SqT.of hr''), ?_⟩
  obtain ⟨N, hN, hN1, hN2⟩ : ∃ N : Nat, (if (((t2.map V.int).length : Nat) : Int) < (((t1.map V.int).length : Nat) : Int) then (((t2.map V.int).length : Nat) : Int) else (((t1.map V.int).length : Nat) : Int)) = (N : Int) ∧ N = min t1.length t2.length ∧ N ≤ 400 := by
    rw [ll1, ll2]
    refine ⟨min t1.length t2.length, ?_, rfl, by omega⟩
    split <;> omega
  refine ⟨_, _, rfl, ?_⟩
  rw [hN]
  have qq := q H2 s12
  unfold apart at qq
  rw [← hN1] at qq
  refine ⟨(N : Int), rfl, by omega, by omega, for_range (lo := 0) (n := ((N : Int)).toNat) (fun i σ H' => H2 = H' ∧ i ≤ N ∧ ∃ o : Option V, σ = [some (.ref p), some (.ref p'), o] ∧ apartGo b1 b2 t1 t2 (N - i) i = apartGo b1 b2 t1 t2 N 0) ⟨rfl, Nat.zero_le _, none, rfl, rfl⟩ ?_ ?_⟩
  · rintro i σ _ hi ⟨rfl, _, o, rfl, hg⟩
    have hiN : i < N := by omega
    have e3 : N - i = (N - (i + 1)) + 1 := by omega
    rw [e3] at hg
    have h1 : i < t1.length := by omega
    have h2 : i < t2.length := by omega
    have c1 : atI (t1.map V.int) (0 + (i : Int)) = some (V.int (t1.getD i 0)) := by rw [Int.zero_add]; exact atI_nat (getD_at h1)
    have c2 : atI (t2.map V.int) (0 + (i : Int)) = some (V.int (t2.getD i 0)) := by rw [Int.zero_add]; exact atI_nat (getD_at h2)
    have m1 := mul8 (y1 _ (getD_mem h1)) z2
    have m2 := mul8 (y2 _ (getD_mem h2)) z1
    refine ⟨_, rfl, .inr (.inl ⟨p, _, 1, _, rfl, rfl, SqT.of hp, a1, _, rfl, .inr (.inl ⟨r, _, _, _, rfl, rfl, SqT.of hr', c1, ?_⟩)⟩)⟩
    refine ⟨_, rfl, .inr (.inl ⟨p', _, 0, _, rfl, rfl, SqT.of hp', a0, _, _, rfl, rfl, m1, ?_⟩)⟩
    refine ⟨_, rfl, .inr (.inl ⟨p', _, 1, _, rfl, rfl, SqT.of hp', a1, _, rfl, .inr (.inl ⟨r', _, _, _, rfl, rfl, SqT.of hr'', c2, ?_⟩)⟩)⟩
    refine ⟨_, rfl, .inr (.inl ⟨p, _, 0, _, rfl, rfl, SqT.of hp, a0, _, _, rfl, rfl, m2, rfl, _, rfl, ifNI (fun e => ?_) fun e => ?_⟩)⟩
    · have hg' : apartGo b1 b2 t1 t2 (N - (i + 1) + 1) i = some i := by
        show (if _ then _ else _) = _
        rw [if_neg e]
      rw [← hg, hg'] at qq
      refine ⟨_, rfl, ?_⟩
      rw [Int.zero_add]
      exact qq
    · have hg' : apartGo b1 b2 t1 t2 (N - (i + 1) + 1) i = apartGo b1 b2 t1 t2 (N - (i + 1)) (i + 1) := by
        show (if _ then _ else _) = _
        rw [if_pos e]
      exact ⟨rfl, hiN, _, rfl, hg'.symm.trans hg⟩
  · rintro σ _ ⟨rfl, _, o, rfl, hg⟩
    rw [Int.toNat_natCast, Nat.sub_self] at hg
    rw [← hg] at qq
    exact qq
end
end Ft

set_option exponentiation.threshold 9000
namespace Ft
open PySem L2
/-! ### lowest terms of rows -/
theorem gcdL_mul (c : Nat) : ∀ (ts : List Int) (g : Nat), gcdL (c * g) (ts.map fun t => (c : Int) * t) = c * gcdL g ts
  | [], g => rfl
  | t :: ts, g => by
    show gcdL (Nat.gcd (c * g) ((c : Int) * t).natAbs) (ts.map fun t => (c : Int) * t) = c * gcdL (Nat.gcd g t.natAbs) ts
    rw [Int.natAbs_mul, Int.natAbs_natCast, Nat.gcd_mul_left]
    exact gcdL_mul c ts _
theorem gcdL_mem : ∀ (ts : List Int) (g : Nat) (t : Int), t ∈ ts → gcdL g ts ∣ t.natAbs
  | u :: ts, g, t, h => by
    show gcdL (Nat.gcd g u.natAbs) ts ∣ t.natAbs
    rcases List.mem_cons.mp h with rfl | h
    · exact Nat.dvd_trans (gcdL_dvd ts _) (Nat.gcd_dvd_right _ _)
    · exact gcdL_mem ts _ t h
theorem low_mul {c : Nat} (hc : 0 < c) {b : Int} (hb : 0 < b) (ts : List Int) : lowB ((c : Int) * b) (ts.map fun t => (c : Int) * t) = lowB b ts ∧ lowT ((c : Int) * b) (ts.map fun t => (c : Int) * t) = lowT b ts := by
  have e : gcdL ((c : Int) * b).natAbs (ts.map fun t => (c : Int) * t) = c * gcdL b.natAbs ts := by
    rw [Int.natAbs_mul, Int.natAbs_natCast]
    exact gcdL_mul c ts _
  have c0 : (0 : Int) < (c : Int) := by omega
  unfold lowB lowT
  rw [e, Int.natCast_mul]
  refine ⟨Int.mul_ediv_mul_of_pos _ _ c0, ?_⟩
  rw [List.map_map]
  exact List.map_congr_left fun t _ => Int.mul_ediv_mul_of_pos _ _ c0
theorem gcdL_pos {b : Int} (hb : 0 < b) (ts : List Int) : 0 < gcdL b.natAbs ts := Nat.pos_of_dvd_of_pos (gcdL_dvd ts _) (by omega)
theorem mul_lowB {b : Int} (ts : List Int) : ((gcdL b.natAbs ts : Nat) : Int) * lowB b ts = b :=
  Int.mul_ediv_cancel' (Int.dvd_natAbs.mp (Int.natCast_dvd_natCast.mpr (gcdL_dvd ts _)))
theorem mul_lowT {b : Int} (ts : List Int) : (lowT b ts).map (fun t => ((gcdL b.natAbs ts : Nat) : Int) * t) = ts := by
  unfold lowT
  rw [List.map_map]
  conv => rhs; rw [← List.map_id ts]
  exact List.map_congr_left fun t ht => Int.mul_ediv_cancel' (Int.dvd_natAbs.mp (Int.natCast_dvd_natCast.mpr (gcdL_mem ts _ t ht)))
theorem lowB_pos {b : Int} (hb : 0 < b) (ts : List Int) : 0 < lowB b ts := by
  have h1 := mul_lowB (b := b) ts
  have h2 := gcdL_pos hb ts
  rcases Int.lt_trichotomy (lowB b ts) 0 with h | h | h
  · have := Int.mul_neg_of_pos_of_neg (a := ((gcdL b.natAbs ts : Nat) : Int)) (b := lowB b ts) (by omega) h
    omega
  · rw [h, Int.mul_zero] at h1
    omega
  · exact h
theorem lowB_le {b : Int} (hb : 0 < b) (ts : List Int) : lowB b ts ≤ b := Int.ediv_le_self _ (by omega)
/-- a deed on rows that keeps multiples -/
def Lin (F : List Int → List Int) : Prop := ∀ (c : Int) (ts : List Int), F (ts.map fun t => c * t) = (F ts).map fun t => c * t
theorem low_lin {F : List Int → List Int} (hF : Lin F) {b : Int} (hb : 0 < b) (ts : List Int) : lowB (lowB b ts) (F (lowT b ts)) = lowB b (F ts) ∧ lowT (lowB b ts) (F (lowT b ts)) = lowT b (F ts) := by
  have h := low_mul (gcdL_pos hb ts) (lowB_pos hb ts) (F (lowT b ts))
  rw [mul_lowB, ← hF, mul_lowT] at h
  exact ⟨h.1.symm, h.2.symm⟩
theorem getD_mul (c : Int) (ts : List Int) (i : Nat) : (ts.map fun t => c * t).getD i 0 = c * ts.getD i 0 := by
  rw [List.getD_eq_getElem?_getD, List.getD_eq_getElem?_getD, List.getElem?_map]
  cases ts[i]? with
  | none => exact (Int.mul_zero c).symm
  | some x => rfl
theorem getD_range (g : Nat → Int) (m i : Nat) : ((List.range m).map g).getD i 0 = if i < m then g i else 0 := by
  rw [List.getD_eq_getElem?_getD, List.getElem?_map]
  by_cases h : i < m
  · rw [List.getElem?_range h, if_pos h]; rfl
  · rw [List.getElem?_eq_none (by rw [List.length_range]; omega), if_neg h]; rfl
/-! ### texts of beginnings -/
theorem int_short {v : Int} (h : v.natAbs < 2 ^ 250) : (PyData.int v).leavesShort 100 = true := by
  have key : (PyData.shown (.int v)).length ≤ 100 := by
    have p : (2 : Int) ^ 140 < 10 ^ 78 := by decide
    rcases Int.lt_or_le v 0 with h0 | h0
    · obtain ⟨m, rfl⟩ : ∃ m : Nat, v = Int.negSucc m := ⟨v.natAbs - 1, by omega⟩
      have l := PyProof.Rows.toString_length_le (v := ((m + 1 : Nat) : Int)) (by omega) (k := 78) (by decide) (by omega)
      have e : toString (Int.negSucc m) = "-" ++ toString (m + 1) := rfl
      show (Str.ofString (toString (Int.negSucc m))).length ≤ 100
      rw [e, PyProof.Rows.ofString_length, String.toList_append, List.length_append]
      rw [PyProof.Rows.ofString_length] at l
      have l' : (toString (m + 1)).toList.length ≤ 78 := l
      have : "-".toList.length = 1 := by decide
      omega
    · have l := PyProof.Rows.toString_length_le h0 (k := 78) (by decide) (by omega)
      exact Nat.le_trans l (by decide)
  simpa only [PyData.leavesShort, decide_eq_true_eq] using key
theorem ints_short : ∀ {ts : List Int}, (∀ x ∈ ts, x.natAbs < 2 ^ 250) → PyData.leavesShortAll 100 (ts.map PyData.int) = true
  | [], _ => by simp only [List.map_nil, PyData.leavesShortAll]
  | t :: ts, h => by
    simp only [List.map_cons, PyData.leavesShortAll, Bool.and_eq_true]
    exact ⟨int_short (h t List.mem_cons_self), ints_short fun x hx => h x (List.mem_cons_of_mem _ hx)⟩
theorem ints_bulk : ∀ ts : List Int, PyData.bulkAll (ts.map PyData.int) = ts.length
  | [] => by simp only [List.map_nil, PyData.bulkAll, List.length_nil]
  | t :: ts => by
    simp only [List.map_cons, PyData.bulkAll, PyData.bulk, List.length_cons, ints_bulk ts]
    omega
theorem int_showable {v : Int} (h : v.natAbs < 2 ^ 250) : (PyData.int v).showable = true := by
  have := PySem.Flt.log2_lt_of (by decide) h
  simp only [PyData.showable, decide_eq_true_eq]
  omega
theorem ints_showable : ∀ {ts : List Int}, (∀ x ∈ ts, x.natAbs < 2 ^ 250) → PyData.showableAll (ts.map PyData.int) = true
  | [], _ => by simp only [List.map_nil, PyData.showableAll]
  | t :: ts, h => by
    simp only [List.map_cons, PyData.showableAll, Bool.and_eq_true]
    exact ⟨int_showable (h t List.mem_cons_self), ints_showable fun x hx => h x (List.mem_cons_of_mem _ hx)⟩
def bgD (b : Int) (ts : List Int) : PyData := .tuple [.int b, .tuple (ts.map PyData.int)]
/-- short enough to be shown -/
structure BgS (b : Int) (ts : List Int) : Prop where
  hb : b.natAbs < 2 ^ 250
  hts : ∀ x ∈ ts, x.natAbs < 2 ^ 250
  len : ts.length ≤ 1000
theorem dp_bg {K : PySem.W.Frag} {H : Hp} {v : V} {b : Int} {ts : List Int} (h : Bg H v b ts) : Dp K H v (bgD b ts) := by
  obtain ⟨p, q, rfl, h1, h2⟩ := h
  exact .tup (SqT.of h1) (.cons (.int b) (.cons (.tup (SqT.of h2) (dp_ints ts)) .nil))
/-- what repr asks of a datum -/
structure RepOk (d : PyData) : Prop where
  show_ : d.showable = true
  dict : d.hasDict = false
  depth : d.depth ≤ 64
  len : d.shown.length ≤ sizeLine
theorem bgD_depth (b : Int) (ts : List Int) : (bgD b ts).depth = 2 := by
  have e : PyData.depth (.tuple (ts.map PyData.int)) = 1 := by
    show PyData.depthAll (ts.map PyData.int) + 1 = 1
    rw [depth_ints]
  show max 0 (max (PyData.depth (.tuple (ts.map PyData.int))) 0) + 1 = 2
  rw [e]
  rfl
theorem bgD_short {b : Int} {ts : List Int} (h : BgS b ts) : (bgD b ts).leavesShort 100 = true := by
  simp only [bgD, PyData.leavesShort, PyData.leavesShortAll, Bool.and_eq_true, Bool.and_true]
  refine ⟨?_, ints_short h.hts⟩
  have := int_short h.hb
  simpa only [PyData.leavesShort] using this
theorem bgD_showable {b : Int} {ts : List Int} (h : BgS b ts) : (bgD b ts).showable = true := by
  simp only [bgD, PyData.showable, PyData.showableAll, Bool.and_eq_true, Bool.and_true]
  refine ⟨?_, ints_showable h.hts⟩
  have := int_showable h.hb
  simpa only [PyData.showable] using this
theorem ints_dict (ts : List Int) : PyData.hasDictAll (ts.map PyData.int) = false := by
  induction ts with
  | nil => simp only [List.map_nil, PyData.hasDictAll]
  | cons t ts ih => simp only [List.map_cons, PyData.hasDictAll, PyData.hasDict, ih, Bool.or_self]
theorem bgD_dict (b : Int) (ts : List Int) : (bgD b ts).hasDict = false := by
  simp only [bgD, PyData.hasDict, PyData.hasDictAll, ints_dict, Bool.or_self]
theorem bgD_bulk (b : Int) (ts : List Int) : (bgD b ts).bulk = ts.length + 2 := by
  simp only [bgD, PyData.bulk, PyData.bulkAll, ints_bulk]
  omega
theorem rep_bg {b : Int} {ts : List Int} (h : BgS b ts) : RepOk (bgD b ts) := by
  refine ⟨bgD_showable h, bgD_dict b ts, by rw [bgD_depth]; decide, ?_⟩
  have l := PyData.shown_le_bulk 100 (by decide) (bgD b ts) (bgD_short h)
  rw [bgD_bulk] at l
  have := h.len
  have e : sizeLine = 16777216 := by decide
  omega
theorem low_short {b : Int} {ts : List Int} (h : BgS b ts) : BgS (lowB b ts) (lowT b ts) := by
  refine ⟨Nat.lt_of_le_of_lt (Int.natAbs_ediv_le_natAbs _ _) h.hb, fun x hx => ?_, by unfold lowT; rw [List.length_map]; exact h.len⟩
  obtain ⟨t, ht, rfl⟩ := List.mem_map.mp hx
  exact Nat.lt_of_le_of_lt (Int.natAbs_ediv_le_natAbs _ _) (h.hts t ht)
theorem low_ok {b : Int} {ts : List Int} (h : BgOk b ts) : BgOk (lowB b ts) (lowT b ts) := by
  have b0 := h.1
  have p := lowB_pos (b := b) (by omega) ts
  refine ⟨by omega, ?_, ?_⟩
  · unfold lowT; rw [List.length_map]; exact h.2.1
  · unfold lowT; rw [List.length_map]; exact h.2.2
theorem rep_one {K : PySem.W.Frag} {H : Hp} {u : V} {b : Int} {ts : List Int} {Q : VK} (g : Bg H u b ts) (S : BgS b ts) (q : ∀ z, z = (bgD b ts).shown → Q (.str z) H) : rRepr K [u] H Q := by
  have d := dp_bg (K := K) g
  obtain ⟨p, r, rfl, _, _⟩ := g
  have R := rep_bg S
  exact ⟨p, _, rfl, d, R.show_, R.dict, R.depth, R.len, q _ rfl⟩
end Ft

set_option exponentiation.threshold 9000
namespace Ft
open PySem L2
/-! ### numbers as pairs -/
abbrev Fq := Int × Int
def low (a b : Int) : Fq := (a / ((Nat.gcd a.natAbs b.natAbs : Nat) : Int), b / ((Nat.gcd a.natAbs b.natAbs : Nat) : Int))
def nsum (x y : Fq) : Fq := low (x.1 * y.2 + y.1 * x.2) (x.2 * y.2)
def nprod (x y : Fq) : Fq := low (x.1 * y.1) (x.2 * y.2)
/-- of at most b bits, over a positive number -/
def Small (b : Nat) (x : Fq) : Prop := x.1.natAbs < 2 ^ b ∧ x.2.natAbs < 2 ^ b ∧ 0 < x.2
/-- the value v is the number x -/
def Fr (H : Hp) (v : V) (x : Fq) : Prop := ∃ t, v = .ref t ∧ H t = some (.tup [.int x.1, .int x.2])
theorem Fr.same {H H' : Hp} {v : V} {x : Fq} (h : Fr H v x) (s : Same H H') : Fr H' v x := by
  obtain ⟨t, e, z⟩ := h
  exact ⟨t, e, s _ _ z⟩
theorem Fr.new {H : Hp} {p : Addr} {a b : Int} : Fr (upd H p (.tup [.int a, .int b])) (.ref p) (a, b) := ⟨p, rfl, upd_same⟩
theorem two0 {a b : V} : atI [a, b] 0 = some a := atI_nat (j := 0) rfl
theorem two1 {a b : V} : atI [a, b] 1 = some b := atI_nat (j := 1) rfl
theorem fr0 {K : PySem.W.Frag} {H : Hp} {v : V} {x : Fq} {Q : VK} (h : Fr H v x) (q : Q (.int x.1) H) : rIx K v (.int 0) H Q := by
  obtain ⟨t, rfl, z⟩ := h
  exact .inr (.inl ⟨t, _, 0, _, rfl, rfl, SqT.of z, two0, q⟩)
theorem fr1 {K : PySem.W.Frag} {H : Hp} {v : V} {x : Fq} {Q : VK} (h : Fr H v x) (q : Q (.int x.2) H) : rIx K v (.int 1) H Q := by
  obtain ⟨t, rfl, z⟩ := h
  exact .inr (.inl ⟨t, _, 1, _, rfl, rfl, SqT.of z, two1, q⟩)
def sp_low : Sp := fun vs H Q _ => ∃ a b : Int, vs = [.int a, .int b] ∧ 0 < b ∧ b.natAbs < 2 ^ 8001 ∧ ∀ H' v, Same H H' → Fr H' v (low a b) → Q v H'
def sp_num (g : Fq → Fq → Fq) : Sp := fun vs H Q _ => ∃ u v x y, vs = [u, v] ∧ Fr H u x ∧ Fr H v y ∧ Small 4000 x ∧ Small 4000 y ∧ ∀ H' r, Same H H' → Fr H' r (g x y) → Q r H'
theorem gcd_bit {a b : Int} (h : 0 < b) : 0 < ((Nat.gcd a.natAbs b.natAbs : Nat) : Int) ∧ Nat.gcd a.natAbs b.natAbs ≤ b.natAbs := by
  have h1 : 0 < b.natAbs := by omega
  have h2 := Nat.gcd_pos_of_pos_right a.natAbs h1
  exact ⟨by omega, Nat.le_of_dvd h1 (Nat.gcd_dvd_right _ _)⟩
section
variable {P : Program} {w : World} {K : PySem.W.Frag} {mg : Str → Option Value} {base : Heap}
theorem ok_lowest_terms (D : Df K mg "lowest_terms" s_lowest_terms ["top", "bottom"]) (B : Bi mg)  : Cal P w K mg base 1 "lowest_terms" sp_low := by
  obtain ⟨f, fd, F, m, b⟩ := D.ex
  have sc := sc_lowest_terms
  refine ⟨f, fd, _, F.ok sc (fun _ _ _ _ ⟨_, _, e, _⟩ => by rw [e]; rfl) (fun cdv A outer s H vs Q E hr h => ?_), m, F.kp, b⟩
  obtain ⟨x, y, rfl, h0, h1, q⟩ := h
  refine ⟨_, (pss_cons (ps_set (i := 2) sc.nd rfl (Or.inl rfl) (pe_callBfun cr_gcd (by rfl) B.gcd (pa_cons (pv 0) (pa_cons (pv 1) pa_nil))))
      (pss_one (ps_ret (pe_tup (pa_cons (pe_op op_fdivW (pv 0) (pv 2)) (pa_cons (pe_op op_fdivW (pv 1) (pv 2)) pa_nil)))))), ?_⟩
  have g := gcd_bit (a := x) h0
  have gb : ∀ i : Int, CDivW i ((Nat.gcd x.natAbs y.natAbs : Nat) : Int) := fun i => wide_div (b := 8001) g.1 (Nat.lt_of_le_of_lt g.2 h1) (by decide) (by decide)
  refine ⟨_, rfl, _, rfl, x, y, rfl, ?_⟩
  refine ⟨_, rfl, _, rfl, _, _, rfl, rfl, gb x, _, rfl, _, rfl, _, _, rfl, rfl, gb y, ?_⟩
  exact ⟨(by show (2 : Nat) ≤ sizeLine; decide), fun p hp => q _ _ (Same.upd_new hp) Fr.new⟩
end
end Ft

namespace Ft
/-! sums and products of rows -/
def Sg (f : Nat → Int) : Nat → Int
  | 0 => 0
  | n + 1 => Sg f n + f n
theorem Sg_congr {f g : Nat → Int} : ∀ {n : Nat}, (∀ i, i < n → f i = g i) → Sg f n = Sg g n
  | 0, _ => rfl
  | n + 1, h => by
    show Sg f n + f n = Sg g n + g n
    rw [Sg_congr (n := n) fun i hi => h i (by omega), h n (by omega)]
theorem Sg_add (f g : Nat → Int) : ∀ n : Nat, Sg (fun i => f i + g i) n = Sg f n + Sg g n
  | 0 => rfl
  | n + 1 => by
    show Sg (fun i => f i + g i) n + (f n + g n) = Sg f n + f n + (Sg g n + g n)
    rw [Sg_add f g n]
    omega
theorem Sg_mul (c : Int) (f : Nat → Int) : ∀ n : Nat, Sg (fun i => c * f i) n = c * Sg f n
  | 0 => (Int.mul_zero c).symm
  | n + 1 => by
    show Sg (fun i => c * f i) n + c * f n = c * (Sg f n + f n)
    rw [Sg_mul c f n, Int.mul_add]
theorem Sg_head (f : Nat → Int) : ∀ n : Nat, Sg f (n + 1) = f 0 + Sg (fun i => f (i + 1)) n
  | 0 => by show 0 + f 0 = f 0 + 0; omega
  | n + 1 => by
    show Sg f (n + 1) + f (n + 1) = f 0 + (Sg (fun i => f (i + 1)) n + f (n + 1))
    rw [Sg_head f n]
    omega
theorem Sg_rev (f : Nat → Int) : ∀ n : Nat, Sg f (n + 1) = Sg (fun i => f (n - i)) (n + 1)
  | 0 => rfl
  | n + 1 => by
    rw [Sg_head (fun i => f (n + 1 - i)) (n + 1)]
    show Sg f (n + 1) + f (n + 1) = f (n + 1 - 0) + _
    rw [Sg_rev f n, Nat.sub_zero, Int.add_comm]
    congr 1
    refine Sg_congr fun i hi => ?_
    show f (n - i) = f (n + 1 - (i + 1))
    congr 1
    omega
theorem Sg_tri (F : Nat → Nat → Int) : ∀ n : Nat, Sg (fun k => Sg (fun i => F i (k - i)) (k + 1)) (n + 1) = Sg (fun i => Sg (fun j => F i j) (n - i + 1)) (n + 1)
  | 0 => rfl
  | n + 1 => by
    show Sg (fun k => Sg (fun i => F i (k - i)) (k + 1)) (n + 1) + Sg (fun i => F i (n + 1 - i)) (n + 1 + 1) = Sg (fun i => Sg (fun j => F i j) (n + 1 - i + 1)) (n + 1) + Sg (fun j => F (n + 1) j) (n + 1 - (n + 1) + 1)
    rw [Sg_tri F n]
    have e1 : Sg (fun i => Sg (fun j => F i j) (n + 1 - i + 1)) (n + 1) = Sg (fun i => Sg (fun j => F i j) (n - i + 1) + F i (n + 1 - i)) (n + 1) := Sg_congr fun i hi => by
      show Sg (fun j => F i j) (n + 1 - i + 1) = _
      rw [show n + 1 - i = n - i + 1 by omega]
      rfl
    rw [e1, Sg_add]
    show _ + (Sg (fun i => F i (n + 1 - i)) (n + 1) + F (n + 1) (n + 1 - (n + 1))) = _
    rw [Nat.sub_self]
    show _ = _ + (0 + F (n + 1) 0)
    omega
/-- the product of two rows at n -/
def conv (f g : Nat → Int) (n : Nat) : Int := Sg (fun i => f i * g (n - i)) (n + 1)
theorem conv_comm (f g : Nat → Int) (n : Nat) : conv f g n = conv g f n := by
  unfold conv
  rw [Sg_rev]
  refine Sg_congr fun i hi => ?_
  show f (n - i) * g (n - (n - i)) = g i * f (n - i)
  rw [show n - (n - i) = i by omega, Int.mul_comm]
theorem conv_congr {f g f' g' : Nat → Int} {n : Nat} (h1 : ∀ i, i ≤ n → f i = f' i) (h2 : ∀ i, i ≤ n → g i = g' i) : conv f g n = conv f' g' n :=
  Sg_congr fun i hi => by rw [h1 i (by omega), h2 (n - i) (by omega)]
theorem conv_assoc (f g h : Nat → Int) (n : Nat) : conv (conv f g) h n = conv f (conv g h) n := by
  have t := Sg_tri (fun i j => f i * g j * h (n - (i + j))) n
  have l : conv (conv f g) h n = Sg (fun k => Sg (fun i => f i * g (k - i) * h (n - (i + (k - i)))) (k + 1)) (n + 1) := by
    unfold conv
    refine Sg_congr fun k hk => ?_
    rw [Int.mul_comm, ← Sg_mul]
    refine Sg_congr fun i hi => ?_
    show h (n - k) * (f i * g (k - i)) = _
    rw [show i + (k - i) = k by omega, Int.mul_comm]
  have r : conv f (conv g h) n = Sg (fun i => Sg (fun j => f i * g j * h (n - (i + j))) (n - i + 1)) (n + 1) := by
    unfold conv
    refine Sg_congr fun i hi => ?_
    rw [← Sg_mul]
    refine Sg_congr fun j hj => ?_
    show f i * (g j * h (n - i - j)) = _
    rw [Int.mul_assoc, show n - (i + j) = n - i - j by omega]
  rw [l, r]
  exact t
theorem conv_add (f g h : Nat → Int) (n : Nat) : conv f (fun i => g i + h i) n = conv f g n + conv f h n := by
  unfold conv
  rw [← Sg_add]
  exact Sg_congr fun i _ => Int.mul_add _ _ _
theorem conv_mul (c d : Int) (f g : Nat → Int) (n : Nat) : conv (fun i => c * f i) (fun i => d * g i) n = (c * d) * conv f g n := by
  unfold conv
  rw [← Sg_mul]
  refine Sg_congr fun i _ => ?_
  show c * f i * (d * g (n - i)) = c * d * (f i * g (n - i))
  rw [Int.mul_assoc, Int.mul_assoc, Int.mul_left_comm (f i)]
theorem sum_Sg (f : Nat → Int) : ∀ n : Nat, ((List.range n).map f).sum = Sg f n
  | 0 => rfl
  | n + 1 => by
    rw [List.range_succ, List.map_append, List.sum_append, sum_Sg f n]
    show Sg f n + (f n + 0) = _
    rw [Int.add_zero]
    rfl
end Ft

set_option exponentiation.threshold 9000
namespace Ft
open PySem L2
def addL (b1 : Int) (t1 : List Int) (b2 : Int) (t2 : List Int) : List Int := (List.range (min t1.length t2.length)).map fun n => t1.getD n 0 * b2 + t2.getD n 0 * b1
def csum (t1 t2 : List Int) (n : Nat) : Int := ((List.range (n + 1)).map fun i => t1.getD i 0 * t2.getD (n - i) 0).sum
def mulL (t1 t2 : List Int) : List Int := (List.range (min t1.length t2.length)).map fun n => csum t1 t2 n
def timL (t : List Int) (x : Int) : List Int := t.map fun y => y * x
def sp_bin (f : Int → List Int → Int → List Int → List Int) : Sp := fun vs H Q _ => ∃ u v b1 t1 b2 t2, vs = [u, v] ∧ Bg H u b1 t1 ∧ Bg H v b2 t2 ∧ BgOk b1 t1 ∧ BgOk b2 t2 ∧ b1.natAbs < 2 ^ 2000 ∧ b2.natAbs < 2 ^ 2000 ∧ (∀ x ∈ t1, x.natAbs < 2 ^ 2000) ∧ (∀ x ∈ t2, x.natAbs < 2 ^ 2000) ∧
  ∀ H' r, Same H H' → Bg H' r (lowB (b1 * b2) (f b1 t1 b2 t2)) (lowT (b1 * b2) (f b1 t1 b2 t2)) → Q r H'
def sp_ptops : Sp := fun vs H Q _ => ∃ p q t1 t2, vs = [.ref p, .ref q] ∧ H p = some (.tup (t1.map V.int)) ∧ H q = some (.tup (t2.map V.int)) ∧ t1.length ≤ 400 ∧ t2.length ≤ 400 ∧ (∀ x ∈ t1, x.natAbs < 2 ^ 2000) ∧ (∀ x ∈ t2, x.natAbs < 2 ^ 2000) ∧ ∀ H' r, Same H H' → H' r = some (.lst ((mulL t1 t2).map V.int)) → Q (.ref r) H'
def sp_times : Sp := fun vs H Q _ => ∃ u v b t x, vs = [u, v] ∧ Bg H u b t ∧ Fr H v x ∧ BgOk b t ∧ 1 ≤ x.2 ∧ b.natAbs < 2 ^ 2000 ∧ x.1.natAbs < 2 ^ 2000 ∧ x.2.natAbs < 2 ^ 2000 ∧ (∀ y ∈ t, y.natAbs < 2 ^ 2000) ∧
  ∀ H' r, Same H H' → Bg H' r (lowB (b * x.2) (timL t x.1)) (lowT (b * x.2) (timL t x.1)) → Q r H'
def sp_isNumber : Sp := fun vs H Q _ => ∃ v x, vs = [v] ∧ Fr H v x ∧ 1 ≤ x.2 ∧ ∀ H', Same H H' → Q (.bl true) H'
def sp_isTuple : Sp := fun vs H Q _ => ∃ v x, vs = [v, .int 2] ∧ Fr H v x ∧ ∀ H', Same H H' → Q (.bl true) H'
def sp_isPair : Sp := fun vs H Q _ => ∃ v x, vs = [v] ∧ Fr H v x ∧ ∀ H', Same H H' → Q (.bl true) H'
def sp_checkNumber : Sp := fun vs H Q _ => ∃ v x, vs = [v] ∧ Fr H v x ∧ 1 ≤ x.2 ∧ ∀ H', Same H H' → Q .non H'
def sp_termAt : Sp := fun vs H Q _ => ∃ u b t n, vs = [u, .int ((n : Nat) : Int)] ∧ Bg H u b t ∧ BgOk b t ∧ n < t.length ∧ b.natAbs < 2 ^ 8001 ∧ ∀ H' r, Same H H' → Fr H' r (low (t.getD n 0) b) → Q r H'
theorem getD_lt {ts : List Int} {N : Nat} (h : ∀ x ∈ ts, x.natAbs < 2 ^ N) (i : Nat) : (ts.getD i 0).natAbs < 2 ^ N := by
  rcases Nat.lt_or_ge i ts.length with hi | hi
  · exact h _ (getD_mem hi)
  · rw [List.getD_eq_getElem?_getD, List.getElem?_eq_none hi]
    exact Nat.pow_pos (by decide)
theorem mul2 {i j : Int} (h1 : i.natAbs < 2 ^ 2000) (h2 : j.natAbs < 2 ^ 2000) : CMulW i j := wide_mul h1 h2 (by decide) (by decide) (by decide)
theorem mul_lt2 {i j : Int} (h1 : i.natAbs < 2 ^ 2000) (h2 : j.natAbs < 2 ^ 2000) : (i * j).natAbs < 2 ^ 8000 := Nat.lt_trans (wide_lt h1 h2) (Nat.pow_lt_pow_right (by decide) (by decide))
theorem walk_zipT {K : PySem.W.Frag} {a b : Addr} {xs ys : List V} {n : Nat} (hn : n = min xs.length ys.length) : Walk (RZ.ItzT K a b) n (fun H => SqT K H a xs ∧ SqT K H b ys) (YPair (fun i => xs[i]?) (fun i => ys[i]?)) :=
  ⟨fun i _ lt q => ⟨xs, ys, xs[i]'(by omega), ys[i]'(by omega), q.1, q.2, List.getElem?_eq_getElem _, List.getElem?_eq_getElem _⟩, fun _ q => ⟨xs, ys, q.1, q.2, by omega⟩, fun i _ _ _ _ q y => by
    obtain ⟨T, x, u, e1, e2, e3, e4, e5⟩ := y
    exact ⟨T, x, u, e1, e2, e3, e4 xs q.1, e5 ys q.2⟩⟩
section
variable {P : Program} {w : World} {K : PySem.W.Frag} {mg : Str → Option Value} {base : Heap}
theorem ok_is_tuple (D : Df K mg "is_tuple_of_integers" s_is_tuple_of_integers ["thing", "many"]) (B : Bi mg) (c_is_integer : Cal P w K mg base 1 "is_integer" sp_is_integer) : Cal P w K mg base 2 "is_tuple_of_integers" sp_isTuple := by
  obtain ⟨f, fd, F, m, b⟩ := D.ex
  have sc := sc_is_tuple_of_integers
  refine ⟨f, fd, _, F.ok sc (fun _ _ _ _ ⟨_, _, e, _⟩ => by rw [e]; rfl) (fun cdv A outer s H vs Q E hr h => ?_), m, F.kp, b⟩
  obtain ⟨v, x, rfl, hx, q⟩ := h
  refine ⟨_, (pss_one (ps_ret (pe_and (pe_callB (id := "isinstance") (r := rIsi K) call_isi (by rfl) B.isinstance (by decide +kernel) (pa_cons (pv 0) (pa_cons (pe_ty (n := "tuple") (by rfl) B.tuple (by decide +kernel)) pa_nil))) (pe_and (pe_cmpR op_eq (pe_callB call_len_seq (by rfl) B.len_ (by decide +kernel) (pa_cons (pv 0) pa_nil)) (pv 1) (nomark _)) (pe_one (pe_callB (cr_all rfl) (by rfl) B.all (by decide +kernel) (pa_cons (pe_lc (own := [("item", 2)]) (g := gName 2) (tt := tYes) (by rfl) sc.nd (pi_tup (pv 0)) (blkOk_by (own := [("item", 2)]) (N := N_is_tuple_of_integers) (sc := defScope s_is_tuple_of_integers) (by decide +kernel)) (fun _ _ _ _ _ => (pg_name (i := 2) sc.nd rfl (Or.inl rfl))) (fun _ _ _ _ _ => pts_nil) (fun _ _ _ _ _ => (pe_c c_is_integer hr (by decide) (by rfl) (pa_cons (pv 2) pa_nil)))) pa_nil))))))), ?_⟩
  obtain ⟨t, rfl, ht⟩ := id hx
  refine ⟨_, rfl, _, _, _, _, true, rfl, .ty _, .base (.tup ht), kit_tup_tup, _, rfl, iteT ?_⟩
  refine ⟨_, rfl, t, _, rfl, .inr (SqT.of ht), _, rfl, rfl, _, rfl, ?_⟩
  refine iteT ?_
  refine ⟨_, rfl, t, rfl, ⟨_, SqT.of ht⟩, fun D1 hD1 => ?_⟩
  refine lc_it (walk_tup (xs := [V.int x.1, V.int x.2])) (fun i H' => Same H H' ∧ H' D1 = some (.lst ((List.replicate i true).map V.bl))) ⟨Same.upd_new hD1, upd_same⟩ (fun i H' _ ⟨s2, _⟩ => SqT.of (s2 _ _ ht)) ?_ ?_
  · rintro i u H2 H3 hi ⟨s2, h2⟩ ⟨rfl, hu⟩
    obtain ⟨z, rfl, _⟩ := int_at (ns := [x.1, x.2]) hu
    have hi2 : i < 2 := hi
    refine ⟨rfl, ?_⟩
    refine ⟨_, rfl, z, rfl, trivial, _, h2, ?_, fun b o e => ?_, ?_⟩
    · rw [List.length_map, List.length_replicate]
      exact Nat.lt_of_le_of_lt (by omega : i ≤ 400) (by decide)
    · rw [upd_ne (ne_of_none e hD1)]
      exact s2 _ _ e
    · rw [upd_same, List.replicate_succ', List.map_append]
      rfl
  · rintro H2 ⟨s2, h2⟩
    refine ⟨D1, _, rfl, SqL.of h2, ?_⟩
    rw [all_true]
    exact q H2 s2
theorem ok_is_pair (D : Df K mg "is_pair_of_integers" s_is_pair_of_integers ["thing"]) (c_is_tuple_of_integers : Cal P w K mg base 2 "is_tuple_of_integers" sp_isTuple) : Cal P w K mg base 3 "is_pair_of_integers" sp_isPair := by
  obtain ⟨f, fd, F, m, b⟩ := D.ex
  have sc := sc_is_pair_of_integers
  refine ⟨f, fd, _, F.ok sc (fun _ _ _ _ ⟨_, _, e, _⟩ => by rw [e]; rfl) (fun cdv A outer s H vs Q E hr h => ?_), m, F.kp, b⟩
  obtain ⟨v, x, rfl, hx, q⟩ := h
  refine ⟨_, (pss_one (ps_ret (pe_c c_is_tuple_of_integers hr (by decide) (by rfl) (pa_cons (pv 0) (pa_cons pe_int pa_nil))))), ?_⟩
  exact ⟨_, rfl, v, x, rfl, hx, q⟩
theorem ok_is_number (D : Df K mg "is_number" s_is_number ["thing"]) (B : Bi mg) (c_is_pair_of_integers : Cal P w K mg base 3 "is_pair_of_integers" sp_isPair) : Cal P w K mg base 4 "is_number" sp_isNumber := by
  obtain ⟨f, fd, F, m, b⟩ := D.ex
  have sc := sc_is_number
  refine ⟨f, fd, _, F.ok sc (fun _ _ _ _ ⟨_, _, e, _⟩ => by rw [e]; rfl) (fun cdv A outer s H vs Q E hr h => ?_), m, F.kp, b⟩
  obtain ⟨v, x, rfl, hx, x2, q⟩ := h
  refine ⟨_, (pss_one (ps_ret (pe_and (pe_c c_is_pair_of_integers hr (by decide) (by rfl) (pa_cons (pv 0) pa_nil)) (pe_one (pe_cmpR op_ge (pe_ix (show IxR _ (rIx K) from ix_seq) (pv 0) pe_int (fun _ _ => rfl)) pe_int (nomark _)))))), ?_⟩
  refine ⟨_, rfl, v, x, rfl, hx, fun H1 s1 => ⟨true, rfl, iteT ?_⟩⟩
  refine ⟨_, rfl, fr1 (hx.same s1) ⟨_, _, rfl, rfl, ?_⟩⟩
  show Q (.bl (decide ((1 : Int) ≤ x.2))) H1
  rw [decide_eq_true x2]
  exact q _ s1
theorem ok_check_number (D : Df K mg "check_number" s_check_number ["thing"]) (B : Bi mg) (c_is_number : Cal P w K mg base 4 "is_number" sp_isNumber) : Cal P w K mg base 5 "check_number" sp_checkNumber := by
  obtain ⟨f, fd, F, m, b⟩ := D.ex
  have sc := sc_check_number
  refine ⟨f, fd, _, F.ok sc (fun _ _ _ _ ⟨_, _, e, _⟩ => by rw [e]; rfl) (fun cdv A outer s H vs Q E hr h => ?_), m, F.kp, b⟩
  obtain ⟨v, x, rfl, hx, x2, q⟩ := h
  refine ⟨_, (pss_one (ps_if (pt_not (pt_val (pe_c c_is_number hr (by decide) (by rfl) (pa_cons (pv 0) pa_nil))))
      (pss_one ps_never)
      pss_nil)), ?_⟩
  exact ⟨_, rfl, v, x, rfl, hx, x2, fun H1 s1 => ⟨_, rfl, iteF (q _ s1)⟩⟩
theorem ok_ptops (D : Df K mg "product_tops" s_product_tops ["one", "other"]) (B : Bi mg) : Cal P w K mg base 1 "product_tops" sp_ptops := by
  obtain ⟨f, fd, F, m, b⟩ := D.ex
  have sc := sc_product_tops
  refine ⟨f, fd, _, F.ok sc (fun _ _ _ _ ⟨_, _, _, _, e, _⟩ => by rw [e]; rfl) (fun cdv A outer s H vs Q E hr h => ?_), m, F.kp, b⟩
  obtain ⟨p, q, t1, t2, rfl, hp, hq, l1, l2, b1, b2, qq⟩ := h
  refine ⟨_, (pss_cons (ps_set (i := 2) sc.nd rfl (Or.inl rfl) (pe_callB (call_min2 rfl) (by rfl) B.min_ (by decide +kernel) (pa_cons (pe_callB call_len_seq (by rfl) B.len_ (by decide +kernel) (pa_cons (pv 0) pa_nil)) (pa_cons (pe_callB call_len_seq (by rfl) B.len_ (by decide +kernel) (pa_cons (pv 1) pa_nil)) pa_nil))))
      (pss_one (ps_ret (pe_lc (own := [("n", 4)]) (g := gName 4) (tt := tYes) (by rfl) sc.nd (pi_range1 rfl B.range (pa_cons (pv 2) pa_nil)) (blkOk_by (own := [("n", 4)]) (N := N_product_tops) (sc := defScope s_product_tops) (by decide +kernel)) (fun _ _ _ _ _ => (pg_name (i := 4) sc.nd rfl (Or.inr rfl))) (fun _ _ _ _ _ => pts_nil) (fun _ _ _ _ _ => (pe_callB (id := "sum") (r := rSum K) (cr_sum rfl) (by rfl) B.sum (by decide +kernel) (pa_cons (pe_lc (own := [("i", 3)]) (g := gName 3) (tt := tYes) (by rfl) sc.nd (pi_range1 rfl B.range (pa_cons (pe_op op_add (pv 4) pe_int) pa_nil)) (blkOk_by (own := [("i", 3)]) (N := N_product_tops) (sc := { kind := ScopeKind.function, names := [(".0", NameKind.local), ("n", NameKind.cell), ("sum", NameKind.globalImplicit), ("range", NameKind.globalImplicit), ("one", NameKind.cell), ("other", NameKind.cell)], isGenerator := false, isCoroutine := false }) (by decide +kernel)) (fun _ _ _ _ _ => (pg_name (i := 3) sc.nd rfl (Or.inl rfl))) (fun _ _ _ _ _ => pts_nil) (fun _ _ _ _ _ => (pe_op op_mulW (pe_ix (show IxR _ (rIx K) from ix_seq) (pv 0) (pv 3) (fun _ _ => rfl)) (pe_ix (show IxR _ (rIx K) from ix_seq) (pv 1) (pe_op op_sub (pv 4) (pv 3)) (fun _ _ => rfl))))) pa_nil))))))), ?_⟩
  have ll1 : (t1.map V.int).length = t1.length := List.length_map ..
  have ll2 : (t2.map V.int).length = t2.length := List.length_map ..
  refine ⟨_, rfl, p, _, rfl, .inr (SqT.of hp), _, rfl, q, _, rfl, .inr (SqT.of hq), _, _, rfl, ?_⟩
  rw [ll1, ll2]
  have em : (if (t2.length : Int) < (t1.length : Int) then (t2.length : Int) else (t1.length : Int)) = ((min t1.length t2.length : Nat) : Int) := by split <;> omega
  rw [em]
  dsimp only [gName]
  have hmul : mulL t1 t2 = (List.range (min t1.length t2.length)).map fun n => csum t1 t2 n := rfl
  generalize hm : min t1.length t2.length = many at hmul
  refine ⟨_, rfl, _, rfl, by omega, by omega, fun D1 hD1 => ?_⟩
  refine lc_range (lo := 0) (n := ((many : Int)).toNat) (fun i H' => Same H H' ∧ H' D1 = some (.lst (((List.range i).map fun n => csum t1 t2 n).map V.int))) ⟨Same.upd_new hD1, upd_same⟩ ?_ ?_
  · rintro n H2 hn ⟨s2, h2⟩
    rw [Int.toNat_natCast] at hn
    dsimp only [gName]
    rw [Int.zero_add]
    refine ⟨rfl, ?_⟩
    refine ⟨_, rfl, _, _, rfl, rfl, _, rfl, by omega, by omega, fun D2 hD2 => ?_⟩
    refine lc_range (lo := 0) (n := ((n : Int) + 1).toNat) (fun i H' => Same H2 H' ∧ H' D2 = some (.lst (((List.range i).map fun j => t1.getD j 0 * t2.getD (n - j) 0).map V.int))) ⟨Same.upd_new hD2, upd_same⟩ ?_ ?_
    · rintro j H3 hj ⟨s3, h3⟩
      have hj' : j ≤ n := by omega
      dsimp only [gName]
      rw [Int.zero_add]
      have hp3 := s3 _ _ (s2 _ _ hp)
      have hq3 := s3 _ _ (s2 _ _ hq)
      have esub : (n : Int) - (j : Int) = ((n - j : Nat) : Int) := by omega
      refine ⟨rfl, _, rfl, _, rfl, .inr (.inl ⟨p, _, _, _, rfl, rfl, SqT.of hp3, atI_nat (getD_at (by omega)), ?_⟩)⟩
      refine ⟨_, rfl, _, rfl, _, rfl, _, _, rfl, rfl, ?_⟩
      dsimp only
      rw [esub]
      refine .inr (.inl ⟨q, _, _, _, rfl, rfl, SqT.of hq3, atI_nat (getD_at (by omega)), ?_⟩)
      refine ⟨_, _, rfl, rfl, mul2 (getD_lt b1 j) (getD_lt b2 (n - j)), _, h3, ?_, fun b o e => ?_, ?_⟩
      · rw [List.length_map, List.length_map, List.length_range]
        exact Nat.lt_of_le_of_lt (by omega : j ≤ 400) (by decide)
      · rw [upd_ne (ne_of_none e hD2)]
        exact s3 _ _ e
      · rw [upd_same, List.range_succ, List.map_append, List.map_append]
        rfl
    · rintro H3 ⟨s3, h3⟩
      rw [show ((n : Int) + 1).toNat = n + 1 by omega] at h3
      refine ⟨D2, _, rfl, SqL.of h3, ?_⟩
      have h2' := s3 _ _ h2
      refine ⟨_, h2', ?_, fun b o e => ?_, ?_⟩
      · rw [List.length_map, List.length_map, List.length_range]
        exact Nat.lt_of_le_of_lt (by omega : n ≤ 400) (by decide)
      · rw [upd_ne (ne_of_none e hD1)]
        exact s3 _ _ (s2 _ _ e)
      · have ec : (List.range (n + 1)).map (fun n => csum t1 t2 n) = (List.range n).map (fun n => csum t1 t2 n) ++ [csum t1 t2 n] := by rw [List.range_succ, List.map_append]; rfl
        rw [upd_same, ec, List.map_append]
        rfl
  · rintro H2 ⟨s2, h2⟩
    rw [Int.toNat_natCast, ← hmul] at h2
    exact qq _ D1 s2 h2
theorem fn_added {f : Addr} {fd : FuncData} (F : Fun K "added" "added" s_added f fd) (B : Bi mg) (c_check_beginning : Cal P w K mg base 4 "check_beginning" sp_checkBeg) (c_lowered : Cal P w K mg base 1 "lowered" sp_lowered) : FnOk P w K mg base CX0 5 f fd ["one", "other"] (sp_bin addL) := by
  have sc := sc_added
  refine F.ok sc (fun _ _ _ _ ⟨_, _, _, _, _, _, e, _⟩ => by rw [e]; rfl) (fun cdv A outer s H vs Q E hr h => ?_)
  obtain ⟨u, v, b1, t1, b2, t2, rfl, hu, hv, ok1, ok2, s1, s2, s3, s4, q⟩ := h
  refine ⟨_, (pss_cons (ps_expr (pe_c c_check_beginning hr (by decide) (by rfl) (pa_cons (pv 0) pa_nil)))
      (pss_cons (ps_expr (pe_c c_check_beginning hr (by decide) (by rfl) (pa_cons (pv 1) pa_nil)))
      (pss_cons (ps_setLc (i := 4) (own := [("a", 2), ("b", 3)]) (g := gTup K 2 (gCons (gName 2) (gCons (gName 3) gNil))) (tt := tYes) (by rfl) sc.nd rfl rfl (sw_true rfl rfl rfl (by decide +kernel)) (RZ.pi_zipA (by rfl) B.zip (pa_cons (pe_ix (show IxR _ (rIx K) from ix_seq) (pv 0) pe_int (fun _ _ => rfl)) (pa_cons (pe_ix (show IxR _ (rIx K) from ix_seq) (pv 1) pe_int (fun _ _ => rfl)) pa_nil))) (blkOk_by (own := [("a", 2), ("b", 3)]) (N := N_added) (sc := defScope s_added) (by decide +kernel)) (fun _ _ _ _ _ => (pg_tup rfl (pgs_cons (pg_name (i := 2) sc.nd rfl (Or.inl rfl) (Or.inr rfl)) (pgs_cons (pg_name (i := 3) sc.nd rfl (Or.inl rfl) (Or.inr rfl)) pgs_nil)))) (fun _ _ _ _ _ => pts_nil) (fun _ _ _ _ _ => (pe_op op_add (pe_op op_mulW (pv 2) (pe_ix (show IxR _ (rIx K) from ix_seq) (pv 1) pe_int (fun _ _ => rfl))) (pe_op op_mulW (pv 3) (pe_ix (show IxR _ (rIx K) from ix_seq) (pv 0) pe_int (fun _ _ => rfl))))))
      (pss_one (ps_ret (pe_c c_lowered hr (by decide) (by rfl) (pa_cons (pe_op op_mulW (pe_ix (show IxR _ (rIx K) from ix_seq) (pv 0) pe_int (fun _ _ => rfl)) (pe_ix (show IxR _ (rIx K) from ix_seq) (pv 1) pe_int (fun _ _ => rfl))) (pa_cons (pv 4) pa_nil)))))))), ?_⟩
  have l1 := ok1.2.1
  have l2 := ok1.2.2
  have l3 := ok2.2.1
  have l4 := ok2.2.2
  have p1 := ok1.1
  have p2 := ok2.1
  have a0 : ∀ {a c : V}, atI [a, c] 0 = some a := fun {a c} => atI_nat (j := 0) rfl
  have a1 : ∀ {a c : V}, atI [a, c] 1 = some c := fun {a c} => atI_nat (j := 1) rfl
  have ll1 : (t1.map V.int).length = t1.length := List.length_map ..
  have ll2 : (t2.map V.int).length = t2.length := List.length_map ..
  refine ⟨_, rfl, u, b1, t1, rfl, hu, ok1, fun H1 e1 => ?_⟩
  refine ⟨_, rfl, v, b2, t2, rfl, hv.same e1, ok2, fun H2 e2 => ?_⟩
  have e12 := e1.trans e2
  obtain ⟨p, r, rfl, hp, hrt⟩ := hu.same e12
  obtain ⟨p', r', rfl, hp', hrt'⟩ := hv.same e12
  refine ⟨_, rfl, .inr (.inl ⟨p, _, 1, _, rfl, rfl, SqT.of hp, a1, _, rfl, .inr (.inl ⟨p', _, 1, _, rfl, rfl, SqT.of hp', a1, r, r', _, _, rfl, .inr ⟨SqT.of hrt, SqT.of hrt', fun D1 hD1 => ?_⟩⟩)⟩)⟩
  refine lc_it (walk_zipT (xs := t1.map V.int) (ys := t2.map V.int) (n := min t1.length t2.length) (by rw [ll1, ll2])) (fun i H' => Same H2 H' ∧ H' D1 = some (.lst (((List.range i).map fun n => t1.getD n 0 * b2 + t2.getD n 0 * b1).map V.int))) ⟨Same.upd_new hD1, upd_same⟩ (fun i H' _ ⟨k2, _⟩ => ⟨SqT.of (k2 _ _ hrt), SqT.of (k2 _ _ hrt')⟩) ?_ ?_
  · rintro i x0 H3 H4 hi ⟨k3, h3⟩ ⟨T, x, y, rfl, hT, rfl, hx, hy⟩
    obtain rfl : x = V.int (t1.getD i 0) := Option.some.inj (hx.symm.trans (getD_at (by omega)))
    obtain rfl : y = V.int (t2.getD i 0) := Option.some.inj (hy.symm.trans (getD_at (by omega)))
    have k4 : Same H3 (upd H3 T (.tup [V.int (t1.getD i 0), V.int (t2.getD i 0)])) := Same.upd_new hT
    refine ⟨T, _, rfl, SqT.of upd_same, rfl, ?_⟩
    refine ⟨_, _, rfl, _, _, rfl, rfl, rfl, ?_⟩
    have kp := k4 _ _ (k3 _ _ hp)
    have kp' := k4 _ _ (k3 _ _ hp')
    refine ⟨_, rfl, _, rfl, .inr (.inl ⟨p', _, 0, _, rfl, rfl, SqT.of kp', a0, _, _, rfl, rfl, mul2 (getD_lt s3 i) s2, ?_⟩)⟩
    refine ⟨_, rfl, _, rfl, .inr (.inl ⟨p, _, 0, _, rfl, rfl, SqT.of kp, a0, _, _, rfl, rfl, mul2 (getD_lt s4 i) s1, ?_⟩)⟩
    refine ⟨_, _, rfl, rfl, _, k4 _ _ h3, ?_, fun b o e => ?_, ?_⟩
    · rw [List.length_map, List.length_map, List.length_range]
      exact Nat.lt_of_le_of_lt (by omega : i ≤ 400) (by decide)
    · rw [upd_ne (ne_of_none e hD1)]
      exact k4 _ _ (k3 _ _ e)
    · rw [upd_same, List.range_succ, List.map_append, List.map_append]
      rfl
  · rintro H3 ⟨k3, h3⟩
    have kp := k3 _ _ hp
    have kp' := k3 _ _ hp'
    refine ⟨_, rfl, .inr (.inl ⟨p, _, 0, _, rfl, rfl, SqT.of kp, a0, ?_⟩)⟩
    refine ⟨_, rfl, .inr (.inl ⟨p', _, 0, _, rfl, rfl, SqT.of kp', a0, _, _, rfl, rfl, mul2 s1 s2, ?_⟩)⟩
    refine ⟨_, rfl, b1 * b2, D1, addL b1 t1 b2 t2, rfl, h3, Int.mul_pos (by omega) (by omega), mul_lt2 s1 s2, ?_, fun H4 r4 k4 g4 => q _ _ (e12.trans (k3.trans k4)) g4⟩
    unfold addL
    rw [List.length_map, List.length_range]
    omega
theorem fn_multiplied {f : Addr} {fd : FuncData} (F : Fun K "multiplied" "multiplied" s_multiplied f fd) (c_check_beginning : Cal P w K mg base 4 "check_beginning" sp_checkBeg) (c_lowered : Cal P w K mg base 1 "lowered" sp_lowered) (c_product_tops : Cal P w K mg base 1 "product_tops" sp_ptops) : FnOk P w K mg base CX0 5 f fd ["one", "other"] (sp_bin fun _ t1 _ t2 => mulL t1 t2) := by
  have sc := sc_multiplied
  refine F.ok sc (fun _ _ _ _ ⟨_, _, _, _, _, _, e, _⟩ => by rw [e]; rfl) (fun cdv A outer s H vs Q E hr h => ?_)
  obtain ⟨u, v, b1, t1, b2, t2, rfl, hu, hv, ok1, ok2, s1, s2, s3, s4, q⟩ := h
  refine ⟨_, (pss_cons (ps_expr (pe_c c_check_beginning hr (by decide) (by rfl) (pa_cons (pv 0) pa_nil)))
      (pss_cons (ps_expr (pe_c c_check_beginning hr (by decide) (by rfl) (pa_cons (pv 1) pa_nil)))
      (pss_one (ps_ret (pe_c c_lowered hr (by decide) (by rfl) (pa_cons (pe_op op_mulW (pe_ix (show IxR _ (rIx K) from ix_seq) (pv 0) pe_int (fun _ _ => rfl)) (pe_ix (show IxR _ (rIx K) from ix_seq) (pv 1) pe_int (fun _ _ => rfl))) (pa_cons (pe_c c_product_tops hr (by decide) (by rfl) (pa_cons (pe_ix (show IxR _ (rIx K) from ix_seq) (pv 0) pe_int (fun _ _ => rfl)) (pa_cons (pe_ix (show IxR _ (rIx K) from ix_seq) (pv 1) pe_int (fun _ _ => rfl)) pa_nil))) pa_nil))))))), ?_⟩
  have l1 := ok1.2.1
  have l2 := ok1.2.2
  have l3 := ok2.2.1
  have l4 := ok2.2.2
  have p1 := ok1.1
  have p2 := ok2.1
  have a0 : ∀ {a c : V}, atI [a, c] 0 = some a := fun {a c} => atI_nat (j := 0) rfl
  have a1 : ∀ {a c : V}, atI [a, c] 1 = some c := fun {a c} => atI_nat (j := 1) rfl
  refine ⟨_, rfl, u, b1, t1, rfl, hu, ok1, fun H1 e1 => ?_⟩
  refine ⟨_, rfl, v, b2, t2, rfl, hv.same e1, ok2, fun H2 e2 => ?_⟩
  have e12 := e1.trans e2
  obtain ⟨p, r, rfl, hp, hrt⟩ := hu.same e12
  obtain ⟨p', r', rfl, hp', hrt'⟩ := hv.same e12
  refine ⟨_, rfl, .inr (.inl ⟨p, _, 0, _, rfl, rfl, SqT.of hp, a0, _, rfl, .inr (.inl ⟨p', _, 0, _, rfl, rfl, SqT.of hp', a0, _, _, rfl, rfl, mul2 s1 s2, ?_⟩)⟩)⟩
  refine ⟨_, rfl, .inr (.inl ⟨p, _, 1, _, rfl, rfl, SqT.of hp, a1, _, rfl, .inr (.inl ⟨p', _, 1, _, rfl, rfl, SqT.of hp', a1, r, r', t1, t2, rfl, hrt, hrt', l2, l4, s3, s4, fun H3 d3 k3 h3 => ?_⟩)⟩)⟩
  refine ⟨b1 * b2, d3, mulL t1 t2, rfl, h3, Int.mul_pos (by omega) (by omega), mul_lt2 s1 s2, ?_, fun H4 r4 k4 g4 => q _ _ (e12.trans (k3.trans k4)) g4⟩
  unfold mulL
  rw [List.length_map, List.length_range]
  omega
theorem fn_times {f : Addr} {fd : FuncData} (F : Fun K "times" "times" s_times f fd) (c_check_beginning : Cal P w K mg base 4 "check_beginning" sp_checkBeg) (c_check_number : Cal P w K mg base 5 "check_number" sp_checkNumber) (c_lowered : Cal P w K mg base 1 "lowered" sp_lowered) : FnOk P w K mg base CX0 6 f fd ["beginning", "number"] sp_times := by
  have sc := sc_times
  refine F.ok sc (fun _ _ _ _ ⟨_, _, _, _, _, e, _⟩ => by rw [e]; rfl) (fun cdv A outer s H vs Q E hr h => ?_)
  obtain ⟨u, v, b, t, x, rfl, hu, hx, ok1, x2, s1, s2, s3, s4, q⟩ := h
  refine ⟨_, (pss_cons (ps_expr (pe_c c_check_beginning hr (by decide) (by rfl) (pa_cons (pv 0) pa_nil)))
      (pss_cons (ps_expr (pe_c c_check_number hr (by decide) (by rfl) (pa_cons (pv 1) pa_nil)))
      (pss_cons (ps_asg (pv 0) (pg_tup rfl (pgs_cons (pg_name (i := 2) sc.nd rfl (Or.inl rfl)) (pgs_cons (pg_name (i := 3) sc.nd rfl (Or.inl rfl)) pgs_nil))))
      (pss_one (ps_ret (pe_c c_lowered hr (by decide) (by rfl) (pa_cons (pe_op op_mulW (pv 2) (pe_ix (show IxR _ (rIx K) from ix_seq) (pv 1) pe_int (fun _ _ => rfl))) (pa_cons (pe_lc (own := [("top", 4)]) (g := gName 4) (tt := tYes) (by rfl) sc.nd (pi_tup (pv 3)) (blkOk_by (own := [("top", 4)]) (N := N_times) (sc := defScope s_times) (by decide +kernel)) (fun _ _ _ _ _ => (pg_name (i := 4) sc.nd rfl (Or.inl rfl))) (fun _ _ _ _ _ => pts_nil) (fun _ _ _ _ _ => (pe_op op_mulW (pv 4) (pe_ix (show IxR _ (rIx K) from ix_seq) (pv 1) pe_int (fun _ _ => rfl))))) pa_nil)))))))), ?_⟩
  have l1 := ok1.2.1
  have l2 := ok1.2.2
  have p1 := ok1.1
  have ll : (t.map V.int).length = t.length := List.length_map ..
  refine ⟨_, rfl, u, b, t, rfl, hu, ok1, fun H0 e0 => ?_⟩
  refine ⟨_, rfl, v, x, rfl, hx.same e0, x2, fun H1 e01 => ?_⟩
  have e1 := e0.trans e01
  obtain ⟨p, r, rfl, hp, hrt⟩ := hu.same e1
  have hx1 := hx.same e1
  refine ⟨_, rfl, p, _, rfl, SqT.of hp, rfl, _, _, rfl, _, _, rfl, rfl, ?_⟩
  refine ⟨_, rfl, _, rfl, fr1 hx1 ⟨_, _, rfl, rfl, mul2 s1 s3, ?_⟩⟩
  refine ⟨_, rfl, r, rfl, ⟨_, SqT.of hrt⟩, fun D1 hD1 => ?_⟩
  refine lc_it (walk_tup (xs := t.map V.int)) (fun i H' => Same H1 H' ∧ H' D1 = some (.lst ((timL (t.take i) x.1).map V.int))) ⟨Same.upd_new hD1, upd_same⟩ (fun i H' _ ⟨k2, _⟩ => SqT.of (k2 _ _ hrt)) ?_ ?_
  · rintro i y H2 H3 hi ⟨k2, h2⟩ ⟨rfl, hy⟩
    rw [ll] at hi
    obtain rfl : y = V.int (t.getD i 0) := Option.some.inj (hy.symm.trans (getD_at hi))
    have hti : t[i]? = some (t.getD i 0) := by rw [List.getElem?_eq_getElem hi, List.getD_eq_getElem?_getD, List.getElem?_eq_getElem hi]; rfl
    refine ⟨rfl, _, rfl, _, rfl, fr0 (hx1.same k2) ⟨_, _, rfl, rfl, mul2 (getD_lt s4 i) s2, _, h2, ?_, fun b o e => ?_, ?_⟩⟩
    · unfold timL
      rw [List.length_map, List.length_map, List.length_take]
      exact Nat.lt_of_le_of_lt (by omega : _ ≤ 400) (by decide)
    · rw [upd_ne (ne_of_none e hD1)]
      exact k2 _ _ e
    · rw [upd_same, take_snoc hti]
      unfold timL
      rw [List.map_append, List.map_append]
      rfl
  · rintro H2 ⟨k2, h2⟩
    rw [ll, List.take_length] at h2
    refine ⟨b * x.2, D1, timL t x.1, rfl, h2, Int.mul_pos (by omega) (by omega), mul_lt2 s1 s3, ?_, fun H4 r4 k4 g4 => q _ _ (e1.trans (k2.trans k4)) g4⟩
    unfold timL
    rw [List.length_map]
    omega
theorem ok_term_at (D : Df K mg "term_at" s_term_at ["beginning", "n"]) (B : Bi mg) (c_check_beginning : Cal P w K mg base 4 "check_beginning" sp_checkBeg) (c_check_between : Cal P w K mg base 3 "check_between" (sp3 (fun n a b => a ≤ n ∧ n ≤ b) fun _ _ _ => .non)) (c_lowest_terms : Cal P w K mg base 1 "lowest_terms" sp_low) : Cal P w K mg base 5 "term_at" sp_termAt := by
  obtain ⟨f, fd, F, m, b⟩ := D.ex
  have sc := sc_term_at
  refine ⟨f, fd, _, F.ok sc (fun _ _ _ _ ⟨_, _, _, _, e, _⟩ => by rw [e]; rfl) (fun cdv A outer s H vs Q E hr h => ?_), m, F.kp, b⟩
  obtain ⟨u, b, t, n, rfl, hu, ok1, hn, s1, q⟩ := h
  refine ⟨_, (pss_cons (ps_expr (pe_c c_check_beginning hr (by decide) (by rfl) (pa_cons (pv 0) pa_nil)))
      (pss_cons (ps_asg (pv 0) (pg_tup rfl (pgs_cons (pg_name (i := 2) sc.nd rfl (Or.inl rfl)) (pgs_cons (pg_name (i := 3) sc.nd rfl (Or.inl rfl)) pgs_nil))))
      (pss_cons (ps_expr (pe_c c_check_between hr (by decide) (by rfl) (pa_cons (pv 1) (pa_cons pe_int (pa_cons (pe_op op_sub (pe_callB call_len_seq (by rfl) B.len_ (by decide +kernel) (pa_cons (pv 3) pa_nil)) pe_int) pa_nil)))))
      (pss_one (ps_ret (pe_c c_lowest_terms hr (by decide) (by rfl) (pa_cons (pe_ix (show IxR _ (rIx K) from ix_seq) (pv 3) (pv 1) (fun _ _ => rfl)) (pa_cons (pv 2) pa_nil)))))))), ?_⟩
  have p1 := ok1.1
  have ll : (t.map V.int).length = t.length := List.length_map ..
  refine ⟨_, rfl, u, b, t, rfl, hu, ok1, fun H1 e1 => ?_⟩
  obtain ⟨p, r, rfl, hp, hrt⟩ := hu.same e1
  refine ⟨_, rfl, p, _, rfl, SqT.of hp, rfl, _, _, rfl, _, _, rfl, rfl, ?_⟩
  refine ⟨_, rfl, _, rfl, r, _, rfl, .inr (SqT.of hrt), _, _, rfl, rfl, (n : Int), 0, _, rfl, ⟨by omega, by rw [ll]; omega⟩, ?_⟩
  refine ⟨_, rfl, _, rfl, .inr (.inl ⟨r, _, _, _, rfl, rfl, SqT.of hrt, atI_nat (getD_at hn), ?_⟩)⟩
  exact ⟨_, rfl, t.getD n 0, b, rfl, by omega, s1, fun H4 r4 k4 g4 => q _ _ (e1.trans k4) g4⟩
end
end Ft

set_option exponentiation.threshold 9000
namespace Ft
open PySem L2
/-! the law's own sums and products of rows -/
theorem fmod_step (a b : Int) : Nat.gcd b.natAbs (a.fmod b).natAbs = Nat.gcd a.natAbs b.natAbs := by
  have h := Int.gcd_sub_mul_right_right b a (a.fdiv b)
  rw [Int.mul_comm, ← Int.fmod_def] at h
  show Int.gcd b (a.fmod b) = _
  rw [h]
  exact Nat.gcd_comm _ _
theorem fmod_less (a : Int) {b : Int} (hb : b ≠ 0) : (a.fmod b).natAbs < b.natAbs := by
  rcases Int.lt_or_gt_of_ne hb with h | h
  · have e := Int.neg_fmod_neg (-a) (-b)
    rw [Int.neg_neg, Int.neg_neg] at e
    have h1 := Int.fmod_nonneg_of_pos (-a) (b := -b) (by omega)
    have h2 := Int.fmod_lt_of_pos (-a) (b := -b) (by omega)
    rw [e]
    omega
  · have h1 := Int.fmod_nonneg_of_pos a h
    have h2 := Int.fmod_lt_of_pos a h
    omega
def mA (i : Nat) (σ : L2.St) : Nat := match σ[i]? with
  | some (some (.int z)) => z.natAbs
  | _ => 0
def sp_com : Sp := fun vs H Q _ => ∃ a b : Int, vs = [.int a, .int b] ∧ Q (.int ((Nat.gcd a.natAbs b.natAbs : Nat) : Int)) H
section
variable {P : Program} {w : World} {K : PySem.W.Frag} {mg : Str → Option Value} {base : Heap}
theorem ok_common (D : Df K mg "_law_common" s__law_common ["_law_one", "_law_other"]) (B : Bi mg) : Cal P w K mg base 1 "_law_common" sp_com := by
  obtain ⟨f, fd, F, m, b⟩ := D.ex
  have sc := sc__law_common
  refine ⟨f, fd, _, F.ok sc (fun _ _ _ _ ⟨_, _, e, _⟩ => by rw [e]; rfl) (fun cdv A outer s H vs Q E hr h => ?_), m, F.kp, b⟩
  obtain ⟨a, b, rfl, q⟩ := h
  refine ⟨_, (pss_cons (ps_while PassesOwn.never (pt_cmpR op_ne (pv 1) pe_int (nomark _))
      (pss_one (ps_par (i := 0) (j := 1) (by rfl) sc.nd rfl rfl (by decide) rfl rfl (pa_cons (pv 1) (pa_cons (pe_op op_modN (pe_callTy call_int1 (by rfl) B.int_ (by decide +kernel) (pa_cons (pv 0) pa_nil)) (pv 1)) pa_nil)) (by rfl))))
      (pss_one (ps_ret (pe_callB call_abs (by rfl) B.abs (by decide +kernel) (pa_cons (pv 0) pa_nil))))), ?_⟩
  refine while_go (fun σ H' => H = H' ∧ ∃ (c e : Int), σ = [some (.int c), some (.int e)] ∧ Nat.gcd c.natAbs e.natAbs = Nat.gcd a.natAbs b.natAbs) (fun σ _ => mA 1 σ) ⟨rfl, a, b, rfl, rfl⟩ ?_
  rintro σ _ ⟨rfl, c, e, rfl, hce⟩
  refine ⟨_, rfl, rfl, _, rfl, ifNI (fun hne => ?_) fun he => ?_⟩
  · refine ⟨fun σ' H' => H = H' ∧ ∃ (c' e' : Int), σ' = [some (.int c'), some (.int e')] ∧ Nat.gcd c'.natAbs e'.natAbs = Nat.gcd a.natAbs b.natAbs ∧ e'.natAbs < e.natAbs, ?_, ?_⟩
    · rintro σ' _ ⟨rfl, c', e', rfl, h1, h2⟩
      exact ⟨_, (by show e'.natAbs < e.natAbs; exact h2), rfl, rfl, c', e', rfl, h1⟩
    refine ⟨_, rfl, _, rfl, .inl ⟨_, rfl, _, rfl, _, _, rfl, rfl, hne, _, _, rfl, ?_⟩⟩
    exact ⟨rfl, e, c.fmod e, rfl, by rw [fmod_step]; exact hce, fmod_less c hne⟩
  · subst he
    have e0 : Nat.gcd c.natAbs (Int.natAbs 0) = c.natAbs := Nat.gcd_zero_right _
    rw [e0] at hce
    refine ⟨_, rfl, c, rfl, ?_⟩
    have ea : (if c < 0 then -c else c) = (c.natAbs : Int) := by split <;> omega
    rw [ea, hce]
    exact q
theorem ok_reduced (D : Df K mg "_law_reduced" s__law_reduced ["_law_bottom", "_law_tops"]) (B : Bi mg) (c__law_common : Cal P w K mg base 1 "_law_common" sp_com) : Cal P w K mg base 2 "_law_reduced" sp_lowered := by
  obtain ⟨f, fd, F, m, b⟩ := D.ex
  have sc := sc__law_reduced
  refine ⟨f, fd, _, F.ok sc (fun _ _ _ _ ⟨_, _, _, e, _⟩ => by rw [e]; rfl) (fun cdv A outer s H vs Q E hr h => ?_), m, F.kp, b⟩
  obtain ⟨b, p, ts, rfl, hp, b0, b1, tl, q⟩ := h
  refine ⟨_, (pss_cons (ps_set (i := 2) sc.nd rfl (Or.inr rfl) (pv 0))
      (pss_cons (ps_for PassesOwn.never rfl (pi_list (pv 1)) (pg_name (i := 3) sc.nd rfl (Or.inl rfl))
      (pss_one (ps_set (i := 2) sc.nd rfl (Or.inr rfl) (pe_c c__law_common hr (by decide) (by rfl) (pa_cons (pv 2) (pa_cons (pv 3) pa_nil))))))
      (pss_one (ps_ret (pe_tup (pa_cons (pe_op op_fdivW (pv 0) (pv 2)) (pa_cons (pe_callTy call_tuple_of (by rfl) B.tuple (by decide +kernel) (pa_cons (pe_lc (own := [("_law_top", 3)]) (g := gName 3) (tt := tYes) (by rfl) sc.nd (pi_list (pv 1)) (blkOk_by (own := [("_law_top", 3)]) (N := N__law_reduced) (sc := defScope s__law_reduced) (by decide +kernel)) (fun _ _ _ _ _ => (pg_name (i := 3) sc.nd rfl (Or.inl rfl))) (fun _ _ _ _ _ => pts_nil) (fun _ _ _ _ _ => (pe_op op_fdivW (pv 3) (pv 2)))) pa_nil)) pa_nil))))))), ?_⟩
  have eb : b = (b.natAbs : Int) := by omega
  refine ⟨_, rfl, ?_⟩
  dsimp only [gName]
  refine tSeq_join (fun σ H' => H = H' ∧ ∃ o3 : Option V, σ = [some (.int b), some (.ref p), some (.int ((gcdL b.natAbs ts : Nat) : Int)), o3]) (fun N hN => ?_) ?_
  · refine ⟨_, rfl, p, rfl, ⟨_, SqL.of hp⟩, for_it (walk_list (xs := ts.map V.int)) (fun i σ H' => H = H' ∧ ∃ (g : Nat) (o3 : Option V), σ = [some (.int b), some (.ref p), some (.int (g : Int)), o3] ∧ gcdL g (ts.drop i) = gcdL b.natAbs ts) ⟨rfl, b.natAbs, none, by rw [← eb]; rfl, rfl⟩ (fun i σ H2 _ ⟨e, _⟩ => by rw [← e]; exact SqL.of hp) ?_ ?_⟩
    · rintro i x σ _ H' _ ⟨rfl, g, o3, rfl, hg⟩ ⟨e2, hi⟩
      replace e2 := e2.symm
      subst e2
      obtain ⟨z, rfl, hz⟩ := int_at hi
      rw [gcdL_drop hz] at hg
      refine ⟨_, rfl, _, rfl, (g : Int), z, rfl, ?_⟩
      exact ⟨rfl, _, _, rfl, hg⟩
    · rintro σ _ ⟨rfl, g, o3, rfl, hg⟩
      rw [List.length_map, List.drop_length] at hg
      exact hN _ _ ⟨rfl, o3, by rw [← hg]; rfl⟩
  rintro _ _ ⟨rfl, o3, rfl⟩
  have gd := gcdL_dvd ts b.natAbs
  have bp : 0 < b.natAbs := by omega
  have gl := Nat.le_of_dvd bp gd
  have gp := Nat.pos_of_dvd_of_pos gd bp
  generalize hG : gcdL b.natAbs ts = G at gl gp
  have cd : ∀ i : Int, CDivW i (G : Int) := fun i => wide_div (b := 8000) (by omega) (Nat.lt_of_le_of_lt gl b1) (by decide) (by decide)
  refine ⟨_, rfl, _, rfl, _, _, rfl, rfl, cd b, ?_⟩
  refine ⟨_, rfl, p, rfl, ⟨_, SqL.of hp⟩, fun D1 hD1 => ?_⟩
  refine lc_it (walk_list (xs := ts.map V.int)) (fun i H' => Same H H' ∧ H' D1 = some (.lst ((ts.take i).map fun t => V.int (t / (G : Int))))) ⟨Same.upd_new hD1, upd_same⟩ (fun i H' _ ⟨s2, _⟩ => SqL.of (s2 _ _ hp)) ?_ ?_
  · rintro i x H2 H3 _ ⟨s2, h2⟩ ⟨e2, hx⟩
    replace e2 := e2.symm
    subst e2
    obtain ⟨z, rfl, hz⟩ := int_at hx
    have hi := (List.getElem?_eq_some_iff.mp hz).1
    refine ⟨rfl, ?_⟩
    refine ⟨_, rfl, _, rfl, _, _, rfl, rfl, cd z, _, h2, ?_, fun b o e => ?_, ?_⟩
    · rw [List.length_map, List.length_take]
      exact Nat.lt_of_le_of_lt (Nat.le_trans (Nat.min_le_right _ _) tl) (by decide)
    · rw [upd_ne (ne_of_none e hD1)]
      exact s2 _ _ e
    · rw [upd_same, take_snoc hz, List.map_append]
      rfl
  · rintro H2 ⟨s2, h2⟩
    have e1 : (ts.take (ts.map V.int).length).map (fun t => V.int (t / (G : Int))) = (lowT b ts).map V.int := by
      unfold lowT
      rw [hG, List.length_map, List.take_length, List.map_map]
      rfl
    rw [e1] at h2
    refine ⟨D1, _, rfl, .inl ⟨SqL.of h2, fun T1 hT1 => ?_⟩⟩
    have s3 : Same H2 (upd H2 T1 (.tup ((lowT b ts).map V.int))) := Same.upd_new hT1
    have h3 : (upd H2 T1 (.tup ((lowT b ts).map V.int))) T1 = some (.tup ((lowT b ts).map V.int)) := upd_same
    generalize hH3 : upd H2 T1 (.tup ((lowT b ts).map V.int)) = H3 at s3 h3
    refine ⟨(by show (2 : Nat) ≤ sizeLine; decide), fun T2 hT2 => ?_⟩
    have s4 : Same H3 (upd H3 T2 (.tup [V.int (b / (G : Int)), V.ref T1])) := Same.upd_new hT2
    refine q _ _ (s2.trans (s3.trans s4)) ⟨T2, T1, rfl, ?_, s4 _ _ h3⟩
    unfold lowB
    rw [hG]
    exact upd_same
theorem ok_ladded (D : Df K mg "_law_added" s__law_added ["_law_one", "_law_other"]) (B : Bi mg) (c__law_reduced : Cal P w K mg base 2 "_law_reduced" sp_lowered) : Cal P w K mg base 3 "_law_added" (sp_bin addL) := by
  obtain ⟨f, fd, F, m, b⟩ := D.ex
  have sc := sc__law_added
  refine ⟨f, fd, _, F.ok sc (fun _ _ _ _ ⟨_, _, _, _, _, _, e, _⟩ => by rw [e]; rfl) (fun cdv A outer s H vs Q E hr h => ?_), m, F.kp, b⟩
  obtain ⟨u, v, b1, t1, b2, t2, rfl, hu, hv, ok1, ok2, s1, s2, s3, s4, q⟩ := h
  refine ⟨_, (pss_one (ps_ret (pe_c c__law_reduced hr (by decide) (by rfl) (pa_cons (pe_op op_mulW (pe_ix (show IxR _ (rIx K) from ix_seq) (pv 0) pe_int (fun _ _ => rfl)) (pe_ix (show IxR _ (rIx K) from ix_seq) (pv 1) pe_int (fun _ _ => rfl))) (pa_cons (pe_lc (own := [("_law_x", 2), ("_law_y", 3)]) (g := gTup K 2 (gCons (gName 2) (gCons (gName 3) gNil))) (tt := tYes) (by rfl) sc.nd (RZ.pi_zipA (by rfl) B.zip (pa_cons (pe_ix (show IxR _ (rIx K) from ix_seq) (pv 0) pe_int (fun _ _ => rfl)) (pa_cons (pe_ix (show IxR _ (rIx K) from ix_seq) (pv 1) pe_int (fun _ _ => rfl)) pa_nil))) (blkOk_by (own := [("_law_x", 2), ("_law_y", 3)]) (N := N__law_added) (sc := defScope s__law_added) (by decide +kernel)) (fun _ _ _ _ _ => (pg_tup rfl (pgs_cons (pg_name (i := 2) sc.nd rfl (Or.inl rfl) (Or.inr rfl)) (pgs_cons (pg_name (i := 3) sc.nd rfl (Or.inl rfl) (Or.inr rfl)) pgs_nil)))) (fun _ _ _ _ _ => pts_nil) (fun _ _ _ _ _ => (pe_op op_add (pe_op op_mulW (pv 2) (pe_ix (show IxR _ (rIx K) from ix_seq) (pv 1) pe_int (fun _ _ => rfl))) (pe_op op_mulW (pv 3) (pe_ix (show IxR _ (rIx K) from ix_seq) (pv 0) pe_int (fun _ _ => rfl)))))) pa_nil))))), ?_⟩
  have l1 := ok1.2.1
  have l2 := ok1.2.2
  have l3 := ok2.2.1
  have l4 := ok2.2.2
  have p1 := ok1.1
  have p2 := ok2.1
  have a0 : ∀ {a c : V}, atI [a, c] 0 = some a := fun {a c} => atI_nat (j := 0) rfl
  have a1 : ∀ {a c : V}, atI [a, c] 1 = some c := fun {a c} => atI_nat (j := 1) rfl
  have ll1 : (t1.map V.int).length = t1.length := List.length_map ..
  have ll2 : (t2.map V.int).length = t2.length := List.length_map ..
  obtain ⟨p, r, rfl, hp, hrt⟩ := hu
  obtain ⟨p', r', rfl, hp', hrt'⟩ := hv
  refine ⟨_, rfl, .inr (.inl ⟨p, _, 0, _, rfl, rfl, SqT.of hp, a0, ?_⟩)⟩
  refine ⟨_, rfl, .inr (.inl ⟨p', _, 0, _, rfl, rfl, SqT.of hp', a0, _, _, rfl, rfl, mul2 s1 s2, ?_⟩)⟩
  refine ⟨_, rfl, .inr (.inl ⟨p, _, 1, _, rfl, rfl, SqT.of hp, a1, _, rfl, .inr (.inl ⟨p', _, 1, _, rfl, rfl, SqT.of hp', a1, r, r', _, _, rfl, .inr ⟨SqT.of hrt, SqT.of hrt', fun D1 hD1 => ?_⟩⟩)⟩)⟩
  refine lc_it (walk_zipT (xs := t1.map V.int) (ys := t2.map V.int) (n := min t1.length t2.length) (by rw [ll1, ll2])) (fun i H' => Same H H' ∧ H' D1 = some (.lst (((List.range i).map fun n => t1.getD n 0 * b2 + t2.getD n 0 * b1).map V.int))) ⟨Same.upd_new hD1, upd_same⟩ (fun i H' _ ⟨k2, _⟩ => ⟨SqT.of (k2 _ _ hrt), SqT.of (k2 _ _ hrt')⟩) ?_ ?_
  · rintro i x0 H3 H4 hi ⟨k3, h3⟩ ⟨T, x, y, rfl, hT, rfl, hx, hy⟩
    obtain rfl : x = V.int (t1.getD i 0) := Option.some.inj (hx.symm.trans (getD_at (by omega)))
    obtain rfl : y = V.int (t2.getD i 0) := Option.some.inj (hy.symm.trans (getD_at (by omega)))
    have k4 : Same H3 (upd H3 T (.tup [V.int (t1.getD i 0), V.int (t2.getD i 0)])) := Same.upd_new hT
    refine ⟨T, _, rfl, SqT.of upd_same, rfl, ?_⟩
    refine ⟨_, _, rfl, _, _, rfl, rfl, rfl, ?_⟩
    have kp := k4 _ _ (k3 _ _ hp)
    have kp' := k4 _ _ (k3 _ _ hp')
    refine ⟨_, rfl, _, rfl, .inr (.inl ⟨p', _, 0, _, rfl, rfl, SqT.of kp', a0, _, _, rfl, rfl, mul2 (getD_lt s3 i) s2, ?_⟩)⟩
    refine ⟨_, rfl, _, rfl, .inr (.inl ⟨p, _, 0, _, rfl, rfl, SqT.of kp, a0, _, _, rfl, rfl, mul2 (getD_lt s4 i) s1, ?_⟩)⟩
    refine ⟨_, _, rfl, rfl, _, k4 _ _ h3, ?_, fun b o e => ?_, ?_⟩
    · rw [List.length_map, List.length_map, List.length_range]
      exact Nat.lt_of_le_of_lt (by omega : i ≤ 400) (by decide)
    · rw [upd_ne (ne_of_none e hD1)]
      exact k4 _ _ (k3 _ _ e)
    · rw [upd_same, List.range_succ, List.map_append, List.map_append]
      rfl
  · rintro H3 ⟨k3, h3⟩
    refine ⟨b1 * b2, D1, addL b1 t1 b2 t2, rfl, h3, Int.mul_pos (by omega) (by omega), mul_lt2 s1 s2, ?_, fun H4 r4 k4 g4 => q _ _ (k3.trans k4) g4⟩
    unfold addL
    rw [List.length_map, List.length_range]
    omega
theorem ok_lmul (D : Df K mg "_law_multiplied" s__law_multiplied ["_law_one", "_law_other"]) (B : Bi mg) (c__law_reduced : Cal P w K mg base 2 "_law_reduced" sp_lowered) : Cal P w K mg base 3 "_law_multiplied" (sp_bin fun _ t1 _ t2 => mulL t1 t2) := by
  obtain ⟨f, fd, F, m, b⟩ := D.ex
  have sc := sc__law_multiplied
  refine ⟨f, fd, _, F.ok sc (fun _ _ _ _ ⟨_, _, _, _, _, _, e, _⟩ => by rw [e]; rfl) (fun cdv A outer s H vs Q E hr h => ?_), m, F.kp, b⟩
  obtain ⟨u, v, b1, t1, b2, t2, rfl, hu, hv, ok1, ok2, s1, s2, s3, s4, qq⟩ := h
  refine ⟨_, (pss_cons (ps_set (i := 2) sc.nd rfl (Or.inl rfl) (pe_callB (call_min2 rfl) (by rfl) B.min_ (by decide +kernel) (pa_cons (pe_callB call_len_seq (by rfl) B.len_ (by decide +kernel) (pa_cons (pe_ix (show IxR _ (rIx K) from ix_seq) (pv 0) pe_int (fun _ _ => rfl)) pa_nil)) (pa_cons (pe_callB call_len_seq (by rfl) B.len_ (by decide +kernel) (pa_cons (pe_ix (show IxR _ (rIx K) from ix_seq) (pv 1) pe_int (fun _ _ => rfl)) pa_nil)) pa_nil))))
      (pss_cons (ps_setLc (i := 5) (own := [("_law_n", 4)]) (g := gName 4) (tt := tYes) (by rfl) sc.nd rfl rfl (sw_true rfl rfl rfl (by decide +kernel)) (pi_range1 rfl B.range (pa_cons (pv 2) pa_nil)) (blkOk_by (own := [("_law_n", 4)]) (N := N__law_multiplied) (sc := defScope s__law_multiplied) (by decide +kernel)) (fun _ _ _ _ _ => (pg_name (i := 4) sc.nd rfl (Or.inr rfl))) (fun _ _ _ _ _ => pts_nil) (fun _ _ _ _ _ => (pe_callB (id := "sum") (r := rSum K) (cr_sum rfl) (by rfl) B.sum (by decide +kernel) (pa_cons (pe_lc (own := [("_law_i", 3)]) (g := gName 3) (tt := tYes) (by rfl) sc.nd (pi_range1 rfl B.range (pa_cons (pe_op op_add (pv 4) pe_int) pa_nil)) (blkOk_by (own := [("_law_i", 3)]) (N := N__law_multiplied) (sc := { kind := ScopeKind.function, names := [(".0", NameKind.local), ("_law_n", NameKind.cell), ("sum", NameKind.globalImplicit), ("range", NameKind.globalImplicit), ("_law_one", NameKind.cell), ("_law_other", NameKind.cell)], isGenerator := false, isCoroutine := false }) (by decide +kernel)) (fun _ _ _ _ _ => (pg_name (i := 3) sc.nd rfl (Or.inl rfl))) (fun _ _ _ _ _ => pts_nil) (fun _ _ _ _ _ => (pe_op op_mulW (pe_ix (show IxR _ (rIx K) from ix_seq) (pe_ix (show IxR _ (rIx K) from ix_seq) (pv 0) pe_int (fun _ _ => rfl)) (pv 3) (fun _ _ => rfl)) (pe_ix (show IxR _ (rIx K) from ix_seq) (pe_ix (show IxR _ (rIx K) from ix_seq) (pv 1) pe_int (fun _ _ => rfl)) (pe_op op_sub (pv 4) (pv 3)) (fun _ _ => rfl))))) pa_nil))))
      (pss_one (ps_ret (pe_c c__law_reduced hr (by decide) (by rfl) (pa_cons (pe_op op_mulW (pe_ix (show IxR _ (rIx K) from ix_seq) (pv 0) pe_int (fun _ _ => rfl)) (pe_ix (show IxR _ (rIx K) from ix_seq) (pv 1) pe_int (fun _ _ => rfl))) (pa_cons (pv 5) pa_nil))))))), ?_⟩
  have l1 := ok1.2.1
  have l2 := ok1.2.2
  have l3 := ok2.2.1
  have l4 := ok2.2.2
  have p1 := ok1.1
  have p2 := ok2.1
  have a0 : ∀ {a c : V}, atI [a, c] 0 = some a := fun {a c} => atI_nat (j := 0) rfl
  have a1 : ∀ {a c : V}, atI [a, c] 1 = some c := fun {a c} => atI_nat (j := 1) rfl
  have ll1 : (t1.map V.int).length = t1.length := List.length_map ..
  have ll2 : (t2.map V.int).length = t2.length := List.length_map ..
  obtain ⟨p, r, rfl, hp, hrt⟩ := hu
  obtain ⟨p', r', rfl, hp', hrt'⟩ := hv
  refine ⟨_, rfl, .inr (.inl ⟨p, _, 1, _, rfl, rfl, SqT.of hp, a1, r, _, rfl, .inr (SqT.of hrt), ?_⟩)⟩
  refine ⟨_, rfl, .inr (.inl ⟨p', _, 1, _, rfl, rfl, SqT.of hp', a1, r', _, rfl, .inr (SqT.of hrt'), _, _, rfl, ?_⟩)⟩
  rw [ll1, ll2]
  have em : (if (t2.length : Int) < (t1.length : Int) then (t2.length : Int) else (t1.length : Int)) = ((min t1.length t2.length : Nat) : Int) := by split <;> omega
  rw [em]
  dsimp only [gName]
  have hmul : mulL t1 t2 = (List.range (min t1.length t2.length)).map fun n => csum t1 t2 n := rfl
  generalize hm : min t1.length t2.length = many at hmul
  refine ⟨_, rfl, _, rfl, by omega, by omega, fun D1 hD1 => ?_⟩
  refine lc_range (lo := 0) (n := ((many : Int)).toNat) (fun i H' => Same H H' ∧ H' D1 = some (.lst (((List.range i).map fun n => csum t1 t2 n).map V.int))) ⟨Same.upd_new hD1, upd_same⟩ ?_ ?_
  · rintro n H2 hn ⟨s2', h2⟩
    rw [Int.toNat_natCast] at hn
    dsimp only [gName]
    rw [Int.zero_add]
    refine ⟨rfl, ?_⟩
    refine ⟨_, rfl, _, _, rfl, rfl, _, rfl, by omega, by omega, fun D2 hD2 => ?_⟩
    refine lc_range (lo := 0) (n := ((n : Int) + 1).toNat) (fun i H' => Same H2 H' ∧ H' D2 = some (.lst (((List.range i).map fun j => t1.getD j 0 * t2.getD (n - j) 0).map V.int))) ⟨Same.upd_new hD2, upd_same⟩ ?_ ?_
    · rintro j H3 hj ⟨s3', h3⟩
      have hj' : j ≤ n := by omega
      dsimp only [gName]
      rw [Int.zero_add]
      have hp3 := s3' _ _ (s2' _ _ hp)
      have hq3 := s3' _ _ (s2' _ _ hp')
      have hr3 := s3' _ _ (s2' _ _ hrt)
      have hr3' := s3' _ _ (s2' _ _ hrt')
      have esub : (n : Int) - (j : Int) = ((n - j : Nat) : Int) := by omega
      refine ⟨rfl, _, rfl, .inr (.inl ⟨p, _, 1, _, rfl, rfl, SqT.of hp3, a1, ?_⟩)⟩
      refine ⟨_, rfl, .inr (.inl ⟨r, _, _, _, rfl, rfl, SqT.of hr3, atI_nat (getD_at (by omega)), ?_⟩)⟩
      refine ⟨_, rfl, .inr (.inl ⟨p', _, 1, _, rfl, rfl, SqT.of hq3, a1, ?_⟩)⟩
      refine ⟨_, rfl, _, rfl, _, _, rfl, rfl, ?_⟩
      dsimp only
      rw [esub]
      refine .inr (.inl ⟨r', _, _, _, rfl, rfl, SqT.of hr3', atI_nat (getD_at (by omega)), ?_⟩)
      refine ⟨_, _, rfl, rfl, mul2 (getD_lt s3 j) (getD_lt s4 (n - j)), _, h3, ?_, fun b o e => ?_, ?_⟩
      · rw [List.length_map, List.length_map, List.length_range]
        exact Nat.lt_of_le_of_lt (by omega : j ≤ 400) (by decide)
      · rw [upd_ne (ne_of_none e hD2)]
        exact s3' _ _ e
      · rw [upd_same, List.range_succ, List.map_append, List.map_append]
        rfl
    · rintro H3 ⟨s3', h3⟩
      rw [show ((n : Int) + 1).toNat = n + 1 by omega] at h3
      refine ⟨D2, _, rfl, SqL.of h3, ?_⟩
      have h2' := s3' _ _ h2
      refine ⟨_, h2', ?_, fun b o e => ?_, ?_⟩
      · rw [List.length_map, List.length_map, List.length_range]
        exact Nat.lt_of_le_of_lt (by omega : n ≤ 400) (by decide)
      · rw [upd_ne (ne_of_none e hD1)]
        exact s3' _ _ (s2' _ _ e)
      · have ec : (List.range (n + 1)).map (fun n => csum t1 t2 n) = (List.range n).map (fun n => csum t1 t2 n) ++ [csum t1 t2 n] := by rw [List.range_succ, List.map_append]; rfl
        rw [upd_same, ec, List.map_append]
        rfl
  · rintro H2 ⟨s2', h2⟩
    rw [Int.toNat_natCast, ← hmul] at h2
    have hp2 := s2' _ _ hp
    have hp2' := s2' _ _ hp'
    refine ⟨_, rfl, .inr (.inl ⟨p, _, 0, _, rfl, rfl, SqT.of hp2, a0, ?_⟩)⟩
    refine ⟨_, rfl, .inr (.inl ⟨p', _, 0, _, rfl, rfl, SqT.of hp2', a0, _, _, rfl, rfl, mul2 s1 s2, ?_⟩)⟩
    refine ⟨_, rfl, b1 * b2, D1, mulL t1 t2, rfl, h2, Int.mul_pos (by omega) (by omega), mul_lt2 s1 s2, ?_, fun H4 r4 k4 g4 => qq _ _ (s2'.trans k4) g4⟩
    unfold mulL
    rw [List.length_map, List.length_range]
    omega
theorem ok_ltimes (D : Df K mg "_law_times" s__law_times ["_law_one", "_law_number"]) (c__law_reduced : Cal P w K mg base 2 "_law_reduced" sp_lowered) : Cal P w K mg base 3 "_law_times" sp_times := by
  obtain ⟨f, fd, F, m, b⟩ := D.ex
  have sc := sc__law_times
  refine ⟨f, fd, _, F.ok sc (fun _ _ _ _ ⟨_, _, _, _, _, e, _⟩ => by rw [e]; rfl) (fun cdv A outer s H vs Q E hr h => ?_), m, F.kp, b⟩
  obtain ⟨u, v, b, t, x, rfl, hu, hx, ok1, x2, s1, s2, s3, s4, q⟩ := h
  refine ⟨_, (pss_one (ps_ret (pe_c c__law_reduced hr (by decide) (by rfl) (pa_cons (pe_op op_mulW (pe_ix (show IxR _ (rIx K) from ix_seq) (pv 0) pe_int (fun _ _ => rfl)) (pe_ix (show IxR _ (rIx K) from ix_seq) (pv 1) pe_int (fun _ _ => rfl))) (pa_cons (pe_lc (own := [("_law_x", 2)]) (g := gName 2) (tt := tYes) (by rfl) sc.nd (pi_tup (pe_ix (show IxR _ (rIx K) from ix_seq) (pv 0) pe_int (fun _ _ => rfl))) (blkOk_by (own := [("_law_x", 2)]) (N := N__law_times) (sc := defScope s__law_times) (by decide +kernel)) (fun _ _ _ _ _ => (pg_name (i := 2) sc.nd rfl (Or.inl rfl))) (fun _ _ _ _ _ => pts_nil) (fun _ _ _ _ _ => (pe_op op_mulW (pv 2) (pe_ix (show IxR _ (rIx K) from ix_seq) (pv 1) pe_int (fun _ _ => rfl))))) pa_nil))))), ?_⟩
  have l1 := ok1.2.1
  have l2 := ok1.2.2
  have p1 := ok1.1
  have ll : (t.map V.int).length = t.length := List.length_map ..
  have a0 : ∀ {a c : V}, atI [a, c] 0 = some a := fun {a c} => atI_nat (j := 0) rfl
  have a1 : ∀ {a c : V}, atI [a, c] 1 = some c := fun {a c} => atI_nat (j := 1) rfl
  obtain ⟨p, r, rfl, hp, hrt⟩ := hu
  refine ⟨_, rfl, .inr (.inl ⟨p, _, 0, _, rfl, rfl, SqT.of hp, a0, ?_⟩)⟩
  refine ⟨_, rfl, fr1 hx ⟨_, _, rfl, rfl, mul2 s1 s3, ?_⟩⟩
  refine ⟨_, rfl, .inr (.inl ⟨p, _, 1, _, rfl, rfl, SqT.of hp, a1, r, rfl, ⟨_, SqT.of hrt⟩, fun D1 hD1 => ?_⟩)⟩
  refine lc_it (walk_tup (xs := t.map V.int)) (fun i H' => Same H H' ∧ H' D1 = some (.lst ((timL (t.take i) x.1).map V.int))) ⟨Same.upd_new hD1, upd_same⟩ (fun i H' _ ⟨k2, _⟩ => SqT.of (k2 _ _ hrt)) ?_ ?_
  · rintro i y H2 H3 hi ⟨k2, h2⟩ ⟨rfl, hy⟩
    rw [ll] at hi
    obtain rfl : y = V.int (t.getD i 0) := Option.some.inj (hy.symm.trans (getD_at hi))
    have hti : t[i]? = some (t.getD i 0) := by rw [List.getElem?_eq_getElem hi, List.getD_eq_getElem?_getD, List.getElem?_eq_getElem hi]; rfl
    refine ⟨rfl, _, rfl, _, rfl, fr0 (hx.same k2) ⟨_, _, rfl, rfl, mul2 (getD_lt s4 i) s2, _, h2, ?_, fun b o e => ?_, ?_⟩⟩
    · unfold timL
      rw [List.length_map, List.length_map, List.length_take]
      exact Nat.lt_of_le_of_lt (by omega : _ ≤ 400) (by decide)
    · rw [upd_ne (ne_of_none e hD1)]
      exact k2 _ _ e
    · rw [upd_same, take_snoc hti]
      unfold timL
      rw [List.map_append, List.map_append]
      rfl
  · rintro H2 ⟨k2, h2⟩
    rw [ll, List.take_length] at h2
    refine ⟨b * x.2, D1, timL t x.1, rfl, h2, Int.mul_pos (by omega) (by omega), mul_lt2 s1 s3, ?_, fun H4 r4 k4 g4 => q _ _ (k2.trans k4) g4⟩
    unfold timL
    rw [List.length_map]
    omega
end
end Ft

set_option exponentiation.threshold 9000
namespace Ft
open PySem L2
def BgN (N : Int) (b : Int) (ts : List Int) : Prop := b.natAbs < N.toNat ∧ ∀ x ∈ ts, x.natAbs < N.toNat
def rAbs : List V → Hp → VK → Prop := fun xs H Q => ∃ i, xs = [.int i] ∧ Q (.int (if i < 0 then -i else i)) H
def absL (ts : List Int) : List Int := ts.map fun t => (t.natAbs : Int)
theorem abs_if (z : Int) : (if z < 0 then -z else z) = (z.natAbs : Int) := by split <;> omega
theorem max_short {b m N : Int} {ts : List Int} (hb : 1 ≤ b) (h : ∀ y, y ∈ absL ts ++ [b] → y ≤ m) (hm : m < N) : BgN N b ts := by
  have h1 := h b (List.mem_append_right _ List.mem_cons_self)
  refine ⟨by omega, fun x hx => ?_⟩
  have h2 := h (x.natAbs : Int) (List.mem_append_left _ (List.mem_map_of_mem hx))
  omega
theorem max_mem {b m N : Int} {ts : List Int} (h : BgN N b ts) (hm : m ∈ absL ts ++ [b]) : m.natAbs < N.toNat := by
  rcases List.mem_append.mp hm with hm | hm
  · obtain ⟨t, ht, rfl⟩ := List.mem_map.mp hm
    rw [Int.natAbs_natCast]
    exact h.2 t ht
  · rw [List.mem_singleton.mp hm]
    exact h.1
def sp_form : Sp := fun vs H Q _ => ∃ v b ts c, vs = [v, .int ((c : Nat) : Int)] ∧ Bg H v b ts ∧ BgOk b ts ∧ BgN (10 ^ 30) b ts ∧ 1 ≤ c ∧ c ≤ 7 ∧
  ∀ H' u (e : Nat), Same H H' → 1 ≤ e → e ≤ 7 → Bg H' u (b * (e : Int)) (ts.map fun t => t * (e : Int)) → Q u H'
def sp_short : Sp := fun vs H Q _ => ∃ v b ts, vs = [v] ∧ Bg H v b ts ∧ BgOk b ts ∧ ∀ H' c, Same H H' → (c = true → BgN (10 ^ 30) b ts) → Q (.bl c) H'
section
variable {P : Program} {w : World} {K : PySem.W.Frag} {mg : Str → Option Value} {base : Heap}
theorem ok_short (D : Df K mg "_law_is_short" s__law_is_short ["_law_one"]) (B : Bi mg) : Cal P w K mg base 1 "_law_is_short" sp_short := by
  obtain ⟨f, fd, F, m, b⟩ := D.ex
  have sc := sc__law_is_short
  refine ⟨f, fd, _, F.ok sc (fun _ _ _ _ ⟨_, _, _, e, _⟩ => by rw [e]; rfl) (fun cdv A outer s H vs Q E hr h => ?_), m, F.kp, b⟩
  obtain ⟨v, b, ts, rfl, hv, ok, q⟩ := h
  refine ⟨_, (pss_one (ps_ret (pe_cmpR op_lt (pe_callB (cr_max rfl) (by rfl) B.max_ (by decide +kernel) (pa_cons (pe_op op_cat (pe_lc (own := [("_law_top", 1)]) (g := gName 1) (tt := tYes) (by rfl) sc.nd (pi_tup (pe_ix (show IxR _ (rIx K) from ix_seq) (pv 0) pe_int (fun _ _ => rfl))) (blkOk_by (own := [("_law_top", 1)]) (N := N__law_is_short) (sc := defScope s__law_is_short) (by decide +kernel)) (fun _ _ _ _ _ => (pg_name (i := 1) sc.nd rfl (Or.inl rfl))) (fun _ _ _ _ _ => pts_nil) (fun _ _ _ _ _ => (pe_callB (id := "abs") (r := rAbs) call_abs (by rfl) B.abs (by decide +kernel) (pa_cons (pv 1) pa_nil)))) (pe_lst (pa_cons (pe_ix (show IxR _ (rIx K) from ix_seq) (pv 0) pe_int (fun _ _ => rfl)) pa_nil))) pa_nil)) (pe_op op_pow pe_int pe_int) (nomark _)))), ?_⟩
  have a0 : ∀ {a c : V}, atI [a, c] 0 = some a := fun {a c} => atI_nat (j := 0) rfl
  have a1 : ∀ {a c : V}, atI [a, c] 1 = some c := fun {a c} => atI_nat (j := 1) rfl
  obtain ⟨p, r, rfl, hp, hrt⟩ := hv
  have ll : (ts.map V.int).length = ts.length := List.length_map ..
  have l2 := ok.2.2
  refine ⟨_, rfl, .inr (.inl ⟨p, _, 1, _, rfl, rfl, SqT.of hp, a1, r, rfl, ⟨_, SqT.of hrt⟩, fun D1 hD1 => ?_⟩)⟩
  refine lc_it (walk_tup (xs := ts.map V.int)) (fun i H' => Same H H' ∧ H' D1 = some (.lst ((absL (ts.take i)).map V.int))) ⟨Same.upd_new hD1, upd_same⟩ (fun i H' _ ⟨k2, _⟩ => SqT.of (k2 _ _ hrt)) ?_ ?_
  · rintro i y H2 H3 hi ⟨k2, h2⟩ ⟨rfl, hy⟩
    rw [ll] at hi
    obtain ⟨z, rfl, hz⟩ := int_at hy
    refine ⟨rfl, _, rfl, z, rfl, _, h2, ?_, fun b o e => ?_, ?_⟩
    · unfold absL
      rw [List.length_map, List.length_map, List.length_take]
      exact Nat.lt_of_le_of_lt (by omega : _ ≤ 400) (by decide)
    · rw [upd_ne (ne_of_none e hD1)]
      exact k2 _ _ e
    · rw [upd_same, take_snoc hz]
      unfold absL
      rw [List.map_append, List.map_append, abs_if]
      rfl
  · rintro H2 ⟨k2, h2⟩
    rw [ll, List.take_length] at h2
    have hp2 := k2 _ _ hp
    refine ⟨_, rfl, .inr (.inl ⟨p, _, 0, _, rfl, rfl, SqT.of hp2, a0, ?_⟩)⟩
    refine ⟨(by show (1 : Nat) ≤ sizeLine; decide), fun D2 hD2 => ?_⟩
    have s3 : Same H2 (upd H2 D2 (.lst [V.int b])) := Same.upd_new hD2
    refine ⟨D1, D2, _, _, rfl, rfl, s3 _ _ h2, upd_same, ?_, fun D3 hD3 => ?_⟩
    · unfold absL
      rw [List.length_map, List.length_map]
      exact Nat.le_trans (show ts.length + 1 ≤ 401 by omega) (by decide)
    have s4 : Same (upd H2 D2 (.lst [V.int b])) (upd (upd H2 D2 (.lst [V.int b])) D3 (.lst ((absL ts).map V.int ++ [V.int b]))) := Same.upd_new hD3
    refine ⟨D3, absL ts ++ [b], rfl, SqL.of (by rw [upd_same, List.map_append]; rfl), by rw [List.length_append]; exact Nat.succ_pos _, fun m hm hmax => ?_⟩
    refine ⟨_, _, rfl, rfl, ⟨by decide, by decide, by decide⟩, _, _, rfl, rfl, ?_⟩
    refine q _ _ (k2.trans (s3.trans s4)) fun hc => ?_
    exact max_short ok.1 hmax (of_decide_eq_true hc)
theorem ok_form (D : Df K mg "_law_other_form" s__law_other_form ["_law_one", "_law_factor"]) (B : Bi mg) : Cal P w K mg base 1 "_law_other_form" sp_form := by
  obtain ⟨f, fd, F, m, b⟩ := D.ex
  have sc := sc__law_other_form
  refine ⟨f, fd, _, F.ok sc (fun _ _ _ _ ⟨_, _, _, _, e, _⟩ => by rw [e]; rfl) (fun cdv A outer s H vs Q E hr h => ?_), m, F.kp, b⟩
  obtain ⟨v, b, ts, c, rfl, hv, ok, hN, c1, c2, q⟩ := h
  refine ⟨_, (pss_cons (ps_if (pt_cmpR op_ge (pe_op op_mulW (pe_callB (cr_max rfl) (by rfl) B.max_ (by decide +kernel) (pa_cons (pe_op op_cat (pe_lc (own := [("_law_top", 2)]) (g := gName 2) (tt := tYes) (by rfl) sc.nd (pi_tup (pe_ix (show IxR _ (rIx K) from ix_seq) (pv 0) pe_int (fun _ _ => rfl))) (blkOk_by (own := [("_law_top", 2)]) (N := N__law_other_form) (sc := defScope s__law_other_form) (by decide +kernel)) (fun _ _ _ _ _ => (pg_name (i := 2) sc.nd rfl (Or.inl rfl))) (fun _ _ _ _ _ => pts_nil) (fun _ _ _ _ _ => (pe_callB (id := "abs") (r := rAbs) call_abs (by rfl) B.abs (by decide +kernel) (pa_cons (pv 2) pa_nil)))) (pe_lst (pa_cons (pe_ix (show IxR _ (rIx K) from ix_seq) (pv 0) pe_int (fun _ _ => rfl)) pa_nil))) pa_nil)) (pv 1)) (pe_op op_pow pe_int pe_int) (nomark _))
      (pss_one (ps_ret (pv 0)))
      pss_nil)
      (pss_one (ps_ret (pe_tup (pa_cons (pe_op op_mulW (pe_ix (show IxR _ (rIx K) from ix_seq) (pv 0) pe_int (fun _ _ => rfl)) (pv 1)) (pa_cons (pe_callTy call_tuple_of (by rfl) B.tuple (by decide +kernel) (pa_cons (pe_lc (own := [("_law_top", 2)]) (g := gName 2) (tt := tYes) (by rfl) sc.nd (pi_tup (pe_ix (show IxR _ (rIx K) from ix_seq) (pv 0) pe_int (fun _ _ => rfl))) (blkOk_by (own := [("_law_top", 2)]) (N := N__law_other_form) (sc := defScope s__law_other_form) (by decide +kernel)) (fun _ _ _ _ _ => (pg_name (i := 2) sc.nd rfl (Or.inl rfl))) (fun _ _ _ _ _ => pts_nil) (fun _ _ _ _ _ => (pe_op op_mulW (pv 2) (pv 1)))) pa_nil)) pa_nil)))))), ?_⟩
  have a0 : ∀ {a c : V}, atI [a, c] 0 = some a := fun {a c} => atI_nat (j := 0) rfl
  have a1 : ∀ {a c : V}, atI [a, c] 1 = some c := fun {a c} => atI_nat (j := 1) rfl
  obtain ⟨p, r, rfl, hp, hrt⟩ := hv
  have ll : (ts.map V.int).length = ts.length := List.length_map ..
  have l2 := ok.2.2
  refine ⟨_, rfl, .inr (.inl ⟨p, _, 1, _, rfl, rfl, SqT.of hp, a1, r, rfl, ⟨_, SqT.of hrt⟩, fun D1 hD1 => ?_⟩)⟩
  refine lc_it (walk_tup (xs := ts.map V.int)) (fun i H' => Same H H' ∧ H' D1 = some (.lst ((absL (ts.take i)).map V.int))) ⟨Same.upd_new hD1, upd_same⟩ (fun i H' _ ⟨k2, _⟩ => SqT.of (k2 _ _ hrt)) ?_ ?_
  · rintro i y H2 H3 hi ⟨k2, h2⟩ ⟨rfl, hy⟩
    rw [ll] at hi
    obtain ⟨z, rfl, hz⟩ := int_at hy
    refine ⟨rfl, _, rfl, z, rfl, _, h2, ?_, fun b o e => ?_, ?_⟩
    · unfold absL
      rw [List.length_map, List.length_map, List.length_take]
      exact Nat.lt_of_le_of_lt (by omega : _ ≤ 400) (by decide)
    · rw [upd_ne (ne_of_none e hD1)]
      exact k2 _ _ e
    · rw [upd_same, take_snoc hz]
      unfold absL
      rw [List.map_append, List.map_append, abs_if]
      rfl
  · rintro H2 ⟨k2, h2⟩
    rw [ll, List.take_length] at h2
    have hp2 := k2 _ _ hp
    refine ⟨_, rfl, .inr (.inl ⟨p, _, 0, _, rfl, rfl, SqT.of hp2, a0, ?_⟩)⟩
    refine ⟨(by show (1 : Nat) ≤ sizeLine; decide), fun D2 hD2 => ?_⟩
    have s3 : Same H2 (upd H2 D2 (.lst [V.int b])) := Same.upd_new hD2
    refine ⟨D1, D2, _, _, rfl, rfl, s3 _ _ h2, upd_same, ?_, fun D3 hD3 => ?_⟩
    · unfold absL
      rw [List.length_map, List.length_map]
      exact Nat.le_trans (show ts.length + 1 ≤ 401 by omega) (by decide)
    have s4 : Same (upd H2 D2 (.lst [V.int b])) (upd (upd H2 D2 (.lst [V.int b])) D3 (.lst ((absL ts).map V.int ++ [V.int b]))) := Same.upd_new hD3
    refine ⟨D3, absL ts ++ [b], rfl, SqL.of (by rw [upd_same, List.map_append]; rfl), by rw [List.length_append]; exact Nat.succ_pos _, fun m hm hmax => ?_⟩
    have hm2 : m.natAbs < 2 ^ 2000 := Nat.lt_trans (max_mem hN hm) (by decide)
    have c2000 : ((c : Nat) : Int).natAbs < 2 ^ 2000 := Nat.lt_of_le_of_lt (by omega : _ ≤ 7) (by decide)
    have s24 := s3.trans s4
    have k5 := k2.trans s24
    have hp5 := s24 _ _ hp2
    have hrt5 := k5 _ _ hrt
    generalize upd (upd H2 D2 (.lst [V.int b])) D3 (.lst ((absL ts).map V.int ++ [V.int b])) = H5 at k5 hp5 hrt5
    refine ⟨_, rfl, _, _, rfl, rfl, mul2 hm2 c2000, _, _, rfl, rfl, ⟨by decide, by decide, by decide⟩, _, _, rfl, rfl, _, rfl, ifD (fun _ => ?_) fun _ => ?_⟩
    · refine ⟨_, rfl, q H5 _ 1 k5 (Nat.le_refl _) (by decide) ⟨p, r, rfl, ?_, ?_⟩⟩
      · rw [Int.natCast_one, Int.mul_one]; exact hp5
      · rw [hrt5]
        congr 2
        refine congrArg _ ?_
        conv => lhs; rw [← List.map_id ts]
        exact List.map_congr_left fun t _ => (Int.mul_one t).symm
    dsimp only [tNext]
    refine ⟨_, rfl, .inr (.inl ⟨p, _, 0, _, rfl, rfl, SqT.of hp5, a0, ?_⟩)⟩
    refine ⟨_, rfl, _, _, rfl, rfl, mul2 (Nat.lt_trans hN.1 (by decide)) c2000, ?_⟩
    refine ⟨_, rfl, .inr (.inl ⟨p, _, 1, _, rfl, rfl, SqT.of hp5, a1, r, rfl, ⟨_, SqT.of hrt5⟩, fun D6 hD6 => ?_⟩)⟩
    refine lc_it (walk_tup (xs := ts.map V.int)) (fun i H' => Same H5 H' ∧ H' D6 = some (.lst (((ts.take i).map fun t => t * (c : Int)).map V.int))) ⟨Same.upd_new hD6, upd_same⟩ (fun i H' _ ⟨k2, _⟩ => SqT.of (k2 _ _ hrt5)) ?_ ?_
    · rintro i y H2 H3 hi ⟨k2, h2⟩ ⟨rfl, hy⟩
      rw [ll] at hi
      obtain ⟨z, rfl, hz⟩ := int_at hy
      have hzm := hN.2 z (List.mem_of_getElem? hz)
      refine ⟨rfl, _, rfl, _, rfl, _, _, rfl, rfl, mul2 (Nat.lt_trans hzm (by decide)) c2000, _, h2, ?_, fun b o e => ?_, ?_⟩
      · rw [List.length_map, List.length_map, List.length_take]
        exact Nat.lt_of_le_of_lt (by omega : _ ≤ 400) (by decide)
      · rw [upd_ne (ne_of_none e hD6)]
        exact k2 _ _ e
      · rw [upd_same, take_snoc hz, List.map_append, List.map_append]
        rfl
    · rintro H6 ⟨k6, h6⟩
      rw [ll, List.take_length] at h6
      refine ⟨D6, _, rfl, .inl ⟨SqL.of h6, fun T1 hT1 => ?_⟩⟩
      have s7 : Same H6 (upd H6 T1 (.tup ((ts.map fun t => t * (c : Int)).map V.int))) := Same.upd_new hT1
      have h7 : (upd H6 T1 (.tup ((ts.map fun t => t * (c : Int)).map V.int))) T1 = some (.tup ((ts.map fun t => t * (c : Int)).map V.int)) := upd_same
      generalize upd H6 T1 (.tup ((ts.map fun t => t * (c : Int)).map V.int)) = H7 at s7 h7
      refine ⟨(by show (2 : Nat) ≤ sizeLine; decide), fun T2 hT2 => ?_⟩
      have s8 : Same H7 (upd H7 T2 (.tup [V.int (b * (c : Int)), V.ref T1])) := Same.upd_new hT2
      exact q _ _ c (k5.trans (k6.trans (s7.trans s8))) c1 c2 ⟨T2, T1, rfl, upd_same, s8 _ _ h7⟩
end
end Ft

set_option exponentiation.threshold 9000
namespace Ft
open PySem L2
def sp_integer : Sp := fun vs H Q _ => ∃ (d l : Addr) (w : Int), vs = [.ref d, .int w] ∧ DeckAt H d l ∧ ∀ H' z, DeckAt H' d l → But d l H H' → z.natAbs < (10 ^ 30 : Int).toNat → (w < 2 → z.natAbs ≤ 20) → Q (.int z) H'
theorem e30 : (10 ^ 30 : Int).toNat = 1000000000000000000000000000000 := by decide
theorem ppow (i : Nat) (g r : Int) (h0 : 0 ≤ g) (h1 : g < 10 ^ (6 * (i + 1))) (r0 : 0 ≤ r) (r1 : r < 1000000) : 0 ≤ g * 1000000 + r ∧ g * 1000000 + r < 10 ^ (6 * (i + 1 + 1)) := by
  have e : (10 : Int) ^ (6 * (i + 1 + 1)) = 10 ^ (6 * (i + 1)) * 1000000 := by
    rw [show 6 * (i + 1 + 1) = 6 * (i + 1) + 6 by omega, Int.pow_add]
    rfl
  rw [e]
  generalize (10 : Int) ^ (6 * (i + 1)) = X at h1
  omega
/-- a drawn beginning -/
structure DrawnB (b : Int) (ts : List Int) (many : Nat) : Prop where
  b1 : 1 ≤ b
  l1 : 1 ≤ ts.length
  l2 : ts.length ≤ many
  sm : BgN (10 ^ 30) b ts
def sp_beg : Sp := fun vs H Q _ => ∃ (d l : Addr) (many : Nat), vs = [.ref d, .int (many : Int)] ∧ DeckAt H d l ∧ 1 ≤ many ∧ many ≤ 120 ∧ ∀ H' v b ts, DeckAt H' d l → But d l H H' → Bg H' v b ts → DrawnB b ts many → Q v H'
theorem But.updN {d l p : Addr} {H H' : Hp} {o : HO} (b : But d l H H') (hp : H p = none) : But d l H (upd H' p o) := fun c u e h1 h2 => by
  rw [upd_ne (ne_of_none e hp)]
  exact b c u e h1 h2
theorem DeckAt.updN {H : Hp} {d l p : Addr} {o : HO} (D : DeckAt H d l) (h1 : p ≠ d) (h2 : p ≠ l) : DeckAt (upd H p o) d l := by
  obtain ⟨mx, dr, cs, e1, e2, e3⟩ := D
  exact ⟨mx, dr, cs, by rw [upd_ne h1.symm]; exact e1, by rw [upd_ne h2.symm]; exact e2, e3⟩
theorem But.none {d l p : Addr} {H H' : Hp} (b : But d l H H') (hp : H' p = none) (h1 : p ≠ d) (h2 : p ≠ l) : H p = none := by
  cases e : H p with
  | none => rfl
  | some o =>
    have := b _ _ e h1 h2
    rw [hp] at this
    cases this
section
variable {P : Program} {w : World} {K : PySem.W.Frag} {mg : Str → Option Value} {base : Heap}
theorem ok_integer (D : Df K mg "_law_integer" s__law_integer ["_law_deck_here", "_law_way"]) (B : Bi mg) (c__law_draw : Cal P w K mg base 1 "_law_draw" sp_draw) : Cal P w K mg base 2 "_law_integer" sp_integer := by
  obtain ⟨f, fd, F, m, b⟩ := D.ex
  have sc := sc__law_integer
  refine ⟨f, fd, _, F.ok sc (fun _ _ _ _ ⟨_, _, _, e, _⟩ => by rw [e]; rfl) (fun cdv A outer s H vs Q E hr h => ?_), m, F.kp, b⟩
  obtain ⟨d, l, x, rfl, D0, q⟩ := h
  refine ⟨_, (pss_cons (ps_if (pt_cmpR op_lt (pv 1) pe_int (nomark _))
      (pss_one (ps_ret (pe_ifExp (pt_cmpR op_eq (pv 1) pe_int (nomark _)) (pe_op op_sub (pe_c c__law_draw hr (by decide) (by rfl) (pa_cons (pv 0) (pa_cons pe_int pa_nil))) pe_int) (pe_op op_mulW (pe_op op_sub (pe_c c__law_draw hr (by decide) (by rfl) (pa_cons (pv 0) (pa_cons pe_int pa_nil))) pe_int) (pe_op op_fdivW (pe_c c__law_draw hr (by decide) (by rfl) (pa_cons (pv 0) (pa_cons pe_int pa_nil))) pe_int)))))
      pss_nil)
      (pss_cons (ps_set (i := 2) sc.nd rfl (Or.inl rfl) (pe_c c__law_draw hr (by decide) (by rfl) (pa_cons (pv 0) (pa_cons pe_int pa_nil))))
      (pss_cons (ps_for PassesOwn.never rfl (pi_range1 rfl B.range (pa_cons (pe_c c__law_draw hr (by decide) (by rfl) (pa_cons (pv 0) (pa_cons pe_int pa_nil))) pa_nil)) (pg_name (i := 3) sc.nd rfl (Or.inl rfl))
      (pss_one (ps_set (i := 2) sc.nd rfl (Or.inl rfl) (pe_op op_add (pe_op op_mulW (pv 2) pe_int) (pe_c c__law_draw hr (by decide) (by rfl) (pa_cons (pv 0) (pa_cons pe_int pa_nil)))))))
      (pss_one (ps_ret (pe_ifExp (pt_cmpR op_eq (pe_c c__law_draw hr (by decide) (by rfl) (pa_cons (pv 0) (pa_cons pe_int pa_nil))) pe_int (nomark _)) (pv 2) (pe_un un_neg (pv 2)))))))), ?_⟩
  refine ⟨_, rfl, _, _, rfl, rfl, _, rfl, ifD (fun hx => ?_) fun hx => ?_⟩
  · refine ⟨_, rfl, rfl, _, rfl, ifI (fun e => ?_) fun e => ?_⟩
    · refine ⟨_, rfl, d, l, _, rfl, D0, by decide, by decide, fun H1 r D1 b1 r0 r1 => ?_⟩
      refine ⟨_, _, rfl, rfl, q _ _ D1 b1 ?_ fun _ => by omega⟩
      rw [e30]; omega
    · refine ⟨_, rfl, d, l, _, rfl, D0, by decide, by decide, fun H1 r D1 b1 r0 r1 => ?_⟩
      refine ⟨_, _, rfl, rfl, _, rfl, d, l, _, rfl, D1, by decide, by decide, fun H2 t D2 b2 t0 t1 => ?_⟩
      have t2 : t / 2 = 0 ∨ t / 2 = 1 := by omega
      refine ⟨_, _, rfl, rfl, ⟨by decide, by decide⟩, _, _, rfl, rfl, mul2 (Nat.lt_of_le_of_lt (by omega : _ ≤ 20) (by decide)) (Nat.lt_of_le_of_lt (by omega : _ ≤ 20) (by decide)), ?_⟩
      have e20 : ((r - 20) * (t / 2)).natAbs ≤ 20 := by
        rcases t2 with h | h <;> rw [h] <;> omega
      refine q _ _ D2 (b1.trans b2) ?_ fun _ => e20
      rw [e30]; omega
  dsimp only [tNext]
  refine ⟨_, rfl, d, l, _, rfl, D0, by decide, by decide, fun H1 g0 D1 b1 g00 g01 => ?_⟩
  refine ⟨_, rfl, d, l, _, rfl, D1, by decide, by decide, fun H2 n D2 b2 n0 n1 => ?_⟩
  refine ⟨n, rfl, by omega, by omega, for_range (lo := 0) (n := n.toNat) (fun i σ H' => DeckAt H' d l ∧ But d l H H' ∧ i ≤ 4 ∧ ∃ (g : Int) (o : Option V), σ = [some (.ref d), some (.int x), some (.int g), o] ∧ 0 ≤ g ∧ g < 10 ^ (6 * (i + 1))) ⟨D2, b1.trans b2, Nat.zero_le _, g0, none, rfl, g00, g01⟩ ?_ ?_⟩
  · rintro i σ H3 hi ⟨D3, b3, i4, g, o, rfl, g1, g2⟩
    have g3 : g < 10 ^ 30 := Int.lt_of_lt_of_le g2 (by
      have : i = 0 ∨ i = 1 ∨ i = 2 ∨ i = 3 ∨ i = 4 := by omega
      rcases this with h | h | h | h | h <;> subst h <;> decide)
    have g4 : g.natAbs < 2 ^ 2000 := Nat.lt_of_lt_of_le (by omega : g.natAbs < 10 ^ 30) (by decide)
    refine ⟨_, rfl, _, _, rfl, rfl, mul2 g4 (by decide), ?_⟩
    refine ⟨_, rfl, d, l, _, rfl, D3, by decide, by decide, fun H4 r D4 b4 r0 r1 => ?_⟩
    refine ⟨_, _, rfl, rfl, D4, b3.trans b4, by omega, _, _, rfl, ?_⟩
    exact ppow i g r g1 g2 r0 r1
  · rintro σ H3 ⟨D3, b3, i4, g, o, rfl, g1, g2⟩
    have g3 : g < 10 ^ 30 := Int.lt_of_lt_of_le g2 (by
      generalize n.toNat = i at i4
      have : i = 0 ∨ i = 1 ∨ i = 2 ∨ i = 3 ∨ i = 4 := by omega
      rcases this with h | h | h | h | h <;> subst h <;> decide)
    refine ⟨_, rfl, d, l, _, rfl, D3, by decide, by decide, fun H4 r D4 b4 r0 r1 => ?_⟩
    have gN : g.natAbs < (10 ^ 30 : Int).toNat := by omega
    refine ⟨rfl, _, rfl, ifI (fun e => ?_) fun e => ?_⟩
    · exact ⟨_, rfl, q _ _ D4 (b3.trans b4) gN fun z => absurd z hx⟩
    · exact ⟨_, rfl, _, rfl, q _ _ D4 (b3.trans b4) (by rw [Int.natAbs_neg]; exact gN) fun z => absurd z hx⟩
theorem ok_beginning (D : Df K mg "_law_beginning" s__law_beginning ["_law_deck_here", "_law_many"]) (B : Bi mg) (c__law_draw : Cal P w K mg base 1 "_law_draw" sp_draw) (c__law_integer : Cal P w K mg base 2 "_law_integer" sp_integer) : Cal P w K mg base 3 "_law_beginning" sp_beg := by
  obtain ⟨f, fd, F, m, b⟩ := D.ex
  have sc := sc__law_beginning
  refine ⟨f, fd, _, F.ok sc (fun _ _ _ _ ⟨_, _, _, e, _⟩ => by rw [e]; rfl) (fun cdv A outer s H vs Q E hr h => ?_), m, F.kp, b⟩
  obtain ⟨d, l, many, rfl, D0, m1, m2, q⟩ := h
  refine ⟨_, (pss_cons (ps_asg (pe_tup (pa_cons (pe_c c__law_draw hr (by decide) (by rfl) (pa_cons (pv 0) (pa_cons pe_int pa_nil))) (pa_cons (pe_op op_add pe_int (pe_c c__law_draw hr (by decide) (by rfl) (pa_cons (pv 0) (pa_cons pe_int pa_nil)))) pa_nil))) (pg_tup rfl (pgs_cons (pg_name (i := 2) sc.nd rfl (Or.inr rfl)) (pgs_cons (pg_name (i := 3) sc.nd rfl (Or.inr rfl)) pgs_nil))))
      (pss_cons (ps_set (i := 4) sc.nd rfl (Or.inl rfl) (pe_op op_add pe_int (pe_ifExp (pt_cmpR op_lt (pv 2) pe_int (nomark _)) (pe_c c__law_draw hr (by decide) (by rfl) (pa_cons (pv 0) (pa_cons pe_int pa_nil))) (pe_callB call_abs (by rfl) B.abs (by decide +kernel) (pa_cons (pe_c c__law_integer hr (by decide) (by rfl) (pa_cons (pv 0) (pa_cons pe_int pa_nil))) pa_nil)))))
      (pss_cons (ps_setLc (i := 6) (own := [("_law_at", 5)]) (g := gName 5) (tt := tYes) (by rfl) sc.nd rfl rfl (sw_true rfl rfl rfl (by decide +kernel)) (pi_range1 rfl B.range (pa_cons (pe_op op_add pe_int (pe_c c__law_draw hr (by decide) (by rfl) (pa_cons (pv 0) (pa_cons (pv 1) pa_nil)))) pa_nil)) (blkOk_by (own := [("_law_at", 5)]) (N := N__law_beginning) (sc := defScope s__law_beginning) (by decide +kernel)) (fun _ _ _ _ _ => (pg_name (i := 5) sc.nd rfl (Or.inl rfl))) (fun _ _ _ _ _ => pts_nil) (fun _ _ _ _ _ => (pe_c c__law_integer hr (by decide) (by rfl) (pa_cons (pv 0) (pa_cons (pv 2) pa_nil)))))
      (pss_cons (ps_if (pt_cmpR op_lt (pe_callB (cr_max rfl) (by rfl) B.max_ (by decide +kernel) (pa_cons (pe_op op_cat (pe_lc (own := [("_law_top", 7)]) (g := gName 7) (tt := tYes) (by rfl) sc.nd (pi_list (pv 6)) (blkOk_by (own := [("_law_top", 7)]) (N := N__law_beginning) (sc := defScope s__law_beginning) (by decide +kernel)) (fun _ _ _ _ _ => (pg_name (i := 7) sc.nd rfl (Or.inl rfl))) (fun _ _ _ _ _ => pts_nil) (fun _ _ _ _ _ => (pe_callB (id := "abs") (r := rAbs) call_abs (by rfl) B.abs (by decide +kernel) (pa_cons (pv 7) pa_nil)))) (pe_lst (pa_cons (pv 4) pa_nil))) pa_nil)) (pe_op op_pow pe_int pe_int) (nomark _))
      (pss_one (ps_ret (pe_tup (pa_cons (pe_op op_mulW (pv 3) (pv 4)) (pa_cons (pe_callTy call_tuple_of (by rfl) B.tuple (by decide +kernel) (pa_cons (pe_lc (own := [("_law_top", 7)]) (g := gName 7) (tt := tYes) (by rfl) sc.nd (pi_list (pv 6)) (blkOk_by (own := [("_law_top", 7)]) (N := N__law_beginning) (sc := defScope s__law_beginning) (by decide +kernel)) (fun _ _ _ _ _ => (pg_name (i := 7) sc.nd rfl (Or.inl rfl))) (fun _ _ _ _ _ => pts_nil) (fun _ _ _ _ _ => (pe_op op_mulW (pv 3) (pv 7)))) pa_nil)) pa_nil)))))
      pss_nil)
      (pss_one (ps_ret (pe_tup (pa_cons (pe_callB (call_min2 rfl) (by rfl) B.min_ (by decide +kernel) (pa_cons (pv 4) (pa_cons (pe_op op_sub (pe_op op_pow pe_int pe_int) pe_int) pa_nil))) (pa_cons (pe_callTy call_tuple_of (by rfl) B.tuple (by decide +kernel) (pa_cons (pv 6) pa_nil)) pa_nil))))))))), ?_⟩
  refine ⟨_, rfl, d, l, _, rfl, D0, by decide, by decide, fun H1 way D1 b1 w0 w1 => ?_⟩
  refine ⟨_, rfl, d, l, _, rfl, D1, by decide, by decide, fun H2 fc D2 b2 f0 f1 => ?_⟩
  refine ⟨_, _, rfl, rfl, (by show (2 : Nat) ≤ sizeLine; decide), fun p1 hp1 => ?_⟩
  have s3 : Same H2 (upd H2 p1 (.tup [V.int way, V.int (1 + fc)])) := Same.upd_new hp1
  have h3 : (upd H2 p1 (.tup [V.int way, V.int (1 + fc)])) p1 = some (.tup [V.int way, V.int (1 + fc)]) := upd_same
  generalize upd H2 p1 (.tup [V.int way, V.int (1 + fc)]) = H3 at s3 h3
  refine ⟨p1, _, rfl, SqT.of h3, rfl, ?_⟩
  refine ⟨_, _, rfl, _, _, rfl, rfl, ?_⟩
  have D3 := D2.same s3
  have b3 : But d l H H3 := (b1.trans b2).trans (But.of s3)
  dsimp only [gName]
  refine tSeq_join (fun σ H' => DeckAt H' d l ∧ But d l H H' ∧ ∃ bt : Int, σ = [some (.ref d), some (.int (many : Int)), some (.int way), some (.int (1 + fc)), some (.int bt), none, none, none] ∧ 1 ≤ bt ∧ bt ≤ 10 ^ 30) (fun N hN => ?_) ?_
  · refine ⟨_, rfl, _, _, rfl, rfl, _, rfl, ifD (fun hx => ?_) fun hx => ?_⟩
    · refine ⟨_, rfl, d, l, _, rfl, D3, by decide, by decide, fun H4 r D4 b4 r0 r1 => ?_⟩
      refine ⟨_, _, rfl, rfl, hN _ _ ⟨D4, b3.trans b4, _, rfl, by omega, by omega⟩⟩
    · refine ⟨_, rfl, d, l, _, rfl, D3, fun H4 z D4 b4 z0 _ => ?_⟩
      refine ⟨z, rfl, ?_⟩
      rw [e30] at z0
      refine ⟨_, _, rfl, rfl, hN _ _ ⟨D4, b3.trans b4, _, rfl, ?_, ?_⟩⟩
      · split <;> omega
      · split <;> omega
  rintro _ H4 ⟨D4, b4, bt, rfl, t0, t1⟩
  refine ⟨_, rfl, _, rfl, d, l, _, rfl, D4, by omega, by omega, fun H5 n D5 b5 n0 n1 => ?_⟩
  refine ⟨_, _, rfl, rfl, _, rfl, by omega, by omega, fun P hP => ?_⟩
  have nP := D5.new hP
  have hPn := But.none (b4.trans b5) hP nP.1 nP.2
  have s6 : Same H5 (upd H5 P (.lst [])) := Same.upd_new hP
  refine lc_range (lo := 0) (n := (1 + n).toNat) (fun i H' => DeckAt H' d l ∧ But d l H H' ∧ ∃ ts : List Int, H' P = some (.lst (ts.map V.int)) ∧ ts.length = i ∧ ∀ x ∈ ts, x.natAbs < (10 ^ 30 : Int).toNat) ⟨D5.same s6, (b4.trans b5).trans (But.of s6), [], upd_same, rfl, fun x hx => by cases hx⟩ ?_ ?_
  · rintro i H6 hi ⟨D6, b6, ts, h6, lts, sts⟩
    refine ⟨rfl, _, rfl, _, rfl, d, l, _, rfl, D6, fun H7 z D7 b7 z0 _ => ?_⟩
    refine ⟨_, b7 _ _ h6 nP.1 nP.2, ?_, D7.updN nP.1 nP.2, (b6.trans b7).updN hPn, ts ++ [z], ?_, ?_, fun x hx => ?_⟩
    · rw [List.length_map, lts]
      exact Nat.lt_of_le_of_lt (by omega : i ≤ 120) (by decide)
    · rw [upd_same, List.map_append]; rfl
    · rw [List.length_append, lts]; rfl
    · rcases List.mem_append.mp hx with hx | hx
      · exact sts x hx
      · rw [List.mem_singleton.mp hx]; exact z0
  rintro H6 ⟨D6, b6, ts, h6, lts, sts⟩
  have lN : ts.length ≤ many := by omega
  have lN1 : 1 ≤ ts.length := by omega
  have ll : (ts.map V.int).length = ts.length := List.length_map ..
  dsimp only [gName]
  refine ⟨_, rfl, P, rfl, ⟨_, SqL.of h6⟩, fun E1 hE1 => ?_⟩
  refine lc_it (walk_list (xs := ts.map V.int)) (fun i H' => Same H6 H' ∧ H' E1 = some (.lst ((absL (ts.take i)).map V.int))) ⟨Same.upd_new hE1, upd_same⟩ (fun i H' _ ⟨k2, _⟩ => SqL.of (k2 _ _ h6)) ?_ ?_
  · rintro i y H7 H8 hi ⟨k2, h2⟩ ⟨e2, hy⟩
    replace e2 := e2.symm
    subst e2
    rw [ll] at hi
    obtain ⟨z, rfl, hz⟩ := int_at hy
    refine ⟨rfl, _, rfl, z, rfl, _, h2, ?_, fun b o e => ?_, ?_⟩
    · unfold absL
      rw [List.length_map, List.length_map, List.length_take]
      exact Nat.lt_of_le_of_lt (by omega : _ ≤ 400) (by decide)
    · rw [upd_ne (ne_of_none e hE1)]
      exact k2 _ _ e
    · rw [upd_same, take_snoc hz]
      unfold absL
      rw [List.map_append, List.map_append, abs_if]
      rfl
  rintro H7 ⟨k7, h7⟩
  rw [ll, List.take_length] at h7
  refine ⟨_, rfl, (by show (1 : Nat) ≤ sizeLine; decide), fun E2 hE2 => ?_⟩
  have s8 : Same H7 (upd H7 E2 (.lst [V.int bt])) := Same.upd_new hE2
  refine ⟨E1, E2, _, _, rfl, rfl, s8 _ _ h7, upd_same, ?_, fun E3 hE3 => ?_⟩
  · unfold absL
    rw [List.length_map, List.length_map]
    exact Nat.le_trans (show ts.length + 1 ≤ 401 by omega) (by decide)
  have s9 : Same (upd H7 E2 (.lst [V.int bt])) (upd (upd H7 E2 (.lst [V.int bt])) E3 (.lst ((absL ts).map V.int ++ [V.int bt]))) := Same.upd_new hE3
  refine ⟨E3, absL ts ++ [bt], rfl, SqL.of (by rw [upd_same, List.map_append]; rfl), by rw [List.length_append]; exact Nat.succ_pos _, fun m hm hmax => ?_⟩
  have k9 := k7.trans (s8.trans s9)
  have D9 := D6.same k9
  have b9 := b6.trans (But.of k9)
  have h9 := k9 _ _ h6
  generalize upd (upd H7 E2 (.lst [V.int bt])) E3 (.lst ((absL ts).map V.int ++ [V.int bt])) = H9 at D9 b9 h9
  clear k9 s9 s8 k7
  refine ⟨_, _, rfl, rfl, ⟨by decide, by decide, by decide⟩, _, _, rfl, rfl, _, rfl, ifD (fun hx => ?_) fun _ => ?_⟩
  · have sm : BgN (10 ^ 28) bt ts := max_short t0 hmax hx
    have e28 : (10 ^ 28 : Int).toNat = 10000000000000000000000000000 := by decide
    unfold BgN at sm
    rw [e28] at sm
    refine ⟨_, rfl, _, rfl, _, _, rfl, rfl, mul2 (Nat.lt_of_le_of_lt (by omega : _ ≤ 10) (by decide)) (Nat.lt_of_le_of_lt (by omega : _ ≤ 10 ^ 30) (by decide)), ?_⟩
    refine ⟨_, rfl, P, rfl, ⟨_, SqL.of h9⟩, fun E4 hE4 => ?_⟩
    refine lc_it (walk_list (xs := ts.map V.int)) (fun i H' => Same H9 H' ∧ H' E4 = some (.lst (((ts.take i).map fun t => (1 + fc) * t).map V.int))) ⟨Same.upd_new hE4, upd_same⟩ (fun i H' _ ⟨k2, _⟩ => SqL.of (k2 _ _ h9)) ?_ ?_
    · rintro i y H7 H8 hi ⟨k2, h2⟩ ⟨e2, hy⟩
      replace e2 := e2.symm
      subst e2
      rw [ll] at hi
      obtain ⟨z, rfl, hz⟩ := int_at hy
      have zs := sm.2 z (List.mem_of_getElem? hz)
      refine ⟨rfl, _, rfl, _, rfl, _, _, rfl, rfl, mul2 (Nat.lt_of_le_of_lt (by omega : _ ≤ 10) (by decide)) (Nat.lt_of_le_of_lt (by omega : _ ≤ 10 ^ 30) (by decide)), _, h2, ?_, fun b o e => ?_, ?_⟩
      · rw [List.length_map, List.length_map, List.length_take]
        exact Nat.lt_of_le_of_lt (by omega : _ ≤ 400) (by decide)
      · rw [upd_ne (ne_of_none e hE4)]
        exact k2 _ _ e
      · rw [upd_same, take_snoc hz, List.map_append, List.map_append]
        rfl
    rintro H10 ⟨k10, h10⟩
    rw [ll, List.take_length] at h10
    refine ⟨E4, _, rfl, .inl ⟨SqL.of h10, fun T1 hT1 => ?_⟩⟩
    have s11 : Same H10 (upd H10 T1 (.tup ((ts.map fun t => (1 + fc) * t).map V.int))) := Same.upd_new hT1
    have h11 : (upd H10 T1 (.tup ((ts.map fun t => (1 + fc) * t).map V.int))) T1 = some (.tup ((ts.map fun t => (1 + fc) * t).map V.int)) := upd_same
    generalize upd H10 T1 (.tup ((ts.map fun t => (1 + fc) * t).map V.int)) = H11 at s11 h11
    refine ⟨(by show (2 : Nat) ≤ sizeLine; decide), fun T2 hT2 => ?_⟩
    have s12 : Same H11 (upd H11 T2 (.tup [V.int ((1 + fc) * bt), V.ref T1])) := Same.upd_new hT2
    have k12 := k10.trans (s11.trans s12)
    refine q _ _ ((1 + fc) * bt) (ts.map fun t => (1 + fc) * t) (D9.same k12) (b9.trans (But.of k12)) ⟨T2, T1, rfl, upd_same, s12 _ _ h11⟩ ⟨?_, by rw [List.length_map]; exact lN1, by rw [List.length_map]; exact lN, ?_, fun x hx => ?_⟩
    · exact Int.mul_le_mul (a := 1) (b := 1) (by omega) t0 (by decide) (by omega)
    · rw [e30, Int.natAbs_mul]
      exact Nat.lt_of_le_of_lt (Nat.mul_le_mul (by omega : _ ≤ 6) (Nat.le_of_lt sm.1)) (by decide)
    · obtain ⟨t, ht, rfl⟩ := List.mem_map.mp hx
      rw [e30, Int.natAbs_mul]
      exact Nat.lt_of_le_of_lt (Nat.mul_le_mul (by omega : _ ≤ 6) (Nat.le_of_lt (sm.2 t ht))) (by decide)
  · dsimp only [tNext]
    refine ⟨_, rfl, _, _, rfl, rfl, ⟨by decide, by decide, by decide⟩, _, _, rfl, rfl, _, _, rfl, ?_⟩
    refine ⟨_, rfl, P, _, rfl, .inl ⟨SqL.of h9, fun T1 hT1 => ?_⟩⟩
    have s11 : Same H9 (upd H9 T1 (.tup (ts.map V.int))) := Same.upd_new hT1
    have h11 : (upd H9 T1 (.tup (ts.map V.int))) T1 = some (.tup (ts.map V.int)) := upd_same
    generalize upd H9 T1 (.tup (ts.map V.int)) = H11 at s11 h11
    refine ⟨(by show (2 : Nat) ≤ sizeLine; decide), fun T2 hT2 => ?_⟩
    have em : (10 : Int) ^ Int.toNat 30 - 1 = 999999999999999999999999999999 := by decide
    rw [em]
    have s12 : ∀ o, Same H11 (upd H11 T2 o) := fun o => Same.upd_new hT2
    refine q _ _ _ ts (D9.same (s11.trans (s12 _))) (b9.trans (But.of (s11.trans (s12 _)))) ⟨T2, T1, rfl, upd_same, s12 _ _ _ h11⟩ ⟨?_, lN1, lN, ?_, sts⟩
    · split <;> omega
    · rw [e30]; split <;> omega
end
end Ft

set_option exponentiation.threshold 9000
namespace Ft
open PySem L2
/-! rows in lowest terms -/
def L (b : Int) (t : List Int) : Int × List Int := (lowB b t, lowT b t)
def sc (c : Int) (t : List Int) : List Int := t.map fun x => c * x
theorem sc_len (c : Int) (t : List Int) : (sc c t).length = t.length := List.length_map ..
theorem L_mul {c : Int} (hc : 0 < c) {b : Int} (hb : 0 < b) (t : List Int) : L (c * b) (sc c t) = L b t := by
  obtain ⟨n, rfl⟩ : ∃ n : Nat, c = (n : Int) := ⟨c.toNat, by omega⟩
  have h := low_mul (c := n) (by omega) hb t
  exact Prod.ext h.1 h.2
theorem range_ext {f g : Nat → Int} {m n : Nat} (hm : m = n) (h : ∀ i, i < m → f i = g i) : (List.range m).map f = (List.range n).map g := by
  subst hm
  exact List.map_congr_left fun i hi => h i (List.mem_range.mp hi)
theorem sc_range (c : Int) (f : Nat → Int) (m : Nat) : sc c ((List.range m).map f) = (List.range m).map fun i => c * f i := by
  unfold sc
  rw [List.map_map]
  rfl
theorem sc_getD (c : Int) (t : List Int) (i : Nat) : (sc c t).getD i 0 = c * t.getD i 0 := getD_mul c t i
def fn (t : List Int) (i : Nat) : Int := t.getD i 0
theorem csum_conv (t1 t2 : List Int) (n : Nat) : csum t1 t2 n = conv (fn t1) (fn t2) n := sum_Sg _ _
theorem addL_len (b1 : Int) (t1 : List Int) (b2 : Int) (t2 : List Int) : (addL b1 t1 b2 t2).length = min t1.length t2.length := by unfold addL; rw [List.length_map, List.length_range]
theorem mulL_len (t1 t2 : List Int) : (mulL t1 t2).length = min t1.length t2.length := by unfold mulL; rw [List.length_map, List.length_range]
theorem addL_at (b1 : Int) (t1 : List Int) (b2 : Int) (t2 : List Int) {i : Nat} (h : i < min t1.length t2.length) : (addL b1 t1 b2 t2).getD i 0 = t1.getD i 0 * b2 + t2.getD i 0 * b1 := by
  unfold addL; rw [getD_range, if_pos h]
theorem mulL_at (t1 t2 : List Int) {i : Nat} (h : i < min t1.length t2.length) : (mulL t1 t2).getD i 0 = conv (fn t1) (fn t2) i := by
  unfold mulL; rw [getD_range, if_pos h, csum_conv]
theorem addL_sc1 (c b1 : Int) (t1 : List Int) (b2 : Int) (t2 : List Int) : addL (c * b1) (sc c t1) b2 t2 = sc c (addL b1 t1 b2 t2) := by
  unfold addL
  rw [sc_range]
  refine range_ext (by rw [sc_len]) fun i _ => ?_
  rw [sc_getD]
  grind
theorem addL_comm (b1 : Int) (t1 : List Int) (b2 : Int) (t2 : List Int) : addL b1 t1 b2 t2 = addL b2 t2 b1 t1 :=
  range_ext (Nat.min_comm _ _) fun i _ => Int.add_comm _ _
theorem addL_sc2 (c b1 : Int) (t1 : List Int) (b2 : Int) (t2 : List Int) : addL b1 t1 (c * b2) (sc c t2) = sc c (addL b1 t1 b2 t2) := by
  rw [addL_comm, addL_sc1, addL_comm]
theorem mulL_comm (t1 t2 : List Int) : mulL t1 t2 = mulL t2 t1 :=
  range_ext (Nat.min_comm _ _) fun i _ => by rw [csum_conv, csum_conv, conv_comm]
theorem mulL_sc1 (c : Int) (t1 t2 : List Int) : mulL (sc c t1) t2 = sc c (mulL t1 t2) := by
  unfold mulL
  rw [sc_range]
  refine range_ext (by rw [sc_len]) fun i _ => ?_
  rw [csum_conv, csum_conv]
  have h := conv_mul c 1 (fn t1) (fn t2) i
  rw [Int.mul_one] at h
  rw [← h]
  exact conv_congr (fun j _ => sc_getD c t1 j) fun j _ => (Int.one_mul _).symm
theorem mulL_sc2 (c : Int) (t1 t2 : List Int) : mulL t1 (sc c t2) = sc c (mulL t1 t2) := by
  rw [mulL_comm, mulL_sc1, mulL_comm]
theorem low_back {b : Int} (t : List Int) (hb : 0 < b) : ∃ g : Int, 0 < g ∧ b = g * lowB b t ∧ t = sc g (lowT b t) := by
  have := gcdL_pos hb t
  exact ⟨_, by omega, (mul_lowB t).symm, (mul_lowT t).symm⟩
theorem L_add1 {b1 b2 : Int} (h1 : 0 < b1) (h2 : 0 < b2) (t1 t2 : List Int) : L (lowB b1 t1 * b2) (addL (lowB b1 t1) (lowT b1 t1) b2 t2) = L (b1 * b2) (addL b1 t1 b2 t2) := by
  obtain ⟨g, g0, e1, e2⟩ := low_back t1 h1
  have hp := lowB_pos h1 t1
  generalize lowB b1 t1 = c at e1 hp ⊢
  generalize lowT b1 t1 = u at e2 ⊢
  subst e1 e2
  rw [addL_sc1, Int.mul_assoc, L_mul g0 (Int.mul_pos hp h2)]
theorem L_add2 {b1 b2 : Int} (h1 : 0 < b1) (h2 : 0 < b2) (t1 t2 : List Int) : L (b1 * lowB b2 t2) (addL b1 t1 (lowB b2 t2) (lowT b2 t2)) = L (b1 * b2) (addL b1 t1 b2 t2) := by
  rw [Int.mul_comm, addL_comm, L_add1 h2 h1, Int.mul_comm, addL_comm]
theorem L_mul1 {b1 b2 : Int} (h1 : 0 < b1) (h2 : 0 < b2) (t1 t2 : List Int) : L (lowB b1 t1 * b2) (mulL (lowT b1 t1) t2) = L (b1 * b2) (mulL t1 t2) := by
  obtain ⟨g, g0, e1, e2⟩ := low_back t1 h1
  have hp := lowB_pos h1 t1
  generalize lowB b1 t1 = c at e1 hp ⊢
  generalize lowT b1 t1 = u at e2 ⊢
  subst e1 e2
  rw [mulL_sc1, Int.mul_assoc, L_mul g0 (Int.mul_pos hp h2)]
theorem L_mul2 {b1 b2 : Int} (h1 : 0 < b1) (h2 : 0 < b2) (t1 t2 : List Int) : L (b1 * lowB b2 t2) (mulL t1 (lowT b2 t2)) = L (b1 * b2) (mulL t1 t2) := by
  rw [Int.mul_comm, mulL_comm, L_mul1 h2 h1, Int.mul_comm, mulL_comm]
theorem add_assoc' {b1 b2 b3 : Int} (t1 t2 t3 : List Int) : addL (b1 * b2) (addL b1 t1 b2 t2) b3 t3 = addL b1 t1 (b2 * b3) (addL b2 t2 b3 t3) := by
  show (List.range _).map _ = (List.range _).map _
  refine range_ext (by rw [addL_len, addL_len]; omega) fun i hi => ?_
  rw [addL_len] at hi
  rw [addL_at _ _ _ _ (by omega), addL_at _ _ _ _ (by omega)]
  grind
theorem mul_assoc' (t1 t2 t3 : List Int) : mulL (mulL t1 t2) t3 = mulL t1 (mulL t2 t3) := by
  show (List.range _).map _ = (List.range _).map _
  refine range_ext (by rw [mulL_len, mulL_len]; omega) fun i hi => ?_
  rw [mulL_len] at hi
  rw [csum_conv, csum_conv]
  have e1 : conv (fn (mulL t1 t2)) (fn t3) i = conv (conv (fn t1) (fn t2)) (fn t3) i := conv_congr (fun j hj => mulL_at t1 t2 (by omega)) fun j _ => rfl
  have e2 : conv (fn t1) (fn (mulL t2 t3)) i = conv (fn t1) (conv (fn t2) (fn t3)) i := conv_congr (fun j _ => rfl) fun j hj => mulL_at t2 t3 (by omega)
  rw [e1, e2, conv_assoc]
theorem mul_add' {b1 b2 b3 : Int} (t1 t2 t3 : List Int) : addL (b1 * b2) (mulL t1 t2) (b1 * b3) (mulL t1 t3) = sc b1 (mulL t1 (addL b2 t2 b3 t3)) := by
  unfold mulL
  rw [sc_range]
  show (List.range _).map _ = (List.range _).map _
  refine range_ext (by rw [addL_len]; simp only [List.length_map, List.length_range]; omega) fun i hi => ?_
  simp only [List.length_map, List.length_range] at hi
  rw [getD_range, getD_range, if_pos (by omega), if_pos (by omega), csum_conv, csum_conv, csum_conv]
  have e : conv (fn t1) (fn (addL b2 t2 b3 t3)) i = conv (fn t1) (fun j => b3 * fn t2 j + b2 * fn t3 j) i := conv_congr (fun j _ => rfl) fun j hj => by
    show (addL b2 t2 b3 t3).getD j 0 = _
    rw [addL_at _ _ _ _ (by omega), Int.mul_comm b3, Int.mul_comm b2]
    rfl
  have m : ∀ (c : Int) (g : Nat → Int), conv (fn t1) (fun j => c * g j) i = c * conv (fn t1) g i := fun c g => by
    have h := conv_mul 1 c (fn t1) g i
    rw [Int.one_mul] at h
    rw [← h]
    exact conv_congr (fun j _ => (Int.one_mul _).symm) fun j _ => rfl
  rw [e, conv_add (fn t1) (fun j => b3 * fn t2 j) (fun j => b2 * fn t3 j), m, m]
  grind
/-! the three groupings -/
theorem group_add {b1 b2 b3 : Int} (h1 : 0 < b1) (h2 : 0 < b2) (h3 : 0 < b3) (t1 t2 t3 : List Int) :
    L (lowB (b1 * b2) (addL b1 t1 b2 t2) * b3) (addL (lowB (b1 * b2) (addL b1 t1 b2 t2)) (lowT (b1 * b2) (addL b1 t1 b2 t2)) b3 t3) =
      L (b1 * lowB (b2 * b3) (addL b2 t2 b3 t3)) (addL b1 t1 (lowB (b2 * b3) (addL b2 t2 b3 t3)) (lowT (b2 * b3) (addL b2 t2 b3 t3))) := by
  rw [L_add1 (Int.mul_pos h1 h2) h3, L_add2 h1 (Int.mul_pos h2 h3), add_assoc', Int.mul_assoc]
theorem group_mul {b1 b2 b3 : Int} (h1 : 0 < b1) (h2 : 0 < b2) (h3 : 0 < b3) (t1 t2 t3 : List Int) :
    L (lowB (b1 * b2) (mulL t1 t2) * b3) (mulL (lowT (b1 * b2) (mulL t1 t2)) t3) = L (b1 * lowB (b2 * b3) (mulL t2 t3)) (mulL t1 (lowT (b2 * b3) (mulL t2 t3))) := by
  rw [L_mul1 (Int.mul_pos h1 h2) h3, L_mul2 h1 (Int.mul_pos h2 h3), mul_assoc', Int.mul_assoc]
theorem group_both {b1 b2 b3 : Int} (h1 : 0 < b1) (h2 : 0 < b2) (h3 : 0 < b3) (t1 t2 t3 : List Int) :
    L (b1 * lowB (b2 * b3) (addL b2 t2 b3 t3)) (mulL t1 (lowT (b2 * b3) (addL b2 t2 b3 t3))) =
      L (lowB (b1 * b2) (mulL t1 t2) * lowB (b1 * b3) (mulL t1 t3)) (addL (lowB (b1 * b2) (mulL t1 t2)) (lowT (b1 * b2) (mulL t1 t2)) (lowB (b1 * b3) (mulL t1 t3)) (lowT (b1 * b3) (mulL t1 t3))) := by
  have h12 := Int.mul_pos h1 h2
  have h13 := Int.mul_pos h1 h3
  have h23 := Int.mul_pos h2 h3
  rw [L_mul2 h1 h23, L_add1 h12 (lowB_pos h13 _), L_add2 h12 h13, mul_add', show b1 * b2 * (b1 * b3) = b1 * (b1 * (b2 * b3)) by grind, L_mul h1 (Int.mul_pos h1 h23)]
/-! other forms -/
theorem form_add {b1 b2 c e : Int} (h1 : 0 < b1) (h2 : 0 < b2) (hc : 0 < c) (he : 0 < e) (t1 t2 : List Int) : L ((e * b2) * (c * b1)) (addL (e * b2) (sc e t2) (c * b1) (sc c t1)) = L (b1 * b2) (addL b1 t1 b2 t2) := by
  rw [addL_sc1, addL_sc2, Int.mul_assoc, L_mul he (Int.mul_pos h2 (Int.mul_pos hc h1)), show b2 * (c * b1) = c * (b1 * b2) by grind, L_mul hc (Int.mul_pos h1 h2), addL_comm]
theorem form_mul {b1 b2 c e : Int} (h1 : 0 < b1) (h2 : 0 < b2) (hc : 0 < c) (he : 0 < e) (t1 t2 : List Int) : L ((e * b2) * (c * b1)) (mulL (sc e t2) (sc c t1)) = L (b1 * b2) (mulL t1 t2) := by
  rw [mulL_sc1, mulL_sc2, Int.mul_assoc, L_mul he (Int.mul_pos h2 (Int.mul_pos hc h1)), show b2 * (c * b1) = c * (b1 * b2) by grind, L_mul hc (Int.mul_pos h1 h2), mulL_comm]
theorem form_tim {b c e x y : Int} (h1 : 0 < b) (hy : 0 < y) (hc : 0 < c) (he : 0 < e) (t : List Int) : L ((c * b) * (y * e)) (timL (sc c t) (x * e)) = L (b * y) (timL t x) := by
  have : timL (sc c t) (x * e) = sc (c * e) (timL t x) := by
    unfold timL sc
    rw [List.map_map, List.map_map]
    refine List.map_congr_left fun z _ => ?_
    show c * z * (x * e) = c * e * (z * x)
    grind
  rw [this, show c * b * (y * e) = c * e * (b * y) by grind, L_mul (Int.mul_pos hc he) (Int.mul_pos h1 hy)]
end Ft

set_option exponentiation.threshold 9000
namespace Ft
open PySem L2
/-! where rows part -/
theorem apartGo_congr {b1 b2 c1 c2 : Int} {t1 t2 u1 u2 : List Int} : ∀ (f i : Nat), (∀ j, j < i + f → (t1.getD j 0 * b2 = t2.getD j 0 * b1 ↔ u1.getD j 0 * c2 = u2.getD j 0 * c1)) → apartGo b1 b2 t1 t2 f i = apartGo c1 c2 u1 u2 f i
  | 0, _, _ => rfl
  | f + 1, i, h => by
    have h0 := h i (by omega)
    show (if t1.getD i 0 * b2 = t2.getD i 0 * b1 then apartGo b1 b2 t1 t2 f (i + 1) else some i) = if u1.getD i 0 * c2 = u2.getD i 0 * c1 then apartGo c1 c2 u1 u2 f (i + 1) else some i
    rw [apartGo_congr f (i + 1) fun j hj => h j (by omega)]
    by_cases k : t1.getD i 0 * b2 = t2.getD i 0 * b1
    · rw [if_pos k, if_pos (h0.mp k)]
    · rw [if_neg k, if_neg fun z => k (h0.mpr z)]
theorem apart_none {b1 b2 : Int} {t1 t2 : List Int} : ∀ (f i : Nat), (∀ j, i ≤ j → j < i + f → t1.getD j 0 * b2 = t2.getD j 0 * b1) → apartGo b1 b2 t1 t2 f i = none
  | 0, _, _ => rfl
  | f + 1, i, h => by
    show (if t1.getD i 0 * b2 = t2.getD i 0 * b1 then apartGo b1 b2 t1 t2 f (i + 1) else some i) = none
    rw [if_pos (h i (Nat.le_refl _) (by omega))]
    exact apart_none f (i + 1) fun j h1 h2 => h j (by omega) (by omega)
theorem apart_first {b1 b2 : Int} {t1 t2 : List Int} {k : Nat} : ∀ (f i : Nat), i ≤ k → k < i + f → (∀ j, i ≤ j → j < k → t1.getD j 0 * b2 = t2.getD j 0 * b1) → ¬ t1.getD k 0 * b2 = t2.getD k 0 * b1 → apartGo b1 b2 t1 t2 f i = some k
  | 0, i, h1, h2, _, _ => by omega
  | f + 1, i, h1, h2, h, n => by
    show (if t1.getD i 0 * b2 = t2.getD i 0 * b1 then apartGo b1 b2 t1 t2 f (i + 1) else some i) = some k
    rcases Nat.eq_or_lt_of_le h1 with e | lt
    · subst e
      rw [if_neg n]
    · rw [if_pos (h i (Nat.le_refl _) lt)]
      exact apart_first f (i + 1) lt (by omega) (fun j j1 j2 => h j (by omega) j2) n
theorem apart_forms {b1 b2 c e : Int} (hc : 0 < c) (he : 0 < e) (t1 t2 : List Int) : apart (e * b2) (c * b1) (sc e t2) (sc c t1) = apart b1 b2 t1 t2 := by
  unfold apart
  rw [sc_len, sc_len, Nat.min_comm]
  refine apartGo_congr _ _ fun j _ => ?_
  rw [sc_getD, sc_getD]
  have a : e * t2.getD j 0 * (c * b1) = (c * e) * (t2.getD j 0 * b1) := by grind
  have b : c * t1.getD j 0 * (e * b2) = (c * e) * (t1.getD j 0 * b2) := by grind
  rw [a, b]
  have h0 : c * e ≠ 0 := by have := Int.mul_pos hc he; omega
  exact ⟨fun h => (Int.eq_of_mul_eq_mul_left h0 h).symm, fun h => by rw [h]⟩
theorem apart_self {b c : Int} (t u : List Int) : apart b (c * b) t (sc c t ++ u) = none := by
  unfold apart
  refine apart_none _ _ fun j _ hj => ?_
  have hj' : j < t.length := by omega
  have e : (sc c t ++ u).getD j 0 = c * t.getD j 0 := by
    rw [← sc_getD, List.getD_eq_getElem?_getD, List.getD_eq_getElem?_getD, List.getElem?_append_left (by rw [sc_len]; exact hj')]
  rw [e]
  grind
theorem apart_self0 {b c : Int} (t : List Int) : apart b (c * b) t (sc c t) = none := by
  have := apart_self (b := b) (c := c) t []
  rw [List.append_nil] at this
  exact this
def bent (t : List Int) (k : Nat) (z : Int) : List Int := t.take k ++ [z] ++ t.drop (k + 1)
theorem bent_len {t : List Int} {k : Nat} (z : Int) (h : k < t.length) : (bent t k z).length = t.length := by
  unfold bent
  rw [List.length_append, List.length_append, List.length_take, List.length_drop, List.length_singleton]
  omega
theorem apart_bent {b z : Int} {t : List Int} {k : Nat} (hb : 0 < b) (h : k < t.length) (hz : z ≠ t.getD k 0) : apart b b t (bent t k z) = some k := by
  unfold apart
  have hl : (t.take k).length = k := by rw [List.length_take]; omega
  refine apart_first _ _ (Nat.zero_le _) (by rw [bent_len z h]; omega) (fun j _ hj => ?_) ?_
  · congr 1
    unfold bent
    rw [List.append_assoc, List.getD_eq_getElem?_getD, List.getD_eq_getElem?_getD, List.getElem?_append_left (by omega), List.getElem?_take_of_lt hj]
  · have e : (bent t k z).getD k 0 = z := by
      unfold bent
      rw [List.append_assoc, List.getD_eq_getElem?_getD, List.getElem?_append_right (by omega), hl, Nat.sub_self]
      rfl
    rw [e]
    intro q
    have := Int.eq_of_mul_eq_mul_right (by omega : b ≠ 0) q
    exact hz this.symm
/-! sizes -/
theorem sum_le {l : List Int} {M : Nat} (h : ∀ x ∈ l, x.natAbs ≤ M) : l.sum.natAbs ≤ l.length * M := by
  induction l with
  | nil => exact Nat.zero_le _
  | cons a l ih =>
    rw [List.sum_cons, List.length_cons, Nat.add_mul]
    have h1 := h a List.mem_cons_self
    have h2 := ih fun x hx => h x (List.mem_cons_of_mem _ hx)
    generalize l.length * M = W at h2
    omega
theorem getD_le {t : List Int} {N : Nat} (h : ∀ x ∈ t, x.natAbs ≤ N) (i : Nat) : (t.getD i 0).natAbs ≤ N := by
  rcases Nat.lt_or_ge i t.length with hi | hi
  · exact h _ (getD_mem hi)
  · rw [List.getD_eq_getElem?_getD, List.getElem?_eq_none hi]
    exact Nat.zero_le _
/-- at most N -/
structure Le (N : Nat) (b : Int) (t : List Int) : Prop where
  b : b.natAbs ≤ N
  t : ∀ x ∈ t, x.natAbs ≤ N
theorem Le.of {b : Int} {t : List Int} (h : BgN (10 ^ 30) b t) : Le (10 ^ 30) b t :=
  have e : (10 ^ 30 : Int).toNat = 10 ^ 30 := by decide
  ⟨by have := h.1; rw [e] at this; omega, fun x hx => by have := h.2 x hx; rw [e] at this; omega⟩
theorem Le.mono {M N : Nat} {b : Int} {t : List Int} (h : Le M b t) (k : M ≤ N) : Le N b t := ⟨Nat.le_trans h.b k, fun x hx => Nat.le_trans (h.t x hx) k⟩
theorem Le.low {N : Nat} {b : Int} {t : List Int} (h : Le N b t) : Le N (lowB b t) (lowT b t) := by
  refine ⟨Nat.le_trans (Int.natAbs_ediv_le_natAbs _ _) h.b, fun x hx => ?_⟩
  obtain ⟨t, ht, rfl⟩ := List.mem_map.mp hx
  exact Nat.le_trans (Int.natAbs_ediv_le_natAbs _ _) (h.t t ht)
theorem Le.add {M N : Nat} {b1 b2 : Int} {t1 t2 : List Int} (h1 : Le M b1 t1) (h2 : Le N b2 t2) : Le (2 * (M * N)) (b1 * b2) (addL b1 t1 b2 t2) := by
  have mm : ∀ {x y : Int}, x.natAbs ≤ M → y.natAbs ≤ N → (x * y).natAbs ≤ M * N := fun a b => by rw [Int.natAbs_mul]; exact Nat.mul_le_mul a b
  refine ⟨by have := mm h1.b h2.b; omega, fun x hx => ?_⟩
  obtain ⟨i, _, rfl⟩ := List.mem_map.mp hx
  have a := mm (getD_le h1.t i) h2.b
  have c := mm h1.b (getD_le h2.t i)
  rw [Int.mul_comm (t2.getD i 0)]
  omega
theorem Le.mul {M N : Nat} {b1 b2 : Int} {t1 t2 : List Int} (l : t1.length ≤ 400) (h1 : Le M b1 t1) (h2 : Le N b2 t2) : Le (400 * (M * N)) (b1 * b2) (mulL t1 t2) := by
  have mm : ∀ {x y : Int}, x.natAbs ≤ M → y.natAbs ≤ N → (x * y).natAbs ≤ M * N := fun a b => by rw [Int.natAbs_mul]; exact Nat.mul_le_mul a b
  refine ⟨by have := mm h1.b h2.b; omega, fun x hx => ?_⟩
  obtain ⟨n, hn, rfl⟩ := List.mem_map.mp hx
  have hn' := List.mem_range.mp hn
  have s := sum_le (l := (List.range (n + 1)).map fun i => t1.getD i 0 * t2.getD (n - i) 0) (M := M * N) fun x hx => by
    obtain ⟨i, _, rfl⟩ := List.mem_map.mp hx
    exact mm (getD_le h1.t i) (getD_le h2.t _)
  rw [List.length_map, List.length_range] at s
  exact Nat.le_trans s (Nat.mul_le_mul_right _ (by omega))
theorem Le.tim {M N : Nat} {b x y : Int} {t : List Int} (h : Le M b t) (hx : x.natAbs ≤ N) (hy : y.natAbs ≤ N) : Le (M * N) (b * y) (timL t x) := by
  refine ⟨by rw [Int.natAbs_mul]; exact Nat.mul_le_mul h.b hy, fun z hz => ?_⟩
  obtain ⟨u, hu, rfl⟩ := List.mem_map.mp hz
  rw [Int.natAbs_mul]
  exact Nat.mul_le_mul (h.t u hu) hx
theorem Le.sh {N : Nat} {b : Int} {t : List Int} (h : Le N b t) (hN : N < 2 ^ 250) (l : t.length ≤ 400) : BgS b t := ⟨Nat.lt_of_le_of_lt h.b hN, fun x hx => Nat.lt_of_le_of_lt (h.t x hx) hN, by omega⟩
theorem Le.lt {N M : Nat} {b : Int} {t : List Int} (h : Le N b t) (hN : N < 2 ^ M) : b.natAbs < 2 ^ M ∧ ∀ x ∈ t, x.natAbs < 2 ^ M := ⟨Nat.lt_of_le_of_lt h.b hN, fun x hx => Nat.lt_of_le_of_lt (h.t x hx) hN⟩
theorem timL_len (t : List Int) (x : Int) : (timL t x).length = t.length := List.length_map ..
theorem ok_add {b1 b2 : Int} {t1 t2 : List Int} (h1 : BgOk b1 t1) (h2 : BgOk b2 t2) : BgOk (b1 * b2) (addL b1 t1 b2 t2) := by
  have := h1.1; have := h2.1; have := h1.2; have := h2.2
  have p := Int.mul_pos (show 0 < b1 by omega) (show 0 < b2 by omega)
  exact ⟨by omega, by rw [addL_len]; omega, by rw [addL_len]; omega⟩
theorem ok_mul {b1 b2 : Int} {t1 t2 : List Int} (h1 : BgOk b1 t1) (h2 : BgOk b2 t2) : BgOk (b1 * b2) (mulL t1 t2) := by
  have := h1.1; have := h2.1; have := h1.2; have := h2.2
  have p := Int.mul_pos (show 0 < b1 by omega) (show 0 < b2 by omega)
  exact ⟨by omega, by rw [mulL_len]; omega, by rw [mulL_len]; omega⟩
theorem ok_tim {b x y : Int} {t : List Int} (h1 : BgOk b t) (hy : 1 ≤ y) : BgOk (b * y) (timL t x) := by
  have := h1.1; have := h1.2
  have p := Int.mul_pos (show 0 < b by omega) (show 0 < y by omega)
  exact ⟨by omega, by rw [timL_len]; omega, by rw [timL_len]; omega⟩
end Ft

set_option exponentiation.threshold 9000
namespace Ft
open PySem L2
theorem bin_use {f : Int → List Int → Int → List Int → List Int} {H : Hp} {u v : V} {b1 b2 : Int} {t1 t2 : List Int} {Q : VK} {M N : Nat} (hu : Bg H u b1 t1) (hv : Bg H v b2 t2) (o1 : BgOk b1 t1) (o2 : BgOk b2 t2) (l1 : Le M b1 t1) (l2 : Le N b2 t2) (hM : M < 2 ^ 2000) (hN : N < 2 ^ 2000)
    (q : ∀ H' r, Same H H' → Bg H' r (lowB (b1 * b2) (f b1 t1 b2 t2)) (lowT (b1 * b2) (f b1 t1 b2 t2)) → Q r H') : sp_bin f [u, v] H Q E0 :=
  ⟨u, v, b1, t1, b2, t2, rfl, hu, hv, o1, o2, (l1.lt hM).1, (l2.lt hN).1, (l1.lt hM).2, (l2.lt hN).2, q⟩
def sp_grouped : Sp := fun vs H Q _ => ∃ u v x b1 t1 b2 t2 b3 t3, vs = [u, v, x] ∧ Bg H u b1 t1 ∧ Bg H v b2 t2 ∧ Bg H x b3 t3 ∧ BgOk b1 t1 ∧ BgOk b2 t2 ∧ BgOk b3 t3 ∧ Le (10 ^ 30) b1 t1 ∧ Le (10 ^ 30) b2 t2 ∧ Le (10 ^ 30) b3 t3 ∧ ∀ H', Same H H' → Q (.bl true) H'
theorem p1 : (10 : Nat) ^ 30 < 2 ^ 2000 := by decide
theorem p2 : 400 * (10 ^ 30 * 10 ^ 30) < 2 ^ 2000 := by decide
theorem p3 : 400 * (10 ^ 30 * 10 ^ 30) < 2 ^ 250 := by decide
theorem p4 : 2 * (10 ^ 30 * 10 ^ 30) < 2 ^ 250 := by decide
theorem p5 : 2 * (10 ^ 30 * 10 ^ 30) < 2 ^ 2000 := by decide
def bgL (p : Int × List Int) : PyData := bgD p.1 p.2
theorem rep_L {K : PySem.W.Frag} {H : Hp} {u : V} {b : Int} {ts : List Int} {Q : VK} (g : Bg H u (lowB b ts) (lowT b ts)) (S : BgS b ts) (q : ∀ z, z = (bgL (L b ts)).shown → Q (.str z) H) : rRepr K [u] H Q :=
  rep_one g (low_short S) q
section
variable {P : Program} {w : World} {K : PySem.W.Frag} {mg : Str → Option Value} {base : Heap}
theorem fn_grouped {f : Addr} {fd : FuncData} (F : Fun K "_law_is_grouped" "_law_is_grouped" s__law_is_grouped f fd) (B : Bi mg) (c_multiplied : Cal P w K mg base 5 "multiplied" (sp_bin fun _ t1 _ t2 => mulL t1 t2)) (c_added : Cal P w K mg base 5 "added" (sp_bin addL)) (c__law_is_short : Cal P w K mg base 1 "_law_is_short" sp_short) :
    FnG P w K mg base 6 f fd ["_law_one", "_law_other", "_law_third"] sp_grouped := by
  have sc := sc__law_is_grouped
  refine fun_g F sc (fun _ _ _ _ ⟨_, _, _, _, _, _, _, _, _, e, _⟩ => by rw [e]; rfl) (fun cdv A outer s H vs Q E hgd hr h => ?_)
  obtain ⟨u, v, x, b1, t1, b2, t2, b3, t3, rfl, hu, hv, hx, o1, o2, o3, l1, l2, l3, q⟩ := h
  refine ⟨_, (pss_cons (ps_par (i := 3) (j := 4) (by rfl) sc.nd rfl rfl (by decide) rfl rfl (pa_cons (pe_c c_multiplied hr (by decide) (by rfl) (pa_cons (pv 0) (pa_cons (pv 1) pa_nil))) (pa_cons (pe_c c_multiplied hr (by decide) (by rfl) (pa_cons (pv 1) (pa_cons (pv 2) pa_nil))) pa_nil)) (by rfl))
      (pss_cons (ps_par (i := 5) (j := 6) (by rfl) sc.nd rfl rfl (by decide) rfl rfl (pa_cons (pe_c c_added hr (by decide) (by rfl) (pa_cons (pv 0) (pa_cons (pv 1) pa_nil))) (pa_cons (pe_c c_added hr (by decide) (by rfl) (pa_cons (pv 1) (pa_cons (pv 2) pa_nil))) pa_nil)) (by rfl))
      (pss_cons (ps_if (PW.pt (pw_or (pt_not (pt_val (pe_c c__law_is_short hr (by decide) (by rfl) (pa_cons (pv 5) pa_nil)))) (pw_or1 (pt_not (pt_val (pe_c c__law_is_short hr (by decide) (by rfl) (pa_cons (pv 6) pa_nil)))))))
      (pss_one (ps_ret pe_bl))
      pss_nil)
      (pss_cons (ps_if (pt_cmpR op_ne (pe_callB (call_repr hgd hr) (by rfl) B.repr (by decide +kernel) (pa_cons (pe_c c_added hr (by decide) (by rfl) (pa_cons (pv 5) (pa_cons (pv 2) pa_nil))) pa_nil)) (pe_callB (call_repr hgd hr) (by rfl) B.repr (by decide +kernel) (pa_cons (pe_c c_added hr (by decide) (by rfl) (pa_cons (pv 0) (pa_cons (pv 6) pa_nil))) pa_nil)) (nomark _))
      (pss_one (ps_ret pe_bl))
      pss_nil)
      (pss_cons (ps_if (PW.pt (pw_or (pt_not (pt_val (pe_c c__law_is_short hr (by decide) (by rfl) (pa_cons (pv 3) pa_nil)))) (pw_or1 (pt_not (pt_val (pe_c c__law_is_short hr (by decide) (by rfl) (pa_cons (pv 4) pa_nil)))))))
      (pss_one (ps_ret pe_bl))
      pss_nil)
      (pss_cons (ps_if (pt_cmpR op_ne (pe_callB (call_repr hgd hr) (by rfl) B.repr (by decide +kernel) (pa_cons (pe_c c_multiplied hr (by decide) (by rfl) (pa_cons (pv 3) (pa_cons (pv 2) pa_nil))) pa_nil)) (pe_callB (call_repr hgd hr) (by rfl) B.repr (by decide +kernel) (pa_cons (pe_c c_multiplied hr (by decide) (by rfl) (pa_cons (pv 0) (pa_cons (pv 4) pa_nil))) pa_nil)) (nomark _))
      (pss_one (ps_ret pe_bl))
      pss_nil)
      (pss_cons (ps_set (i := 7) sc.nd rfl (Or.inl rfl) (pe_tup (pa_cons (pe_c c_multiplied hr (by decide) (by rfl) (pa_cons (pv 0) (pa_cons (pv 1) pa_nil))) (pa_cons (pe_c c_multiplied hr (by decide) (by rfl) (pa_cons (pv 0) (pa_cons (pv 2) pa_nil))) pa_nil))))
      (pss_cons (ps_if (pt_not (pt_val (pe_c c__law_is_short hr (by decide) (by rfl) (pa_cons (pe_ix (show IxR _ (rIx K) from ix_seq) (pv 7) pe_int (fun _ _ => rfl)) pa_nil))))
      (pss_one (ps_ret pe_bl))
      pss_nil)
      (pss_one (ps_ret (pe_cmpR op_eq (pe_callB (call_repr hgd hr) (by rfl) B.repr (by decide +kernel) (pa_cons (pe_c c_multiplied hr (by decide) (by rfl) (pa_cons (pv 0) (pa_cons (pv 6) pa_nil))) pa_nil)) (pe_callB (call_repr hgd hr) (by rfl) B.repr (by decide +kernel) (pa_cons (pe_c c_added hr (by decide) (by rfl) (pa_cons (pe_ix (show IxR _ (rIx K) from ix_seq) (pv 7) pe_int (fun _ _ => rfl)) (pa_cons (pe_ix (show IxR _ (rIx K) from ix_seq) (pv 7) pe_int (fun _ _ => rfl)) pa_nil))) pa_nil)) (nomark _)))))))))))), ?_⟩
  have z1 : 0 < b1 := by have := o1.1; omega
  have z2 : 0 < b2 := by have := o2.1; omega
  have z3 : 0 < b3 := by have := o3.1; omega
  have n1 := o1.2.2
  have n2 := o2.2.2
  have n3 := o3.2.2
  refine ⟨_, rfl, _, rfl, bin_use hu hv o1 o2 l1 l2 p1 p1 fun H1 r1 s1 g1 => ?_⟩
  refine ⟨_, rfl, _, rfl, bin_use (hv.same s1) (hx.same s1) o2 o3 l2 l3 p1 p1 fun H2 r2 s2 g2 => ?_⟩
  refine ⟨_, _, rfl, ?_⟩
  have e2 := s1.trans s2
  refine ⟨_, rfl, _, rfl, bin_use (hu.same e2) (hv.same e2) o1 o2 l1 l2 p1 p1 fun H3 r3 s3 g3 => ?_⟩
  have e3 := e2.trans s3
  refine ⟨_, rfl, _, rfl, bin_use (hv.same e3) (hx.same e3) o2 o3 l2 l3 p1 p1 fun H4 r4 s4 g4 => ?_⟩
  refine ⟨_, _, rfl, ?_⟩
  have e4 := e3.trans s4
  replace g1 := g1.same (s2.trans (s3.trans s4))
  replace g2 := g2.same (s3.trans s4)
  replace g3 := g3.same s4
  have ln := Le.mul n1 l1 l2
  have lf := Le.mul n2 l2 l3
  have ll := Le.add l1 l2
  have lr := Le.add l2 l3
  have on := ok_mul o1 o2
  have of := ok_mul o2 o3
  have ol := ok_add o1 o2
  have or := ok_add o2 o3
  dsimp only
  refine tSeq_join (fun σ H' => Same H4 H' ∧ σ = [some u, some v, some x, some r1, some r2, some r3, some r4, none] ∧ BgN (10 ^ 30) (lowB (b1 * b2) (addL b1 t1 b2 t2)) (lowT (b1 * b2) (addL b1 t1 b2 t2)) ∧ BgN (10 ^ 30) (lowB (b2 * b3) (addL b2 t2 b3 t3)) (lowT (b2 * b3) (addL b2 t2 b3 t3))) (fun N hN => ?_) ?_
  · refine ⟨_, rfl, r3, _, _, rfl, g3, low_ok ol, fun H5 c s5 hc => ?_⟩
    refine ⟨c, rfl, ?_⟩
    cases c with
    | false => exact iteT (iteT (q _ (e4.trans s5)))
    | true =>
      refine iteF ⟨_, rfl, r4, _, _, rfl, g4.same s5, low_ok or, fun H6 c s6 hc' => ⟨c, rfl, ?_⟩⟩
      cases c with
      | false => exact iteT (q _ (e4.trans (s5.trans s6)))
      | true => exact iteF (hN _ _ ⟨s5.trans s6, rfl, hc rfl, hc' rfl⟩)
  rintro _ H5 ⟨s5, rfl, hll, hlr⟩
  replace hll := Le.of hll
  replace hlr := Le.of hlr
  have e5 := e4.trans s5
  refine tSeq_join (fun σ H' => Same H5 H' ∧ σ = [some u, some v, some x, some r1, some r2, some r3, some r4, none]) (fun N hN => ?_) ?_
  · refine ⟨_, rfl, _, rfl, bin_use (g3.same s5) (hx.same e5) (low_ok ol) o3 hll l3 p1 p1 fun H6 w1 s6 k1 => ?_⟩
    dsimp only [tNil]
    refine rep_L k1 ((Le.add hll l3).sh p4 (ok_add (low_ok ol) o3).2.2) fun a1 ha1 => ?_
    refine ⟨_, rfl, _, rfl, bin_use (hu.same (e5.trans s6)) (g4.same (s5.trans s6)) o1 (low_ok or) l1 hlr p1 p1 fun H7 w2 s7 k2 => ?_⟩
    dsimp only [tNil]
    refine rep_L k2 ((Le.add l1 hlr).sh p4 (ok_add o1 (low_ok or)).2.2) fun a2 ha2 => ?_
    obtain rfl : a1 = a2 := by rw [ha1, ha2, group_add z1 z2 z3]
    refine ⟨rfl, _, rfl, ifN (fun k => absurd rfl k) fun _ => ?_⟩
    exact hN _ _ ⟨s6.trans s7, rfl⟩
  rintro _ H6 ⟨s6, rfl⟩
  have e6 := e5.trans s6
  have s56 := s5.trans s6
  refine tSeq_join (fun σ H' => Same H6 H' ∧ σ = [some u, some v, some x, some r1, some r2, some r3, some r4, none] ∧ BgN (10 ^ 30) (lowB (b1 * b2) (mulL t1 t2)) (lowT (b1 * b2) (mulL t1 t2)) ∧ BgN (10 ^ 30) (lowB (b2 * b3) (mulL t2 t3)) (lowT (b2 * b3) (mulL t2 t3))) (fun N hN => ?_) ?_
  · refine ⟨_, rfl, r1, _, _, rfl, g1.same s56, low_ok on, fun H7 c s7 hc => ⟨c, rfl, ?_⟩⟩
    cases c with
    | false => exact iteT (iteT (q _ (e6.trans s7)))
    | true =>
      refine iteF ⟨_, rfl, r2, _, _, rfl, g2.same (s56.trans s7), low_ok of, fun H8 c s8 hc' => ⟨c, rfl, ?_⟩⟩
      cases c with
      | false => exact iteT (q _ (e6.trans (s7.trans s8)))
      | true => exact iteF (hN _ _ ⟨s7.trans s8, rfl, hc rfl, hc' rfl⟩)
  rintro _ H7 ⟨s7, rfl, hln, hlf⟩
  replace hln := Le.of hln
  replace hlf := Le.of hlf
  have e7 := e6.trans s7
  have s57 := s56.trans s7
  refine tSeq_join (fun σ H' => Same H7 H' ∧ σ = [some u, some v, some x, some r1, some r2, some r3, some r4, none]) (fun N hN => ?_) ?_
  · refine ⟨_, rfl, _, rfl, bin_use (g1.same s57) (hx.same e7) (low_ok on) o3 hln l3 p1 p1 fun H8 w1 s8 k1 => ?_⟩
    dsimp only [tNil]
    refine rep_L k1 ((Le.mul (low_ok on).2.2 hln l3).sh p3 (ok_mul (low_ok on) o3).2.2) fun a1 ha1 => ?_
    refine ⟨_, rfl, _, rfl, bin_use (hu.same (e7.trans s8)) (g2.same (s57.trans s8)) o1 (low_ok of) l1 hlf p1 p1 fun H9 w2 s9 k2 => ?_⟩
    dsimp only [tNil]
    refine rep_L k2 ((Le.mul n1 l1 hlf).sh p3 (ok_mul o1 (low_ok of)).2.2) fun a2 ha2 => ?_
    obtain rfl : a1 = a2 := by rw [ha1, ha2, group_mul z1 z2 z3]
    refine ⟨rfl, _, rfl, ifN (fun k => absurd rfl k) fun _ => ?_⟩
    exact hN _ _ ⟨s8.trans s9, rfl⟩
  rintro _ H8 ⟨s8, rfl⟩
  have e8 := e7.trans s8
  have s58 := s57.trans s8
  refine ⟨_, rfl, _, rfl, bin_use (hu.same e8) (hv.same e8) o1 o2 l1 l2 p1 p1 fun H9 w1 s9 k1 => ?_⟩
  refine ⟨_, rfl, _, rfl, bin_use (hu.same (e8.trans s9)) (hx.same (e8.trans s9)) o1 o3 l1 l3 p1 p1 fun H10 w2 s10 k2 => ?_⟩
  refine ⟨(by show (2 : Nat) ≤ sizeLine; decide), fun pd hpd => ?_⟩
  have s11 : Same H10 (upd H10 pd (.tup [w1, w2])) := Same.upd_new hpd
  have h11 : (upd H10 pd (.tup [w1, w2])) pd = some (.tup [w1, w2]) := upd_same
  generalize upd H10 pd (.tup [w1, w2]) = H11 at s11 h11
  have a0 : ∀ {a c : V}, atI [a, c] 0 = some a := fun {a c} => atI_nat (j := 0) rfl
  have a1 : ∀ {a c : V}, atI [a, c] 1 = some c := fun {a c} => atI_nat (j := 1) rfl
  have o13 := ok_mul o1 o3
  have e11 := e8.trans (s9.trans (s10.trans s11))
  dsimp only [gName]
  refine tSeq_join (fun σ H' => Same H11 H' ∧ σ = [some u, some v, some x, some r1, some r2, some r3, some r4, some (.ref pd)] ∧ BgN (10 ^ 30) (lowB (b1 * b3) (mulL t1 t3)) (lowT (b1 * b3) (mulL t1 t3))) (fun N hN => ?_) ?_
  · refine ⟨_, rfl, .inr (.inl ⟨pd, _, 1, _, rfl, rfl, SqT.of h11, a1, w2, _, _, rfl, k2.same s11, low_ok o13, fun H12 c s12 hc => ⟨c, rfl, ?_⟩⟩)⟩
    cases c with
    | false => exact iteT (q _ (e11.trans s12))
    | true => exact iteF (hN _ _ ⟨s12, rfl, hc rfl⟩)
  rintro _ H12 ⟨s12, rfl, hl13⟩
  replace hl13 := Le.of hl13
  have e12 := e11.trans s12
  refine ⟨_, rfl, _, rfl, bin_use (hu.same e12) (g4.same (s58.trans (s9.trans (s10.trans (s11.trans s12))))) o1 (low_ok or) l1 hlr p1 p1 fun H13 y1 s13 j1 => ?_⟩
  dsimp only [tNil]
  refine rep_L j1 ((Le.mul n1 l1 hlr).sh p3 (ok_mul o1 (low_ok or)).2.2) fun c1 hc1 => ?_
  have h13 := s13 _ _ (s12 _ _ h11)
  refine ⟨_, rfl, .inr (.inl ⟨pd, _, 0, _, rfl, rfl, SqT.of h13, a0, _, rfl, .inr (.inl ⟨pd, _, 1, _, rfl, rfl, SqT.of h13, a1, ?_⟩)⟩)⟩
  refine bin_use (k1.same (s10.trans (s11.trans (s12.trans s13)))) (k2.same (s11.trans (s12.trans s13))) (low_ok on) (low_ok o13) hln hl13 p1 p1 fun H14 y2 s14 j2 => ?_
  dsimp only [tNil]
  refine rep_L j2 ((Le.add hln hl13).sh p4 (ok_add (low_ok on) (low_ok o13)).2.2) fun c2 hc2 => ?_
  obtain rfl : c1 = c2 := by rw [hc1, hc2, group_both z1 z2 z3]
  refine ⟨rfl, ?_⟩
  rw [decide_eq_true rfl]
  exact q _ (e12.trans (s13.trans s14))
end
end Ft

/-! enumerate over a tuple -/
namespace Ft
open PySem PySem.Spec PyProof.Rows L2
/-- the tuple at a, each item in a new pair with its place -/
def IteT (K : PySem.W.Frag) (a : Addr) : It where
  go := fun i H => ∃ ys : List V, SqT K H a ys ∧ i < ys.length
  yld := fun i H v H' => ∃ T y, v = .ref T ∧ H T = none ∧ H' = upd H T (.tup [.int (i : Nat), y]) ∧ ∀ ys, SqT K H a ys → ys[i]? = some y
  stop := fun i H => ∃ ys : List V, SqT K H a ys ∧ ys.length = i
theorem other_cls {h : Heap} {a b : Addr} {o : Obj} {us : Array Value} (t : h.IsTuple a us) (e : h.get? b = some o) (c : o.cls ≠ .type "tuple") : a ≠ b := by
  rintro rfl
  obtain ⟨o', e', c', _⟩ := t
  rw [e] at e'
  cases e'
  exact c c'
theorem turn_enumT {P : Program} {w : World} {K : PySem.W.Frag} {elts : List Expr} {kk : Nat} {tpos : Pos} (a e j : Addr) :
    Turn P w K (.Tuple elts kk tpos) (IteT K a) [e, j] e (fun i h => (∃ old, IsEnum h e j ((i : Nat) : Int) old) ∧ h.IsTupleIter j a i ∧ e ≠ j) where
  mem := List.mem_cons_self
  obj := fun i h z b hb => by
    obtain ⟨⟨old, ee⟩, ⟨o, eo, _, od⟩, _⟩ := z
    rcases List.mem_cons.mp hb with rfl | hb
    · exact ⟨_, ee, fun v y => nomatch y⟩
    · obtain rfl := List.mem_singleton.mp hb
      exact ⟨o, eo, fun v y => by rw [od] at y; cases y⟩
  keep := fun i h h' z k => ⟨z.1.imp fun old y => k e List.mem_cons_self _ y, z.2.1.at fun o y => k j (List.mem_cons_of_mem _ List.mem_cons_self) o y, z.2.2⟩
  item := by
    intro X hP hw hK hc i pins s σ H E I hf z g
    subst hP hw hK
    obtain ⟨⟨old, ee⟩, ej, ne⟩ := z
    obtain ⟨ys, sq, lt⟩ := g
    obtain ⟨us, rv, tp, _⟩ := I.tuple sq
    have tp' : s.heap.IsTuple a us.toArray := tp
    have lu : i < us.toArray.size := by have := rv.length; simp; omega
    have ae : a ≠ e := other_cls tp' ee (show Value.type "enumerate" ≠ Value.type "tuple" by decide +kernel)
    have aj : a ≠ j := by obtain ⟨o, eo, oc, _⟩ := id ej; exact other_cls tp' eo (by rw [oc]; decide +kernel)
    have el := Heap.lt_size ee
    have jl : j < s.heap.objs.size := by obtain ⟨o, eo, _⟩ := id ej; exact Heap.lt_size eo
    have hd : X.A.in1.handled = none := I.ok.hd hc
    refine wpAny_pyNext_enum_itemD (Draws.tuple hd j a aj us.toArray) ee ⟨ej, tp'⟩ lu ne (fun y => by
      rcases List.mem_cons.mp y with y | y
      · exact ne y
      · exact ae (List.mem_singleton.mp y).symm) fun u h' tk hu out z' hT _ kp => ?_
    refine ⟨_, rfl, wpAny_letOwnedTupleGo_enum (s := { s with heap := h', toks := tk + 1 }) out fun h2 e2 sb => ?_⟩
    have tT : h2.get? s.heap.objs.size = some { cls := .type "tuple", data := .seq #[.int i tk, u] } := (sb.2 _ (Nat.ne_of_gt el)).trans hT
    have hy : ys[i]? = some ys[i] := List.getElem?_eq_getElem lt
    obtain ⟨u', hu', ru⟩ := rv.get hy
    have uu : us[i]? = some u := by simpa using hu
    obtain rfl : u' = u := Option.some.inj (hu'.symm.trans uu)
    have nw : ObjOk X.prog X.w (upd H s.heap.objs.size (.tup [.int (i : Nat), ys[i]])) h2 s.heap.objs.size (.tup [.int (i : Nat), ys[i]]) :=
      ⟨(by show (2 : Nat) ≤ sizeLine; decide), [.int i tk, u'], .cons ⟨_, rfl⟩ (.cons ru .nil), ⟨_, tT, rfl, _, rfl⟩⟩
    have I2 : Inv X pins σ (upd H s.heap.objs.size (.tup [.int (i : Nat), ys[i]])) { s with heap := h2, toks := tk + 1 } :=
      I.turnedNew (ch := [e, j]) (fun b o nb y => (sb.2 b fun y' => nb (by rw [y']; exact List.mem_cons_self)).trans (kp b o (fun y' => nb (by rw [y']; exact List.mem_cons_self)) (fun y' => nb (by rw [y']; exact List.mem_cons_of_mem _ List.mem_cons_self)) y)) hf (Nat.le_refl _) nw
    refine ⟨.ref s.heap.objs.size, _, I2, rfl, ⟨_, _, rfl, I.hok.fresh (Nat.le_refl _), rfl, fun zs hz => by rw [I.tuple_inj hz sq]; exact hy⟩, ⟨⟨u', ?_⟩, z'.1.at fun o y => (sb.2 j ne.symm).trans y, ne⟩, fun b hb => ?_⟩
    · rw [show ((i + 1 : Nat) : Int) = (i : Int) + 1 by omega]
      exact e2
    · have bl : b < s.heap.objs.size := by
        rcases List.mem_cons.mp hb with rfl | hb'
        · exact el
        · rw [List.mem_singleton.mp hb']; exact jl
      rw [upd_ne (Nat.ne_of_lt bl)]
      exact (hf b hb).1
  done := by
    intro X hP hw hK hc i pins s σ H E I hf z g
    subst hP hw hK
    obtain ⟨⟨old, ee⟩, ej, ne⟩ := z
    obtain ⟨ys, sq, ge⟩ := g
    obtain ⟨us, rv, tp, _⟩ := I.tuple sq
    have lu : us.toArray.size = i := by have := rv.length; simp; omega
    subst lu
    have tp' : s.heap.IsTuple a us.toArray := tp
    have aj : a ≠ j := by obtain ⟨o, eo, oc, _⟩ := id ej; exact other_cls tp' eo (by rw [oc]; decide +kernel)
    have hd : X.A.in1.handled = none := I.ok.hd hc
    obtain ⟨f0, f1, f2, f3, f4, f5⟩ := hf j (List.mem_cons_of_mem _ List.mem_cons_self)
    exact wpAny_pyNext_enum_endD (Draws.tuple hd j a aj us.toArray) ee ⟨ej, tp'⟩ fun h' eb => ⟨rfl, I.turned (t' := s.toks) (fun b o nb y => eb b o nb y) f0 f1 f3 f4 f5⟩
  self := fun A i s Q E z h => wpAny_pyIter_enum z.1.choose_spec h
theorem meets_enum1 {v : Value} {o : Obj} {P1 : Heap → Prop} (B : Begins v o P1) :
    Meets (Builtin.«enumerate.__new__» ⟨[.type "enumerate", v], []⟩) (fun _ R s => P1 s.heap ∧
      R (.ok (.ret (.ref (s.heap.push o).objs.size))) { s with heap := (s.heap.push o).push { cls := .type "enumerate", data := .fields #[.none, .bool false, .ref s.heap.objs.size, rawInt 0, .none, .none] } }) :=
  .of_wp fun pr w A R s z => by
    obtain ⟨hp, g, d, tk, os⟩ := s
    obtain ⟨z1, z2⟩ := z
    have sube := sub_enumerate
    have begin_ : ∀ {A' : Around} {E : Value → Shared → Prop} {Q : Value → Shared → Prop}, Q (.ref hp.objs.size) ⟨hp.push o, g, d, tk, os⟩ → wpAny (model pr w) A' (pyIter v) Q E ⟨hp, g, d, tk, os⟩ :=
      fun y => B.iter pr w _ _ ⟨hp, g, d, tk, os⟩ _ z1 y
    wp_walk using begin_
    refine wpAny_stack_any fun st => wpAny_pure ?_
    split
    · rename_i c _ _ _ _ _
      cases (c == Value.type "enumerate") <;> (wp_walk using begin_; exact ⟨_, rfl, z2⟩)
    · wp_walk using begin_; exact ⟨_, rfl, z2⟩
section
variable {pr : Program} {w : World} {A : Around} {E : Value → Shared → Prop} {s : Shared}
theorem enum1_begins {v : Value} {o : Obj} {P1 : Heap → Prop} {Q : Value → Shared → Prop} (B : Begins v o P1) (z : P1 s.heap)
    (q : ∀ h', IsEnum h' (s.heap.objs.size + 1) s.heap.objs.size 0 .none → h'.get? s.heap.objs.size = some o → (∀ b o', s.heap.get? b = some o' → h'.get? b = some o') → Q (.ref (s.heap.objs.size + 1)) { s with heap := h' }) :
    wpAny (model pr w) A (call (.type "enumerate") [v]) Q E s := by
  have sz : (s.heap.push o).objs.size = s.heap.objs.size + 1 := Heap.size_push ..
  have ie := Heap.get?_push_size (s.heap.push o) (o := { cls := .type "enumerate", data := .fields #[.none, .bool false, .ref s.heap.objs.size, rawInt 0, .none, .none] }) rfl
  rw [sz] at ie
  refine callType_new F.called_enumerate (by decide) (F.typeCall_enumerate_1 _) (F.newCall_enumerate_1 _) (fun ob => F.args_object_init_2 ob _) F.entry_enumerate_new (meets_enum1 B) ⟨z, ?_⟩
  rw [sz]
  exact ⟨⟨_, ie, rfl⟩, q _ ie (Heap.get?_push_of_some _ (Heap.get?_push_size _ B.free)) fun b o' y => Heap.get?_push_of_some _ (Heap.get?_push_of_some _ y)⟩
end
def iEnumT (K : PySem.W.Frag) (ta : TA) : TI := fun σ H R => ta σ H fun vs H1 => ∃ a ys, vs = [.ref a] ∧ SqT K H1 a ys ∧ R (IteT K a) H1
/-- enumerate(t), t a tuple -/
theorem pi_enumT {X : Cx} {e : Expr} {ta : TA} {p pos tpos : Pos} {elts : List Expr} {kk : Nat} (hg : Gl X "enumerate") (hm : X.mg "enumerate" = none) (ha : PA X [e] ta) (hs : starEach [e] X.env = [(false, eval e X.env)] := by rfl) :
    PI X (.Tuple elts kk tpos) (.Call (.Name "enumerate" p) [e] [] pos) (iEnumT X.K ta) := by
  refine ⟨fun pins s σ H R I z => Call_ (ld_blt I hg hm PyProof.Rows.boot_enumerate (PyProof.Rows.callWith_type1 (thn (ha.run pos pins s σ H _ I z) fun us s1 ⟨vs, H1, I1, r1, q1⟩ => ?_) hs rfl))⟩
  obtain ⟨a, ys, rfl, sq, q⟩ := q1
  obtain ⟨u, rfl, ru⟩ := vals1 r1
  obtain rfl : u = Value.ref a := ru
  obtain ⟨its, rv, tp, _⟩ := I1.tuple sq
  refine enum1_begins (begins_tuple a its.toArray) (show s1.heap.IsTuple a its.toArray from tp) fun h' ie ij kp => wpAny_pyIter_enum ie ?_
  have I2 : Inv X pins σ H1 { s1 with heap := h' } := I1.kept (t' := s1.toks) kp
  refine ⟨s1.heap.objs.size + 1, [s1.heap.objs.size + 1, s1.heap.objs.size], _, _, H1, rfl, I2, turn_enumT a (s1.heap.objs.size + 1) s1.heap.objs.size, ⟨⟨.none, ie⟩, ⟨_, ij, rfl, rfl⟩, Nat.succ_ne_self _⟩, fun b hb => ?_, q⟩
  have le : s1.heap.objs.size ≤ b := by
    rcases List.mem_cons.mp hb with rfl | hb'
    · exact Nat.le_succ _
    · rw [List.mem_singleton.mp hb']; exact Nat.le_refl _
  exact I1.fpOk le (I1.hok.fresh le)
theorem walk_enumT {K : PySem.W.Frag} {a : Addr} {xs : List V} : Walk (IteT K a) xs.length (fun H => SqT K H a xs) (YPair (fun i => some (.int (i : Nat))) (fun i => xs[i]?)) :=
  ⟨fun _ _ lt q => ⟨xs, q, lt⟩, fun _ q => ⟨xs, q, rfl⟩, fun i _ _ _ _ q y => by
    obtain ⟨T, x, e1, e2, e3, e4⟩ := y
    exact ⟨T, .int (i : Nat), x, e1, e2, e3, rfl, e4 xs q⟩⟩
end Ft

/-! zip of a tuple and a list -/
namespace Ft
open PySem PySem.Spec PyProof.Rows L2
def ItzM (K : PySem.W.Frag) (a b : Addr) : It where
  go := fun i H => ∃ xs ys : List V, SqT K H a xs ∧ SqL K H b ys ∧ i < xs.length ∧ i < ys.length
  yld := fun i H v H' => ∃ T x y, v = .ref T ∧ H T = none ∧ H' = upd H T (.tup [x, y]) ∧ (∀ xs, SqT K H a xs → xs[i]? = some x) ∧ ∀ ys, SqL K H b ys → ys[i]? = some y
  stop := fun i H => ∃ xs ys : List V, SqT K H a xs ∧ SqL K H b ys ∧ i = min xs.length ys.length
theorem other_clsL {h : Heap} {a b : Addr} {o : Obj} {us : Array Value} (t : h.IsList a us) (e : h.get? b = some o) (c : o.cls ≠ .type "list") : a ≠ b := by
  rintro rfl
  obtain ⟨o', e', c', _⟩ := t
  rw [e] at e'
  cases e'
  exact c c'
theorem in5 {z TI TO i1 i2 c : Addr} (h : c ∈ [z, TI, TO, i1, i2]) : c = z ∨ c = TI ∨ c = TO ∨ c = i1 ∨ c = i2 := by simpa using h
theorem turn_zipM {P : Program} {w : World} {K : PySem.W.Frag} {elts : List Expr} {kk : Nat} {tpos : Pos} {a b z TI TO i1 i2 : Addr} (S : ZipSep2 z TI TO i1 i2 [i1, a] [i2, b]) (n12 : i1 ≠ i2) :
    Turn P w K (.Tuple elts kk tpos) (ItzM K a b) [z, TI, TO, i1, i2] z (fun i h => IsZip h z TI TO .none ∧ IsTupOf2 h TI (.ref i1) (.ref i2) ∧ (∃ x y, IsTupOf2 h TO x y) ∧ h.IsTupleIter i1 a i ∧ h.IsListIter i2 b i) where
  mem := List.mem_cons_self
  obj := fun i h st c hc => by
    obtain ⟨ez, eI, ⟨x, y, eO⟩, ⟨o1, e1, _, d1⟩, ⟨o2, e2, _, d2⟩⟩ := st
    rcases in5 hc with rfl | rfl | rfl | rfl | rfl
    · exact ⟨_, ez, fun v q => nomatch q⟩
    · exact ⟨_, eI, fun v q => nomatch q⟩
    · exact ⟨_, eO, fun v q => nomatch q⟩
    · exact ⟨o1, e1, fun v q => by rw [d1] at q; cases q⟩
    · exact ⟨o2, e2, fun v q => by rw [d2] at q; cases q⟩
  keep := fun i h h' st k => by
    obtain ⟨ez, eI, ⟨x, y, eO⟩, j1, j2⟩ := st
    exact ⟨k z (by simp) _ ez, k TI (by simp) _ eI, ⟨x, y, k TO (by simp) _ eO⟩, j1.at fun o q => k i1 (by simp) o q, j2.at fun o q => k i2 (by simp) o q⟩
  item := by
    intro X hP hw hK hc i pins s σ H E I hf st g
    subst hP hw hK
    obtain ⟨ez, eI, ⟨x0, y0, eO⟩, j1, j2⟩ := st
    obtain ⟨xs, ys, qx, qy, l1, l2⟩ := g
    obtain ⟨us, rv, tp, _⟩ := I.tuple qx
    obtain ⟨us2, rv2, tp2, _⟩ := I.list qy
    have tp' : s.heap.IsTuple a us.toArray := tp
    have tl' : s.heap.IsList b us2.toArray := tp2.isList
    have n1 : a ≠ i1 := by obtain ⟨o, eo, oc, _⟩ := id j1; exact other_cls tp' eo (by rw [oc]; decide +kernel)
    have n2 : b ≠ i2 := by obtain ⟨o, eo, oc, _⟩ := id j2; exact other_clsL tl' eo (by rw [oc]; decide +kernel)
    have hd : X.A.in1.handled = none := I.ok.hd hc
    have zl := Heap.lt_size ez
    refine wpAny_pyNext_zipD2_item S (Draws.tuple hd i1 a n1 us.toArray) (Draws.list hd i2 b n2 us2.toArray) ez eI eO ⟨j1, tp'⟩ ⟨j2, tl'⟩ (by have := rv.length; simp; omega) (by have := rv2.length; simp; omega) fun u1 u2 h' tk hu1 hu2 ez' eO' z1 z2 hT _ kp => ?_
    refine ⟨_, rfl, wpAny_letOwnedTupleGo_zip (s := { s with heap := h', toks := tk }) ez' fun h2 ez2 sb => ?_⟩
    have tT : h2.get? s.heap.objs.size = some { cls := .type "tuple", data := .seq #[u1, u2] } := (sb.2 _ (Nat.ne_of_gt zl)).trans hT
    have hx : xs[i]? = some xs[i] := List.getElem?_eq_getElem l1
    have hy : ys[i]? = some ys[i] := List.getElem?_eq_getElem l2
    obtain ⟨w1, hw1, r1⟩ := rv.get hx
    obtain ⟨w2, hw2, r2⟩ := rv2.get hy
    obtain rfl : w1 = u1 := Option.some.inj (hw1.symm.trans (by simpa using hu1))
    obtain rfl : w2 = u2 := Option.some.inj (hw2.symm.trans (by simpa using hu2))
    have nw : ObjOk X.prog X.w (upd H s.heap.objs.size (.tup [xs[i], ys[i]])) h2 s.heap.objs.size (.tup [xs[i], ys[i]]) :=
      ⟨(by show (2 : Nat) ≤ sizeLine; decide), [w1, w2], .cons r1 (.cons r2 .nil), ⟨_, tT, rfl, _, rfl⟩⟩
    have I2 : Inv X pins σ (upd H s.heap.objs.size (.tup [xs[i], ys[i]])) { s with heap := h2, toks := tk } :=
      I.turnedNew (ch := [z, TI, TO, i1, i2]) (fun c o nc y => (sb.2 c fun e => nc (by simp [e])).trans (kp c o (fun e => nc (by simp [e])) (fun e => nc (by simp [e])) (fun e => nc (by simp [e])) (fun e => nc (by simp [e])) y)) hf (Nat.le_refl _) nw
    have eI2 : IsTupOf2 h2 TI (.ref i1) (.ref i2) := (sb.2 _ S.TIz).trans (kp _ _ S.TIz S.TITO S.TIi1 S.TIi2 eI)
    refine ⟨.ref s.heap.objs.size, _, I2, rfl, ⟨_, _, _, rfl, I.hok.fresh (Nat.le_refl _), rfl, fun zs hz => by rw [I.tuple_inj hz qx]; exact hx, fun zs hz => by rw [I.list_inj hz qy]; exact hy⟩,
      ⟨ez2, eI2, ⟨_, _, (sb.2 _ S.TOz).trans eO'⟩, z1.1.at fun o y => (sb.2 _ S.zi1.symm).trans y, z2.1.at fun o y => (sb.2 _ S.zi2.symm).trans y⟩, fun c hcm => ?_⟩
    have lt : c < s.heap.objs.size := by
      rcases in5 hcm with rfl | rfl | rfl | rfl | rfl
      · exact zl
      · exact Heap.lt_size eI
      · exact Heap.lt_size eO
      · obtain ⟨_, e1, _⟩ := j1; exact Heap.lt_size e1
      · obtain ⟨_, e2, _⟩ := j2; exact Heap.lt_size e2
    rw [upd_ne (Nat.ne_of_lt lt)]
    exact (hf c hcm).1
  done := by
    intro X hP hw hK hc i pins s σ H E I hf st g
    subst hP hw hK
    obtain ⟨ez, eI, ⟨x0, y0, eO⟩, j1, j2⟩ := st
    obtain ⟨xs, ys, qx, qy, l⟩ := g
    obtain ⟨us, rv, tp, _⟩ := I.tuple qx
    obtain ⟨us2, rv2, tp2, _⟩ := I.list qy
    have tp' : s.heap.IsTuple a us.toArray := tp
    have tl' : s.heap.IsList b us2.toArray := tp2.isList
    have n1 : a ≠ i1 := by obtain ⟨o, eo, oc, _⟩ := id j1; exact other_cls tp' eo (by rw [oc]; decide +kernel)
    have n2 : b ≠ i2 := by obtain ⟨o, eo, oc, _⟩ := id j2; exact other_clsL tl' eo (by rw [oc]; decide +kernel)
    have hd : X.A.in1.handled = none := I.ok.hd hc
    have r1 := rv.length
    have r2 := rv2.length
    exact wpAny_pyNext_zipD2_end S (Draws.tuple hd i1 a n1 us.toArray) (Draws.list hd i2 b n2 us2.toArray) ez eI eO ⟨j1, tp'⟩ ⟨j2, tl'⟩ (by simp; omega) (by simp; omega) (by simp; omega) fun h' tk kp => ⟨rfl,
      I.turnedL (t' := tk) (ch := [z, TI, TO, i1, i2]) (fun c o nc y => kp c o (fun e => nc (by simp [e])) (fun e => nc (by simp [e])) (fun e => nc (by simp [e])) (fun e => nc (by simp [e])) y) hf⟩
  self := fun A i s Q E st h => wpAny_pyIter_zip st.1 h
def iZipM (K : PySem.W.Frag) (ta : TA) : TI := fun σ H R => ta σ H fun vs H1 => ∃ a b xs ys, vs = [.ref a, .ref b] ∧ SqT K H1 a xs ∧ SqL K H1 b ys ∧ R (ItzM K a b) H1
/-- zip(t, l), t a tuple, l a list -/
theorem pi_zipM {X : Cx} {e e2 : Expr} {ta : TA} {p pos tpos : Pos} {elts : List Expr} {kk : Nat} (hg : Gl X "zip") (hm : X.mg "zip" = none) (ha : PA X [e, e2] ta)
    (hs : starEach [e, e2] X.env = (false, eval e X.env) :: starEach [e2] X.env := by rfl) (hpl : (backTo pos (starEach [e2] X.env)).any (·.1) = false := by rfl) :
    PI X (.Tuple elts kk tpos) (.Call (.Name "zip" p) [e, e2] [] pos) (iZipM X.K ta) := by
  refine ⟨fun pins s σ H R I z => Call_ (ld_blt I hg hm PyProof.Rows.boot_zip (PyProof.Rows.callWith_type1 (thn (ha.run pos pins s σ H _ I z) fun us s1 ⟨vs, H1, I1, r1, q1⟩ => ?_) hs hpl))⟩
  obtain ⟨a, b, xs, ys, rfl, qx, qy, q⟩ := q1
  obtain ⟨u, u', rfl, ru, ru'⟩ := vals2 r1
  obtain rfl : u = Value.ref a := ru
  obtain rfl : u' = Value.ref b := ru'
  obtain ⟨its, rv, tp, _⟩ := I1.tuple qx
  obtain ⟨its2, rv2, tp2, _⟩ := I1.list qy
  have al : a < s1.heap.objs.size := by obtain ⟨o, eo, _⟩ := id tp; exact Heap.lt_size eo
  refine zip_begins2 (begins_tuple a its.toArray) (begins_list b its2.toArray) (show s1.heap.IsTuple a its.toArray from tp) tp2.isList fun h' ez eI eO j1 j2 _ kp => wpAny_pyIter_zip ez ?_
  have I2 : Inv X pins σ H1 { s1 with heap := h' } := I1.kept (t' := s1.toks) kp
  refine ⟨s1.heap.objs.size + 4, [s1.heap.objs.size + 4, s1.heap.objs.size + 2, s1.heap.objs.size + 3, s1.heap.objs.size, s1.heap.objs.size + 1], _, _, H1, rfl, I2,
    turn_zipM (zip_sep2 (N := s1.heap.objs.size) (fp1 := [a]) (fp2 := [b]) (fun c y => by rw [List.mem_singleton.mp y]; exact al) (fun c y => by rw [List.mem_singleton.mp y]; exact tp2.lt)) (Nat.ne_of_lt (Nat.lt_succ_self _)), ⟨ez, eI, ⟨_, _, eO⟩, ⟨_, j1, rfl, rfl⟩, ⟨_, j2, rfl, rfl⟩⟩, fun c hcm => ?_, q⟩
  have le : s1.heap.objs.size ≤ c := by
    rcases in5 hcm with rfl | rfl | rfl | rfl | rfl
    · exact Nat.le_add_right _ _
    · exact Nat.le_add_right _ _
    · exact Nat.le_add_right _ _
    · exact Nat.le_refl _
    · exact Nat.le_add_right _ _
  exact I1.fpOk le (I1.hok.fresh le)
theorem walk_zipM {K : PySem.W.Frag} {a b : Addr} {xs ys : List V} {n : Nat} (hn : n = min xs.length ys.length) : Walk (ItzM K a b) n (fun H => SqT K H a xs ∧ SqL K H b ys) (YPair (fun i => xs[i]?) (fun i => ys[i]?)) :=
  ⟨fun _ _ lt q => ⟨xs, ys, q.1, q.2, by omega, by omega⟩, fun _ q => ⟨xs, ys, q.1, q.2, hn⟩, fun i _ _ _ _ q y => by
    obtain ⟨T, x, u, e1, e2, e3, e4, e5⟩ := y
    exact ⟨T, x, u, e1, e2, e3, e4 xs q.1, e5 ys q.2⟩⟩
end Ft

/-! zip whose pair may still be out (zip inside enumerate) -/
namespace Ft
open PySem PySem.Spec PyProof.Rows L2
def OwnOk (v : Value) : Prop := v = .none ∨ ∃ T : Addr, v = rawInt T
abbrev ZF (h : Heap) (z TI TO : Addr) (a0 : Value) (f : Bool) : Prop :=
  h.get? z = some { cls := .type "zip", dict := none, data := .fields #[a0, .bool f, .bool false, .ref TI, .ref TO], slots := #[] }
section
variable {prog : Program} {w : World} {A : Around} {E : Value → Shared → Prop} {s : Shared} {z TI TO i1 i2 : Addr} {fp1 fp2 : List Addr} {n1 n2 i : Nat} {P1 P2 : Nat → Value → Prop} {St1 St2 : Nat → Heap → Prop} {a1 a2 a0 : Value} {f : Bool}
theorem w_alive {a : Addr} {Q : Option Obj → Shared → Prop} (h : Q (s.heap.get? a) s) : wpAny (model prog w) A (loadIfAlive a) Q E s := fun Γ p hΓ => by
  unfold loadIfAlive
  rw [Sem.wp_loadIfAlive]
  exact (wpAny_pure h : wpAny (model prog w) A (pure (s.heap.get? a)) Q E s) Γ p hΓ
theorem zfree {Q : Bool → Shared → Prop} (hz : ZF s.heap z TI TO a0 f) (h0 : OwnOk a0) (q : ∀ b h' f', ZF h' z TI TO a0 f' → Heap.SameBut z s.heap h' → Q b { s with heap := h' }) :
    wpAny (model prog w) A (Builtin.SmallTypes.ownedTupleIsFree (.ref z)) Q E s := by
  unfold Builtin.SmallTypes.ownedTupleIsFree
  rcases h0 with rfl | ⟨T, rfl⟩
  · exact wpAny_bind (wpAny_field hz rfl (x := .none) rfl (wpAny_pure (q true s.heap f hz (Heap.SameBut.refl _ _))))
  · refine wpAny_bind (wpAny_field hz rfl (x := rawInt T) rfl ?_)
    show wpAny _ _ (loadIfAlive ((T : Int).toNat) >>= _) _ _ _
    rw [Int.toNat_natCast]
    refine wpAny_bind (w_alive ?_)
    cases s.heap.get? T with
    | none =>
      simp only [Option.isNone_none, if_true]
      exact wpAny_pure (q true s.heap f hz (Heap.SameBut.refl _ _))
    | some o =>
      simp only [Option.isNone_some, Bool.false_eq_true, if_false]
      refine wpAny_bind (wpAny_field hz rfl (x := .bool f) rfl ?_)
      cases f with
      | true =>
        rw [if_neg (show ¬ ((Value.bool true != Value.bool true) = true) from Bool.false_ne_true)]
        exact wpAny_pure (q false s.heap true hz (Heap.SameBut.refl _ _))
      | false =>
        rw [if_pos (show (Value.bool false != Value.bool true) = true from rfl)]
        exact wpAny_bind (wpAny_setField_rec hz (by simp) fun h₁ hz₁ hs₁ => wpAny_pure (q false h₁ true hz₁ hs₁))
theorem zitem {Q : Value → Shared → Prop} (S : ZipSep2 z TI TO i1 i2 fp1 fp2) (D1 : Draws prog w A i1 fp1 n1 P1 St1) (D2 : Draws prog w A i2 fp2 n2 P2 St2)
    (hz : ZF s.heap z TI TO a0 f) (h0 : OwnOk a0) (hTI : IsTupOf2 s.heap TI (.ref i1) (.ref i2)) (hTO : IsTupOf2 s.heap TO a1 a2) (st1 : St1 i s.heap) (st2 : St2 i s.heap) (lt1 : i < n1) (lt2 : i < n2)
    (q : ∀ x1 x2 h' tk a' f', P1 i x1 → P2 i x2 → ZF h' z TI TO a' f' → OwnOk a' → (∃ u v, IsTupOf2 h' TO u v) → St1 (i + 1) h' → St2 (i + 1) h' → IsTupOf2 h' s.heap.objs.size x1 x2 → h'.objs.size = s.heap.objs.size + 1 →
      (∀ c o, c ≠ z → c ≠ TO → c ≠ i1 → c ≠ i2 → s.heap.get? c = some o → h'.get? c = some o) → Q (.ref s.heap.objs.size) { s with heap := h', toks := tk }) :
    wpAny (model prog w) A (Builtin.«zip.__next__» ⟨[.ref z], []⟩) (fun fin s' => ∃ v, fin = .done (.ret v) ∧ Q v s') E s := by
  obtain ⟨hp, g, d, t0, os⟩ := s
  show wpAny _ _ (field (.ref z) 2 >>= _) _ _ _
  refine wpAny_bind (wpAny_field hz rfl (x := .bool false) rfl ?_)
  show wpAny _ _ (field (.ref z) 3 >>= _) _ _ _
  refine wpAny_bind (wpAny_field hz rfl (x := .ref TI) rfl ?_)
  refine wpAny_bind (wpAny_seqItems hTI rfl ?_)
  show wpAny _ _ (Builtin.SmallTypes.ownedTupleIsFree (.ref z) >>= _) _ _ _
  refine wpAny_bind (zfree hz h0 fun b k0 fb zk0 sk0 => ?_)
  replace sk0 : Heap.SameBut z hp k0 := sk0
  replace zk0 : ZF k0 z TI TO a0 fb := zk0
  cases b with
  | true =>
    simp only [if_true]
    refine wpAny_bind (wpAny_rule ?_)
    refine wpAny_bind (wpAny_field (s := ⟨k0, g, d, t0, os⟩) zk0 rfl (x := .ref TO) rfl ?_)
    refine wpAny_bind (wpAny_setField_rec (s := ⟨k0, g, d, t0, os⟩) zk0 (by simp) fun g0 hz0 hs0 => ?_)
    replace hz0 : ZF g0 z TI TO .ellipsis fb := hz0
    replace hs0 : Heap.SameBut z k0 g0 := hs0
    refine wpAny_bind ?_
    simp only [List.zipIdx_cons, List.zipIdx_nil, List.forIn_cons, List.forIn_nil]
    refine wpAny_bind (wpAny_bind (wpAny_onRaise ?_))
    show wpAny _ _ (Builtin.SmallTypes.nextOf (.ref i1) >>= _) _ _ ⟨g0, g, d, t0, os⟩
    refine wpAny_bind (D1.item i _ _ _ lt1 (D1.over (D1.over st1 sk0 S.zf1) hs0 S.zf1) fun x1 p1 k1 hx1 sn1 hp1 => wpAny_pure ?_)
    replace hp1 : Heap.SameBut i1 g0 p1 := hp1
    have hU1 : IsTupOf2 p1 TO a1 a2 := hp1.extBut _ _ S.Ti1 (hs0.extBut _ _ S.TOz (sk0.extBut _ _ S.TOz hTO))
    refine wpAny_bind (wpAny_seqItems (s := ⟨p1, g, d, k1, os⟩) hU1 rfl ?_)
    refine wpAny_bind (updateSeq_IsTupOf2 (s := ⟨p1, g, d, k1, os⟩) hU1 fun g1 hT1 hs1 => ?_)
    replace hT1 : IsTupOf2 g1 TO x1 a2 := hT1
    replace hs1 : Heap.SameBut TO p1 g1 := hs1
    refine wpAny_bind (wpAny_letGo (wpAny_pure ?_))
    refine wpAny_bind (wpAny_bind (wpAny_onRaise ?_))
    show wpAny _ _ (Builtin.SmallTypes.nextOf (.ref i2) >>= _) _ _ ⟨g1, g, d, k1, os⟩
    refine wpAny_bind (D2.item i _ _ _ lt2 (D2.over (D2.over (D2.over (D2.over st2 sk0 S.zf2) hs0 S.zf2) hp1 S.sep1_2) hs1 S.Tf2) fun x2 p2 k2 hx2 sn2 hp2 => wpAny_pure ?_)
    replace hp2 : Heap.SameBut i2 g1 p2 := hp2
    have hU2 : IsTupOf2 p2 TO x1 a2 := hp2.extBut _ _ S.Ti2 hT1
    refine wpAny_bind (wpAny_seqItems (s := ⟨p2, g, d, k2, os⟩) hU2 rfl ?_)
    refine wpAny_bind (updateSeq_IsTupOf2 (s := ⟨p2, g, d, k2, os⟩) hU2 fun g2 hT2 hs2 => ?_)
    replace hT2 : IsTupOf2 g2 TO x1 x2 := hT2
    replace hs2 : Heap.SameBut TO p2 g2 := hs2
    refine wpAny_bind (wpAny_letGo (wpAny_pure (wpAny_pure ?_)))
    refine wpAny_bind (wpAny_seqItems (s := ⟨g2, g, d, k2, os⟩) hT2 rfl ?_)
    refine wpAny_bind (wpAny_newTuple ?_)
    have sz : g2.objs.size = hp.objs.size := by rw [hs2.1, hp2.1, hs1.1, hp1.1, hs0.1, sk0.1]
    have zz : ZF g2 z TI TO .ellipsis fb := hs2.extBut _ _ S.TOz.symm (hp2.extBut _ _ S.zi2 (hs1.extBut _ _ S.TOz.symm (hp1.extBut _ _ S.zi1 hz0)))
    have kk : ∀ c o, c ≠ z → c ≠ TO → c ≠ i1 → c ≠ i2 → hp.get? c = some o → g2.get? c = some o := fun c o cz cT c1 c2 e =>
      hs2.extBut _ _ cT (hp2.extBut _ _ c2 (hs1.extBut _ _ cT (hp1.extBut _ _ c1 (hs0.extBut _ _ cz (sk0.extBut _ _ cz e)))))
    have j1 : St1 (i + 1) g2 := D1.over (D1.over (D1.over sn1 hs1 S.Tf1) hp2 S.sep2_1) hs2 S.Tf1
    have j2 : St2 (i + 1) g2 := D2.over sn2 hs2 S.Tf2
    have zl : z < g2.objs.size := Heap.lt_size zz
    show wpAny _ _ (Builtin.SmallTypes.ownedTupleHandOut (.ref z) (.ref g2.objs.size) >>= _) _ _ ⟨g2.push { cls := .type "tuple", data := .seq #[x1, x2] }, g, d, k2, os⟩
    refine wpAny_bind ?_
    unfold Builtin.SmallTypes.ownedTupleHandOut
    have z6 : ZF (g2.push { cls := .type "tuple", data := .seq #[x1, x2] }) z TI TO .ellipsis fb := Heap.get?_push_of_some _ zz
    refine wpAny_bind (wpAny_setField_rec z6 (by simp) fun h7 z7 s7 => ?_)
    replace z7 : ZF h7 z TI TO (rawInt g2.objs.size) fb := z7
    refine wpAny_setField_rec z7 (by simp) fun h8 z8 s8 => ?_
    replace z8 : ZF h8 z TI TO (rawInt g2.objs.size) false := z8
    replace s7 : Heap.SameBut z (g2.push { cls := .type "tuple", data := .seq #[x1, x2] }) h7 := s7
    replace s8 : Heap.SameBut z h7 h8 := s8
    have up : ∀ c o, c ≠ z → g2.get? c = some o → h8.get? c = some o := fun c o c1 e => s8.extBut _ _ c1 (s7.extBut _ _ c1 (Heap.get?_push_of_some _ e))
    have T8 : IsTupOf2 h8 g2.objs.size x1 x2 := s8.extBut _ _ (Nat.ne_of_gt zl) (s7.extBut _ _ (Nat.ne_of_gt zl) (Heap.get?_push_size _ rfl))
    have l8 : h8.objs.size = g2.objs.size + 1 := by rw [s8.1, s7.1, Heap.size_push]
    rw [sz] at z8 T8 l8
    refine wpAny_pure ⟨_, rfl, ?_⟩
    show Q (.ref g2.objs.size) ⟨h8, g, d, k2, os⟩
    rw [sz]
    exact q x1 x2 h8 k2 _ _ hx1 hx2 z8 (.inr ⟨_, rfl⟩) ⟨_, _, up _ _ S.TOz hT2⟩ (D1.frame _ _ _ j1 fun b hb o e => up b o (fun y => S.zf1 (y ▸ hb)) e) (D2.frame _ _ _ j2 fun b hb o e => up b o (fun y => S.zf2 (y ▸ hb)) e) T8 l8 fun c o cz cT c1 c2 e => up c o cz (kk c o cz cT c1 c2 e)
  | false =>
    simp only [Bool.false_eq_true, if_false]
    refine wpAny_bind ?_
    rw [← Array.forIn_toList]
    simp only [List.forIn_cons, List.forIn_nil]
    refine wpAny_bind (wpAny_bind (wpAny_holding ?_))
    show wpAny _ _ (Builtin.SmallTypes.nextOf (.ref i1) >>= _) _ _ ⟨k0, g, d, t0, os⟩
    refine wpAny_bind (D1.item i _ _ _ lt1 (D1.over st1 sk0 S.zf1) fun x1 p1 k1 hx1 sn1 hp1 => wpAny_pure ?_)
    replace hp1 : Heap.SameBut i1 k0 p1 := hp1
    refine wpAny_pure ?_
    refine wpAny_bind (wpAny_bind (wpAny_holding ?_))
    show wpAny _ _ (Builtin.SmallTypes.nextOf (.ref i2) >>= _) _ _ ⟨p1, g, d, k1, os⟩
    refine wpAny_bind (D2.item i _ _ _ lt2 (D2.over (D2.over st2 sk0 S.zf2) hp1 S.sep1_2) fun x2 p2 k2 hx2 sn2 hp2 => wpAny_pure ?_)
    replace hp2 : Heap.SameBut i2 p1 p2 := hp2
    refine wpAny_pure (wpAny_pure ?_)
    show wpAny _ _ (newTuple [x1, x2] >>= _) _ _ ⟨p2, g, d, k2, os⟩
    refine wpAny_bind (wpAny_newTuple ?_)
    have sz : p2.objs.size = hp.objs.size := by rw [hp2.1, hp1.1, sk0.1]
    have zz : ZF p2 z TI TO a0 fb := hp2.extBut _ _ S.zi2 (hp1.extBut _ _ S.zi1 zk0)
    have tt : IsTupOf2 p2 TO a1 a2 := hp2.extBut _ _ S.Ti2 (hp1.extBut _ _ S.Ti1 (sk0.extBut _ _ S.TOz hTO))
    have kk : ∀ c o, c ≠ z → c ≠ TO → c ≠ i1 → c ≠ i2 → hp.get? c = some o → p2.get? c = some o := fun c o cz cT c1 c2 e =>
      hp2.extBut _ _ c2 (hp1.extBut _ _ c1 (sk0.extBut _ _ cz e))
    have j1 : St1 (i + 1) p2 := D1.over sn1 hp2 S.sep2_1
    have up : ∀ c o, p2.get? c = some o → (p2.push { cls := .type "tuple", data := .seq #[x1, x2] }).get? c = some o := fun c o e => Heap.get?_push_of_some _ e
    have T8 : IsTupOf2 (p2.push { cls := .type "tuple", data := .seq #[x1, x2] }) p2.objs.size x1 x2 := Heap.get?_push_size _ rfl
    have l8 : (p2.push { cls := .type "tuple", data := .seq #[x1, x2] }).objs.size = p2.objs.size + 1 := Heap.size_push ..
    refine wpAny_pure ⟨_, rfl, ?_⟩
    show Q (.ref p2.objs.size) ⟨p2.push { cls := .type "tuple", data := .seq #[x1, x2] }, g, d, k2, os⟩
    rw [sz] at T8 l8 ⊢
    exact q x1 x2 _ k2 a0 fb hx1 hx2 (up _ _ zz) h0 ⟨_, _, up _ _ tt⟩ (D1.frame _ _ _ j1 fun b hb o e => up b o e) (D2.frame _ _ _ sn2 fun b hb o e => up b o e) T8 l8 fun c o cz cT c1 c2 e => up c o (kk c o cz cT c1 c2 e)
end
end Ft

namespace Ft
open PySem PySem.Spec PyProof.Rows L2
section
variable {prog : Program} {w : World} {A : Around} {E : Value → Shared → Prop} {s : Shared} {z TI TO i1 i2 : Addr} {fp1 fp2 : List Addr} {n1 n2 i : Nat} {P1 P2 : Nat → Value → Prop} {St1 St2 : Nat → Heap → Prop} {a1 a2 a0 : Value} {f : Bool}
theorem zend {Q : Fin → Shared → Prop} (S : ZipSep2 z TI TO i1 i2 fp1 fp2) (D1 : Draws prog w A i1 fp1 n1 P1 St1) (D2 : Draws prog w A i2 fp2 n2 P2 St2)
    (hz : ZF s.heap z TI TO a0 f) (h0 : OwnOk a0) (hTI : IsTupOf2 s.heap TI (.ref i1) (.ref i2)) (hTO : IsTupOf2 s.heap TO a1 a2) (st1 : St1 i s.heap) (st2 : St2 i s.heap) (le1 : i ≤ n1) (le2 : i ≤ n2) (fin : i = n1 ∨ i = n2)
    (q : ∀ h' tk e, (∀ c o, c ≠ z → c ≠ TO → c ≠ i1 → c ≠ i2 → s.heap.get? c = some o → h'.get? c = some o) → (∃ o, h'.get? e = some o ∧ o.cls = .type "StopIteration") → E (.ref e) { s with heap := h', toks := tk }) :
    wpAny (model prog w) A (Builtin.«zip.__next__» ⟨[.ref z], []⟩) Q E s := by
  obtain ⟨hp, g, d, t0, os⟩ := s
  show wpAny _ _ (field (.ref z) 2 >>= _) _ _ _
  refine wpAny_bind (wpAny_field hz rfl (x := .bool false) rfl ?_)
  show wpAny _ _ (field (.ref z) 3 >>= _) _ _ _
  refine wpAny_bind (wpAny_field hz rfl (x := .ref TI) rfl ?_)
  refine wpAny_bind (wpAny_seqItems hTI rfl ?_)
  show wpAny _ _ (Builtin.SmallTypes.ownedTupleIsFree (.ref z) >>= _) _ _ _
  refine wpAny_bind (zfree hz h0 fun b k0 fb zk0 sk0 => ?_)
  replace sk0 : Heap.SameBut z hp k0 := sk0
  replace zk0 : ZF k0 z TI TO a0 fb := zk0
  cases b with
  | true =>
    simp only [if_true]
    refine wpAny_bind (wpAny_rule ?_)
    refine wpAny_bind (wpAny_field (s := ⟨k0, g, d, t0, os⟩) zk0 rfl (x := .ref TO) rfl ?_)
    refine wpAny_bind (wpAny_setField_rec (s := ⟨k0, g, d, t0, os⟩) zk0 (by simp) fun g0 hz0 hs0 => ?_)
    replace hz0 : ZF g0 z TI TO .ellipsis fb := hz0
    replace hs0 : Heap.SameBut z k0 g0 := hs0
    refine wpAny_bind ?_
    simp only [List.zipIdx_cons, List.zipIdx_nil, List.forIn_cons, List.forIn_nil]
    refine wpAny_bind (wpAny_bind (wpAny_onRaise ?_))
    show wpAny _ _ (Builtin.SmallTypes.nextOf (.ref i1) >>= _) _ _ ⟨g0, g, d, t0, os⟩
    have k1 : St1 i g0 := D1.over (D1.over st1 sk0 S.zf1) hs0 S.zf1
    by_cases lt1 : i < n1
    · refine wpAny_bind (D1.item i _ _ _ lt1 k1 fun x1 p1 k1 hx1 sn1 hp1 => wpAny_pure ?_)
      replace hp1 : Heap.SameBut i1 g0 p1 := hp1
      have hU1 : IsTupOf2 p1 TO a1 a2 := hp1.extBut _ _ S.Ti1 (hs0.extBut _ _ S.TOz (sk0.extBut _ _ S.TOz hTO))
      refine wpAny_bind (wpAny_seqItems (s := ⟨p1, g, d, k1, os⟩) hU1 rfl ?_)
      refine wpAny_bind (updateSeq_IsTupOf2 (s := ⟨p1, g, d, k1, os⟩) hU1 fun g1 hT1 hs1 => ?_)
      replace hs1 : Heap.SameBut TO p1 g1 := hs1
      refine wpAny_bind (wpAny_letGo (wpAny_pure ?_))
      have e2 : i = n2 := by omega
      refine wpAny_bind (wpAny_bind (wpAny_onRaise ?_))
      show wpAny _ _ (Builtin.SmallTypes.nextOf (.ref i2) >>= _) _ _ ⟨g1, g, d, k1, os⟩
      refine wpAny_bind (D2.done ⟨g1, g, d, k1, os⟩ _ _ (by rw [← e2]; exact (D2.over (D2.over (D2.over (D2.over st2 sk0 S.zf2) hs0 S.zf2) hp1 S.sep1_2) hs1 S.Tf2)) fun r e hq he => ?_)
      replace hq : Heap.ExtBut i2 g1 r := hq
      obtain ⟨oe, hoe, hce⟩ := he
      replace hoe : r.get? e = some oe := hoe
      have zr : ZF r z TI TO .ellipsis fb := hq _ _ S.zi2 (hs1.extBut _ _ S.TOz.symm (hp1.extBut _ _ S.zi1 hz0))
      have ez : e ≠ z := fun x => by subst x; rw [zr] at hoe; cases hoe; simp at hce
      refine wpAny_setField_rec (s := ⟨r, g, d, k1, os⟩) zr (by simp) fun r' _ hr' => ?_
      replace hr' : Heap.SameBut z r r' := hr'
      exact q r' k1 e (fun c o cz cT c1 c2 x => hr'.extBut _ _ cz (hq _ _ c2 (hs1.extBut _ _ cT (hp1.extBut _ _ c1 (hs0.extBut _ _ cz (sk0.extBut _ _ cz x)))))) ⟨oe, hr'.extBut _ _ ez hoe, hce⟩
    · have e1 : i = n1 := by omega
      refine wpAny_bind (D1.done ⟨g0, g, d, t0, os⟩ _ _ (by rw [← e1]; exact k1) fun r e hq he => ?_)
      replace hq : Heap.ExtBut i1 g0 r := hq
      obtain ⟨oe, hoe, hce⟩ := he
      replace hoe : r.get? e = some oe := hoe
      have zr : ZF r z TI TO .ellipsis fb := hq _ _ S.zi1 hz0
      have ez : e ≠ z := fun x => by subst x; rw [zr] at hoe; cases hoe; simp at hce
      refine wpAny_setField_rec (s := ⟨r, g, d, t0, os⟩) zr (by simp) fun r' _ hr' => ?_
      replace hr' : Heap.SameBut z r r' := hr'
      exact q r' t0 e (fun c o cz cT c1 c2 x => hr'.extBut _ _ cz (hq _ _ c1 (hs0.extBut _ _ cz (sk0.extBut _ _ cz x)))) ⟨oe, hr'.extBut _ _ ez hoe, hce⟩
  | false =>
    simp only [Bool.false_eq_true, if_false]
    refine wpAny_bind ?_
    rw [← Array.forIn_toList]
    simp only [List.forIn_cons, List.forIn_nil]
    refine wpAny_bind (wpAny_bind (wpAny_holding ?_))
    show wpAny _ _ (Builtin.SmallTypes.nextOf (.ref i1) >>= _) _ _ ⟨k0, g, d, t0, os⟩
    have k1 : St1 i k0 := D1.over st1 sk0 S.zf1
    by_cases lt1 : i < n1
    · refine wpAny_bind (D1.item i _ _ _ lt1 k1 fun x1 p1 k1 hx1 sn1 hp1 => wpAny_pure ?_)
      replace hp1 : Heap.SameBut i1 k0 p1 := hp1
      have e2 : i = n2 := by omega
      refine wpAny_pure ?_
      refine wpAny_bind (wpAny_bind (wpAny_holding ?_))
      show wpAny _ _ (Builtin.SmallTypes.nextOf (.ref i2) >>= _) _ _ ⟨p1, g, d, k1, os⟩
      refine wpAny_bind (D2.done ⟨p1, g, d, k1, os⟩ _ _ (by rw [← e2]; exact (D2.over (D2.over st2 sk0 S.zf2) hp1 S.sep1_2)) fun r e hq he => ?_)
      replace hq : Heap.ExtBut i2 p1 r := hq
      exact q r k1 e (fun c o cz cT c1 c2 x => hq _ _ c2 (hp1.extBut _ _ c1 (sk0.extBut _ _ cz x))) he
    · have e1 : i = n1 := by omega
      refine wpAny_bind (D1.done ⟨k0, g, d, t0, os⟩ _ _ (by rw [← e1]; exact k1) fun r e hq he => ?_)
      replace hq : Heap.ExtBut i1 k0 r := hq
      exact q r t0 e (fun c o cz cT c1 c2 x => hq _ _ c1 (sk0.extBut _ _ cz x)) he
/-- the next pair, asked for by another builtin -/
theorem znext {Q : Value → Shared → Prop} (S : ZipSep2 z TI TO i1 i2 fp1 fp2) (D1 : Draws prog w A.in1 i1 fp1 n1 P1 St1) (D2 : Draws prog w A.in1 i2 fp2 n2 P2 St2)
    (hz : ZF s.heap z TI TO a0 f) (h0 : OwnOk a0) (hTI : IsTupOf2 s.heap TI (.ref i1) (.ref i2)) (hTO : IsTupOf2 s.heap TO a1 a2) (st1 : St1 i s.heap) (st2 : St2 i s.heap) (lt1 : i < n1) (lt2 : i < n2)
    (q : ∀ x1 x2 h' tk a' f', P1 i x1 → P2 i x2 → ZF h' z TI TO a' f' → OwnOk a' → (∃ u v, IsTupOf2 h' TO u v) → St1 (i + 1) h' → St2 (i + 1) h' → IsTupOf2 h' s.heap.objs.size x1 x2 → h'.objs.size = s.heap.objs.size + 1 →
      (∀ c o, c ≠ z → c ≠ TO → c ≠ i1 → c ≠ i2 → s.heap.get? c = some o → h'.get? c = some o) → Q (.ref s.heap.objs.size) { s with heap := h', toks := tk }) :
    wpAny (model prog w) A (Builtin.SmallTypes.nextOf (.ref z)) Q E s := by
  have hT : s.TypeIs (.ref z) "zip" := ⟨_, hz, rfl⟩
  unfold Builtin.SmallTypes.nextOf
  exact wpAny_bind (wpAny_callSpecial?_slot (name := Str.ofString "__next__") hT F.slot_zip_next
    (wpAny_call_entry F.slot_zip_next hT F.entry_zip_next
      (zitem S D1 D2 hz h0 hTI hTO st1 st2 lt1 lt2 fun x1 x2 h' tk a' f' y1 y2 b1 b2 b3 d1 d2 b5 b6 b7 => wpAny_pure (q x1 x2 h' tk a' f' y1 y2 b1 b2 b3 d1 d2 b5 b6 b7)) (F.args_zip_next_1 _)))
theorem zstop {Q : Value → Shared → Prop} (S : ZipSep2 z TI TO i1 i2 fp1 fp2) (D1 : Draws prog w A.in1 i1 fp1 n1 P1 St1) (D2 : Draws prog w A.in1 i2 fp2 n2 P2 St2)
    (hz : ZF s.heap z TI TO a0 f) (h0 : OwnOk a0) (hTI : IsTupOf2 s.heap TI (.ref i1) (.ref i2)) (hTO : IsTupOf2 s.heap TO a1 a2) (st1 : St1 i s.heap) (st2 : St2 i s.heap) (le1 : i ≤ n1) (le2 : i ≤ n2) (fin : i = n1 ∨ i = n2)
    (q : ∀ h' tk e, (∀ c o, c ≠ z → c ≠ TO → c ≠ i1 → c ≠ i2 → s.heap.get? c = some o → h'.get? c = some o) → (∃ o, h'.get? e = some o ∧ o.cls = .type "StopIteration") → E (.ref e) { s with heap := h', toks := tk }) :
    wpAny (model prog w) A (Builtin.SmallTypes.nextOf (.ref z)) Q E s := by
  have hT : s.TypeIs (.ref z) "zip" := ⟨_, hz, rfl⟩
  unfold Builtin.SmallTypes.nextOf
  exact wpAny_bind (wpAny_callSpecial?_slot (name := Str.ofString "__next__") hT F.slot_zip_next
    (wpAny_call_entry F.slot_zip_next hT F.entry_zip_next (zend S D1 D2 hz h0 hTI hTO st1 st2 le1 le2 fin q) (F.args_zip_next_1 _)))
/-- enumerate over an iterator z, told by what nextOf z does -/
theorem enext {e : Addr} {c : Int} {old : Value} {Q : Option Value → Shared → Prop} {R : Value → Heap → Prop} {T : Nat} (he : IsEnum s.heap e z c old) 
    (hn : ∀ (Q' : Value → Shared → Prop) (E' : Value → Shared → Prop), (∀ x h' tk, R x h' → h'.objs.size = T → h'.get? e = s.heap.get? e → Q' x { s with heap := h', toks := tk }) → wpAny (model prog w) A.in1 (Builtin.SmallTypes.nextOf (.ref z)) Q' E' s)
    (q : ∀ x h1 h' tk, R x h1 → h1.objs.size = T → IsEnumOut h' e z (c + 1) x T → h'.get? T = some { cls := .type "tuple", data := .seq #[.int c tk, x] } → h'.objs.size = T + 1 →
      (∀ b o, b ≠ e → h1.get? b = some o → h'.get? b = some o) → Q (some (.ref T)) { s with heap := h', toks := tk + 1 }) :
    wpAny (model prog w) A (pyNext (.ref e)) Q E s := by
  have hT : s.TypeIs (.ref e) "enumerate" := ⟨_, he, rfl⟩
  unfold pyNext
  refine wpAny_bind (wpAny_attempt (wpAny_callSpecial?_slot (name := Str.ofString "__next__") hT F.slot_enumerate_next
    (wpAny_call_entry F.slot_enumerate_next hT F.entry_enumerate_next ?_ (F.args_enumerate_next_1 _))))
  obtain ⟨hp, g, d, t0, os⟩ := s
  show wpAny _ _ (field (.ref e) 2 >>= _) _ _ _
  refine wpAny_bind (wpAny_field he rfl (x := .ref z) rfl ?_)
  refine wpAny_bind ?_
  refine hn _ _ fun x h1 tk hR hsz hke => ?_
  have e1 : IsEnum h1 e z c old := hke.trans he
  show wpAny _ _ (field (.ref e) 3 >>= _) _ _ ⟨h1, g, d, tk, os⟩
  refine wpAny_bind (wpAny_field e1 rfl (x := rawInt c) rfl ?_)
  show wpAny _ _ (field (.ref e) 4 >>= _) _ _ ⟨h1, g, d, tk, os⟩
  refine wpAny_bind (wpAny_field e1 rfl (x := .none) rfl ?_)
  show wpAny _ _ (mkInt c >>= _) _ _ ⟨h1, g, d, tk, os⟩
  refine wpAny_bind (wpAny_mkInt ?_)
  show wpAny _ _ (setField (.ref e) 3 (rawInt (c + 1)) >>= _) _ _ ⟨h1, g, d, tk + 1, os⟩
  refine wpAny_bind (wpAny_setField_rec e1 (by simp) fun h2 e2 s2 => ?_)
  replace s2 : Heap.SameBut e h1 h2 := s2
  replace e2 : IsEnum h2 e z (c + 1) old := e2
  show wpAny _ _ (setField (.ref e) 4 .none >>= _) _ _ ⟨h2, g, d, tk + 1, os⟩
  refine wpAny_bind (wpAny_setField_rec e2 (by simp) fun h3 e3 s3 => ?_)
  replace s3 : Heap.SameBut e h2 h3 := s3
  replace e3 : IsEnum h3 e z (c + 1) old := e3
  show wpAny _ _ (newTuple [.int c tk, x] >>= _) _ _ ⟨h3, g, d, tk + 1, os⟩
  refine wpAny_bind (wpAny_newTuple ?_)
  have sz : h3.objs.size = T := by rw [s3.1, s2.1, hsz]
  have e4 : IsEnum (h3.push { cls := .type "tuple", data := .seq #[.int c tk, x] }) e z (c + 1) old := Heap.get?_push_of_some _ e3
  have el : e < T := by rw [← hsz]; exact Heap.lt_size e1
  have t4 : (h3.push { cls := .type "tuple", data := .seq #[.int c tk, x] }).get? T = some { cls := .type "tuple", data := .seq #[.int c tk, x] } := by rw [← sz]; exact Heap.get?_push_size _ rfl
  have z4 : (h3.push { cls := .type "tuple", data := .seq #[.int c tk, x] }).objs.size = T + 1 := by rw [Heap.size_push, sz]
  have k4 : ∀ b o, b ≠ e → h1.get? b = some o → (h3.push { cls := .type "tuple", data := .seq #[.int c tk, x] }).get? b = some o := fun b o hb h =>
    Heap.get?_push_of_some _ (s3.extBut b o hb (s2.extBut b o hb h))
  show wpAny _ _ (Builtin.SmallTypes.ownedTupleIsFree (.ref e) >>= _) _ _ ⟨_, g, d, tk + 1, os⟩
  generalize h3.push { cls := .type "tuple", data := .seq #[.int c tk, x] } = h4 at e4 t4 z4 k4
  rw [sz]
  refine wpAny_bind ?_
  unfold Builtin.SmallTypes.ownedTupleIsFree
  refine wpAny_bind (wpAny_field (s := ⟨h4, g, d, tk + 1, os⟩) e4 rfl (x := .none) rfl (wpAny_pure ?_))
  simp only [if_true]
  refine wpAny_bind (wpAny_rule ?_)
  refine wpAny_bind (wpAny_field (s := ⟨h4, g, d, tk + 1, os⟩) e4 rfl (x := old) rfl ?_)
  refine wpAny_bind (wpAny_setField_rec (s := ⟨h4, g, d, tk + 1, os⟩) e4 (by simp) fun h5 e5 s5 => ?_)
  replace s5 : Heap.SameBut e h4 h5 := s5
  replace e5 : IsEnum h5 e z (c + 1) x := e5
  show wpAny _ _ (Builtin.SmallTypes.ownedTupleHandOut (.ref e) (.ref T) >>= _) _ _ ⟨h5, g, d, tk + 1, os⟩
  refine wpAny_bind ?_
  unfold Builtin.SmallTypes.ownedTupleHandOut
  refine wpAny_bind (wpAny_setField_rec e5 (by simp) fun h6 e6 s6 => ?_)
  replace s6 : Heap.SameBut e h5 h6 := s6
  replace e6 : IsEnumOut h6 e z (c + 1) x T := e6
  refine wpAny_setField_rec e6 (by simp) fun h7 e7 s7 => ?_
  replace s7 : Heap.SameBut e h6 h7 := s7
  replace e7 : IsEnumOut h7 e z (c + 1) x T := e7
  refine wpAny_bind (wpAny_letGo (wpAny_pure ⟨_, rfl, wpAny_pure (q x h1 h7 tk hR hsz e7 ?_ ?_ ?_)⟩))
  · exact s7.extBut _ _ (Nat.ne_of_gt el) (s6.extBut _ _ (Nat.ne_of_gt el) (s5.extBut _ _ (Nat.ne_of_gt el) t4))
  · rw [s7.1, s6.1, s5.1, z4]
  · exact fun b o hb h => s7.extBut b o hb (s6.extBut b o hb (s5.extBut b o hb (k4 b o hb h)))
theorem eend {e : Addr} {c : Int} {old : Value} {Q : Option Value → Shared → Prop} {R : Heap → Prop} (he : IsEnum s.heap e z c old)
    (hn : ∀ (Q' : Value → Shared → Prop) (E' : Value → Shared → Prop), (∀ h' tk x, R h' → (∃ o, h'.get? x = some o ∧ o.cls = .type "StopIteration") → E' (.ref x) { s with heap := h', toks := tk }) → wpAny (model prog w) A.in1 (Builtin.SmallTypes.nextOf (.ref z)) Q' E' s)
    (q : ∀ h' tk, R h' → Q none { s with heap := h', toks := tk }) : wpAny (model prog w) A (pyNext (.ref e)) Q E s := by
  have hT : s.TypeIs (.ref e) "enumerate" := ⟨_, he, rfl⟩
  unfold pyNext
  refine wpAny_bind (wpAny_attempt (wpAny_callSpecial?_slot (name := Str.ofString "__next__") hT F.slot_enumerate_next
    (wpAny_call_entry F.slot_enumerate_next hT F.entry_enumerate_next ?_ (F.args_enumerate_next_1 _))))
  show wpAny _ _ (field (.ref e) 2 >>= _) _ _ _
  refine wpAny_bind (wpAny_field he rfl (x := .ref z) rfl ?_)
  refine wpAny_bind (hn _ _ fun h' tk x hR hx => ?_)
  obtain ⟨o, ho, hc⟩ := hx
  refine wpAny_bind (wpAny_isInstance (T := "StopIteration") (b := true) ⟨o, ho, hc⟩ isSubtype_stop ?_)
  exact wpAny_pure (q _ _ hR)
end
end Ft

/-! enumerate(zip(t, u)), t and u tuples -/
namespace Ft
open PySem PySem.Spec PyProof.Rows L2
theorem meets_enumZ {z TI TO : Addr} :
    Meets (Builtin.«enumerate.__new__» ⟨[.type "enumerate", .ref z], []⟩) (fun _ R s => IsZip s.heap z TI TO .none ∧
      R (.ok (.ret (.ref s.heap.objs.size))) { s with heap := s.heap.push { cls := .type "enumerate", data := .fields #[.none, .bool false, .ref z, rawInt 0, .none, .none] } }) :=
  .of_wp fun pr w A R s h => by
    obtain ⟨hp, g, d, tk, os⟩ := s
    obtain ⟨z1, z2⟩ := h
    have sube := sub_enumerate
    have begin_ : ∀ {A' : Around} {E : Value → Shared → Prop} {Q : Value → Shared → Prop}, Q (.ref z) ⟨hp, g, d, tk, os⟩ → wpAny (model pr w) A' (pyIter (.ref z)) Q E ⟨hp, g, d, tk, os⟩ :=
      fun y => wpAny_pyIter_zip z1 y
    wp_walk using begin_
    refine wpAny_stack_any fun st => wpAny_pure ?_
    split
    · rename_i c _ _ _ _ _
      cases (c == Value.type "enumerate") <;> (wp_walk using begin_; exact ⟨_, rfl, z2⟩)
    · wp_walk using begin_; exact ⟨_, rfl, z2⟩
section
variable {pr : Program} {w : World} {A : Around} {E : Value → Shared → Prop} {s : Shared}
theorem enumZ_begins {z TI TO : Addr} {Q : Value → Shared → Prop} (hz : IsZip s.heap z TI TO .none)
    (q : ∀ h', IsEnum h' s.heap.objs.size z 0 .none → (∀ b o', s.heap.get? b = some o' → h'.get? b = some o') → Q (.ref s.heap.objs.size) { s with heap := h' }) :
    wpAny (model pr w) A (call (.type "enumerate") [.ref z]) Q E s := by
  have ie := Heap.get?_push_size s.heap (o := { cls := .type "enumerate", data := .fields #[.none, .bool false, .ref z, rawInt 0, .none, .none] }) rfl
  refine callType_new F.called_enumerate (by decide) (F.typeCall_enumerate_1 _) (F.newCall_enumerate_1 _) (fun ob => F.args_object_init_2 ob _) F.entry_enumerate_new meets_enumZ ⟨hz, ?_⟩
  exact ⟨⟨_, ie, rfl⟩, q _ ie fun b o' y => Heap.get?_push_of_some _ y⟩
end
/-- the pairs of two tuples, each in a new pair with its place -/
def IteZ (K : PySem.W.Frag) (a b : Addr) : It where
  go := fun i H => ∃ xs ys : List V, SqT K H a xs ∧ SqT K H b ys ∧ i < xs.length ∧ i < ys.length
  yld := fun i H v H' => ∃ T1 T2 x y, v = .ref T2 ∧ H T1 = none ∧ H T2 = none ∧ T1 ≠ T2 ∧ H' = upd (upd H T1 (.tup [x, y])) T2 (.tup [.int (i : Nat), .ref T1]) ∧ (∀ xs, SqT K H a xs → xs[i]? = some x) ∧ ∀ ys, SqT K H b ys → ys[i]? = some y
  stop := fun i H => ∃ xs ys : List V, SqT K H a xs ∧ SqT K H b ys ∧ i = min xs.length ys.length
def ZSt (e z TI TO i1 i2 a b : Addr) (i : Nat) (h : Heap) : Prop :=
  (∃ old, IsEnum h e z ((i : Nat) : Int) old) ∧ (∃ a0 f, ZF h z TI TO a0 f ∧ OwnOk a0) ∧ IsTupOf2 h TI (.ref i1) (.ref i2) ∧ (∃ x y, IsTupOf2 h TO x y) ∧ h.IsTupleIter i1 a i ∧ h.IsTupleIter i2 b i
theorem in6 {e z TI TO i1 i2 c : Addr} (h : c ∈ [e, z, TI, TO, i1, i2]) : c = e ∨ c = z ∨ c = TI ∨ c = TO ∨ c = i1 ∨ c = i2 := by simpa using h
structure Apart6 (e z TI TO i1 i2 a b : Addr) : Prop where
  S : ZipSep2 z TI TO i1 i2 [i1, a] [i2, b]
  n12 : i1 ≠ i2
  ez : e ≠ z
  eTI : e ≠ TI
  eTO : e ≠ TO
  e1 : e ≠ i1
  e2 : e ≠ i2
theorem turn_enumZ {P : Program} {w : World} {K : PySem.W.Frag} {elts : List Expr} {kk : Nat} {tpos : Pos} {e z TI TO i1 i2 a b : Addr} (U : Apart6 e z TI TO i1 i2 a b) :
    Turn P w K (.Tuple elts kk tpos) (IteZ K a b) [e, z, TI, TO, i1, i2] e (ZSt e z TI TO i1 i2 a b) where
  mem := List.mem_cons_self
  obj := fun i h st c hc => by
    obtain ⟨⟨old, ee⟩, ⟨a0, f, ez, _⟩, eI, ⟨x, y, eO⟩, ⟨o1, q1, _, d1⟩, ⟨o2, q2, _, d2⟩⟩ := st
    rcases in6 hc with rfl | rfl | rfl | rfl | rfl | rfl
    · exact ⟨_, ee, fun v q => nomatch q⟩
    · exact ⟨_, ez, fun v q => nomatch q⟩
    · exact ⟨_, eI, fun v q => nomatch q⟩
    · exact ⟨_, eO, fun v q => nomatch q⟩
    · exact ⟨o1, q1, fun v q => by rw [d1] at q; cases q⟩
    · exact ⟨o2, q2, fun v q => by rw [d2] at q; cases q⟩
  keep := fun i h h' st k => by
    obtain ⟨⟨old, ee⟩, ⟨a0, f, ez, ok⟩, eI, ⟨x, y, eO⟩, j1, j2⟩ := st
    exact ⟨⟨old, k e (by simp) _ ee⟩, ⟨a0, f, k z (by simp) _ ez, ok⟩, k TI (by simp) _ eI, ⟨x, y, k TO (by simp) _ eO⟩, j1.at fun o q => k i1 (by simp) o q, j2.at fun o q => k i2 (by simp) o q⟩
  item := by
    intro X hP hw hK hc i pins s σ H E I hf st g
    subst hP hw hK
    obtain ⟨⟨old, ee⟩, ⟨a0, f, ez, ok⟩, eI, ⟨x0, y0, eO⟩, j1, j2⟩ := st
    obtain ⟨xs, ys, qx, qy, l1, l2⟩ := g
    obtain ⟨us, rv, tp, _⟩ := I.tuple qx
    obtain ⟨us2, rv2, tp2, _⟩ := I.tuple qy
    have tp' : s.heap.IsTuple a us.toArray := tp
    have tq' : s.heap.IsTuple b us2.toArray := tp2
    have n1 : a ≠ i1 := by obtain ⟨o, eo, oc, _⟩ := id j1; exact other_cls tp' eo (by rw [oc]; decide +kernel)
    have n2 : b ≠ i2 := by obtain ⟨o, eo, oc, _⟩ := id j2; exact other_cls tq' eo (by rw [oc]; decide +kernel)
    have hd : X.A.in1.handled = none := I.ok.hd hc
    have el := Heap.lt_size ee
    have lt : ∀ c ∈ [e, z, TI, TO, i1, i2], c < s.heap.objs.size := fun c hcm => by
      rcases in6 hcm with rfl | rfl | rfl | rfl | rfl | rfl
      · exact el
      · exact Heap.lt_size ez
      · exact Heap.lt_size eI
      · exact Heap.lt_size eO
      · obtain ⟨_, e1, _⟩ := j1; exact Heap.lt_size e1
      · obtain ⟨_, e2, _⟩ := j2; exact Heap.lt_size e2
    have hx : xs[i]? = some xs[i] := List.getElem?_eq_getElem l1
    have hy : ys[i]? = some ys[i] := List.getElem?_eq_getElem l2
    obtain ⟨w1, hw1, r1⟩ := rv.get hx
    obtain ⟨w2, hw2, r2⟩ := rv2.get hy
    refine enext (T := s.heap.objs.size + 1) (R := fun x h1 => x = .ref s.heap.objs.size ∧ (∃ a' f', ZF h1 z TI TO a' f' ∧ OwnOk a') ∧ (∃ u v, IsTupOf2 h1 TO u v) ∧ h1.IsTupleIter i1 a (i + 1) ∧ h1.IsTupleIter i2 b (i + 1) ∧ IsTupOf2 h1 s.heap.objs.size w1 w2 ∧
      (∀ c o, c ≠ z → c ≠ TO → c ≠ i1 → c ≠ i2 → s.heap.get? c = some o → h1.get? c = some o)) ee (fun Q' E' q => ?_) fun x h1 h' tk hR hsz eo eT es kp => ?_
    · refine znext U.S (Draws.tuple (A := X.A.in1.in1) hd i1 a n1 us.toArray) (Draws.tuple (A := X.A.in1.in1) hd i2 b n2 us2.toArray) ez ok eI eO ⟨j1, tp'⟩ ⟨j2, tq'⟩ (by have := rv.length; simp; omega) (by have := rv2.length; simp; omega) fun u1 u2 h' tk a' f' hu1 hu2 z' ok' o' z1 z2 hT hs kp => ?_
      obtain rfl : w1 = u1 := Option.some.inj (hw1.symm.trans (by simpa using hu1))
      obtain rfl : w2 = u2 := Option.some.inj (hw2.symm.trans (by simpa using hu2))
      exact q _ _ _ ⟨rfl, ⟨a', f', z', ok'⟩, o', z1.1, z2.1, hT, kp⟩ hs ((kp _ _ U.ez U.eTO U.e1 U.e2 ee).trans ee.symm)
    · obtain ⟨rfl, ⟨a', f', z', ok'⟩, ⟨u, v, o'⟩, z1, z2, hT, k1⟩ := hR
      refine ⟨_, rfl, wpAny_letOwnedTupleGo_enum (s := { s with heap := h', toks := tk + 1 }) eo fun h2 e2 sb => ?_⟩
      have nw1 : ObjOk X.prog X.w (upd H s.heap.objs.size (.tup [xs[i], ys[i]])) h1 s.heap.objs.size (.tup [xs[i], ys[i]]) :=
        ⟨(by show (2 : Nat) ≤ sizeLine; decide), [w1, w2], .cons r1 (.cons r2 .nil), ⟨_, hT, rfl, _, rfl⟩⟩
      have I1 : Inv X pins σ (upd H s.heap.objs.size (.tup [xs[i], ys[i]])) { s with heap := h1, toks := tk } :=
        I.turnedNew (ch := [e, z, TI, TO, i1, i2]) (fun c o nc y => k1 c o (fun e => nc (by simp [e])) (fun e => nc (by simp [e])) (fun e => nc (by simp [e])) (fun e => nc (by simp [e])) y) hf (Nat.le_refl _) nw1
      have tT : h2.get? (s.heap.objs.size + 1) = some { cls := .type "tuple", data := .seq #[.int i tk, .ref s.heap.objs.size] } := (sb.2 (s.heap.objs.size + 1) (Nat.ne_of_gt (Nat.lt_succ_of_lt el))).trans eT
      have hf1 : ∀ c ∈ [e], FpOk X pins (upd H s.heap.objs.size (.tup [xs[i], ys[i]])) c := fun c hcm => by
        obtain rfl := List.mem_singleton.mp hcm
        obtain ⟨f0, fr⟩ := hf c List.mem_cons_self
        exact ⟨by rw [upd_ne (Nat.ne_of_lt el)]; exact f0, fr⟩
      have up : ∀ c o, c ≠ e → h1.get? c = some o → h2.get? c = some o := fun c o hce y => (sb.2 c hce).trans (kp c o hce y)
      have nw2 : ObjOk X.prog X.w (upd (upd H s.heap.objs.size (.tup [xs[i], ys[i]])) (s.heap.objs.size + 1) (.tup [.int (i : Nat), .ref s.heap.objs.size])) h2 (s.heap.objs.size + 1) (.tup [.int (i : Nat), .ref s.heap.objs.size]) :=
        ⟨(by show (2 : Nat) ≤ sizeLine; decide), [.int i tk, .ref s.heap.objs.size], .cons ⟨_, rfl⟩ (.cons rfl .nil), ⟨_, tT, rfl, _, rfl⟩⟩
      have I2 : Inv X pins σ (upd (upd H s.heap.objs.size (.tup [xs[i], ys[i]])) (s.heap.objs.size + 1) (.tup [.int (i : Nat), .ref s.heap.objs.size])) { s with heap := h2, toks := tk + 1 } :=
        I1.turnedNew (ch := [e]) (fun c o nc y => up c o (fun e => nc (by simp [e])) y) hf1 (Nat.le_of_eq hsz) nw2
      have eI2 : IsTupOf2 h2 TI (.ref i1) (.ref i2) := up _ _ U.eTI.symm (k1 _ _ U.S.TIz U.S.TITO U.S.TIi1 U.S.TIi2 eI)
      refine ⟨.ref (s.heap.objs.size + 1), _, I2, rfl, ⟨s.heap.objs.size, s.heap.objs.size + 1, _, _, rfl, I.hok.fresh (Nat.le_refl _), I.hok.fresh (Nat.le_succ _), Nat.ne_of_lt (Nat.lt_succ_self _), rfl, fun zs hz => by rw [I.tuple_inj hz qx]; exact hx, fun zs hz => by rw [I.tuple_inj hz qy]; exact hy⟩,
        ⟨⟨.ref s.heap.objs.size, ?_⟩, ⟨a', f', up _ _ U.ez.symm z', ok'⟩, eI2, ⟨_, _, up _ _ U.eTO.symm o'⟩, z1.at fun o y => up _ o U.e1.symm y, z2.at fun o y => up _ o U.e2.symm y⟩, fun c hcm => ?_⟩
      · rw [show ((i + 1 : Nat) : Int) = (i : Int) + 1 by omega]
        exact e2
      · have := lt c hcm
        rw [upd_ne (Nat.ne_of_lt (Nat.lt_succ_of_lt this)), upd_ne (Nat.ne_of_lt this)]
        exact (hf c hcm).1
  done := by
    intro X hP hw hK hc i pins s σ H E I hf st g
    subst hP hw hK
    obtain ⟨⟨old, ee⟩, ⟨a0, f, ez, ok⟩, eI, ⟨x0, y0, eO⟩, j1, j2⟩ := st
    obtain ⟨xs, ys, qx, qy, l⟩ := g
    obtain ⟨us, rv, tp, _⟩ := I.tuple qx
    obtain ⟨us2, rv2, tp2, _⟩ := I.tuple qy
    have tp' : s.heap.IsTuple a us.toArray := tp
    have tq' : s.heap.IsTuple b us2.toArray := tp2
    have n1 : a ≠ i1 := by obtain ⟨o, eo, oc, _⟩ := id j1; exact other_cls tp' eo (by rw [oc]; decide +kernel)
    have n2 : b ≠ i2 := by obtain ⟨o, eo, oc, _⟩ := id j2; exact other_cls tq' eo (by rw [oc]; decide +kernel)
    have hd : X.A.in1.handled = none := I.ok.hd hc
    have r1 := rv.length
    have r2 := rv2.length
    refine eend (R := fun h1 => ∀ c o, c ≠ z → c ≠ TO → c ≠ i1 → c ≠ i2 → s.heap.get? c = some o → h1.get? c = some o) ee (fun Q' E' q => ?_) fun h' tk kp => ⟨rfl, ?_⟩
    · exact zstop U.S (Draws.tuple (A := X.A.in1.in1) hd i1 a n1 us.toArray) (Draws.tuple (A := X.A.in1.in1) hd i2 b n2 us2.toArray) ez ok eI eO ⟨j1, tp'⟩ ⟨j2, tq'⟩ (by simp; omega) (by simp; omega) (by simp; omega) fun h' tk e kp he => q h' tk e kp he
    · exact I.turnedL (t' := tk) (ch := [e, z, TI, TO, i1, i2]) (fun c o nc y => kp c o (fun e => nc (by simp [e])) (fun e => nc (by simp [e])) (fun e => nc (by simp [e])) (fun e => nc (by simp [e])) y) hf
  self := fun A i s Q E st h => wpAny_pyIter_enum st.1.choose_spec h
def iEnumZ (K : PySem.W.Frag) (ta : TA) : TI := fun σ H R => ta σ H fun vs H1 => ∃ a b xs ys, vs = [.ref a, .ref b] ∧ SqT K H1 a xs ∧ SqT K H1 b ys ∧ R (IteZ K a b) H1
/-- enumerate(zip(t, u)), t and u tuples -/
theorem pi_enumZ {X : Cx} {e e2 : Expr} {ta : TA} {p p2 pos pos2 tpos : Pos} {elts : List Expr} {kk : Nat} (hg : Gl X "enumerate") (hm : X.mg "enumerate" = none) (hg2 : Gl X "zip") (hm2 : X.mg "zip" = none) (ha : PA X [e, e2] ta)
    (hs1 : starEach [.Call (.Name "zip" p2) [e, e2] [] pos2] X.env = [(false, eval (.Call (.Name "zip" p2) [e, e2] [] pos2) X.env)] := by rfl)
    (hs : starEach [e, e2] X.env = (false, eval e X.env) :: starEach [e2] X.env := by rfl) (hpl : (backTo pos2 (starEach [e2] X.env)).any (·.1) = false := by rfl) :
    PI X (.Tuple elts kk tpos) (.Call (.Name "enumerate" p) [.Call (.Name "zip" p2) [e, e2] [] pos2] [] pos) (iEnumZ X.K ta) := by
  refine ⟨fun pins s σ H R I z => Call_ (ld_blt I hg hm PyProof.Rows.boot_enumerate (PyProof.Rows.callWith_type1 ?_ hs1 rfl))⟩
  rw [hs1]
  refine Calls.spliced_cons (Call_ (ld_blt I hg2 hm2 PyProof.Rows.boot_zip (PyProof.Rows.callWith_type1 (thn (ha.run pos2 pins s σ H _ I z) fun us s1 ⟨vs, H1, I1, r1, q1⟩ => ?_) hs hpl)))
  obtain ⟨a, b, xs, ys, rfl, qx, qy, q⟩ := q1
  obtain ⟨u, u', rfl, ru, ru'⟩ := vals2 r1
  obtain rfl : u = Value.ref a := ru
  obtain rfl : u' = Value.ref b := ru'
  obtain ⟨its, rv, tp, _⟩ := I1.tuple qx
  obtain ⟨its2, rv2, tp2, _⟩ := I1.tuple qy
  have al : a < s1.heap.objs.size := by obtain ⟨o, eo, _⟩ := id tp; exact Heap.lt_size eo
  have bl : b < s1.heap.objs.size := by obtain ⟨o, eo, _⟩ := id tp2; exact Heap.lt_size eo
  refine zip_begins2 (begins_tuple a its.toArray) (begins_tuple b its2.toArray) (show s1.heap.IsTuple a its.toArray from tp) (show s1.heap.IsTuple b its2.toArray from tp2) fun h' ez eI eO j1 j2 sz kp => ?_
  refine Calls.spliced_nil ?_
  refine enumZ_begins (s := { s1 with heap := h' }) ez fun h2 ie kp2 => wpAny_pyIter_enum ie ?_
  replace ie : IsEnum h2 h'.objs.size (s1.heap.objs.size + 4) 0 .none := ie
  rw [sz] at ie
  have I2 : Inv X pins σ H1 { s1 with heap := h2 } := I1.kept (t' := s1.toks) fun c o y => kp2 c o (kp c o y)
  have U : Apart6 (s1.heap.objs.size + 5) (s1.heap.objs.size + 4) (s1.heap.objs.size + 2) (s1.heap.objs.size + 3) s1.heap.objs.size (s1.heap.objs.size + 1) a b :=
    ⟨zip_sep2 (N := s1.heap.objs.size) (fp1 := [a]) (fp2 := [b]) (fun c y => by rw [List.mem_singleton.mp y]; exact al) (fun c y => by rw [List.mem_singleton.mp y]; exact bl), by simp, by simp, by simp, by simp, by simp, by simp⟩
  show PIE X pins σ (.Tuple elts kk tpos) R (.ref h'.objs.size) _
  rw [sz]
  refine ⟨s1.heap.objs.size + 5, [s1.heap.objs.size + 5, s1.heap.objs.size + 4, s1.heap.objs.size + 2, s1.heap.objs.size + 3, s1.heap.objs.size, s1.heap.objs.size + 1], _, _, H1, rfl, I2, turn_enumZ U,
    ⟨⟨.none, ie⟩, ⟨_, _, kp2 _ _ ez, .inl rfl⟩, kp2 _ _ eI, ⟨_, _, kp2 _ _ eO⟩, ⟨_, kp2 _ _ j1, rfl, rfl⟩, ⟨_, kp2 _ _ j2, rfl, rfl⟩⟩, fun c hcm => ?_, q⟩
  have le : s1.heap.objs.size ≤ c := by
    rcases in6 hcm with rfl | rfl | rfl | rfl | rfl | rfl <;> omega
  exact I1.fpOk le (I1.hok.fresh le)
def YZip (f g : Nat → Option V) (i : Nat) (H : Hp) (v : V) (H' : Hp) : Prop := ∃ T1 T2 x y, v = .ref T2 ∧ H T1 = none ∧ H T2 = none ∧ T1 ≠ T2 ∧ H' = upd (upd H T1 (.tup [x, y])) T2 (.tup [.int (i : Nat), .ref T1]) ∧ f i = some x ∧ g i = some y
theorem walk_enumZ {K : PySem.W.Frag} {a b : Addr} {xs ys : List V} {n : Nat} (hn : n = min xs.length ys.length) : Walk (IteZ K a b) n (fun H => SqT K H a xs ∧ SqT K H b ys) (YZip (fun i => xs[i]?) (fun i => ys[i]?)) :=
  ⟨fun _ _ lt q => ⟨xs, ys, q.1, q.2, by omega, by omega⟩, fun _ q => ⟨xs, ys, q.1, q.2, hn⟩, fun i _ _ _ _ q y => by
    obtain ⟨T1, T2, x, u, e1, e2, e3, e4, e5, e6, e7⟩ := y
    exact ⟨T1, T2, x, u, e1, e2, e3, e4, e5, e6 xs q.1, e7 ys q.2⟩⟩
end Ft

set_option exponentiation.threshold 9000
namespace Ft
open PySem L2
def partsAt (b1 b2 : Int) (t1 t2 : List Int) (i : Nat) : Bool := decide (t1.getD i 0 * b2 ≠ t2.getD i 0 * b1)
def partsL (b1 b2 : Int) (t1 t2 : List Int) : List Nat := (List.range (min t1.length t2.length)).filter (partsAt b1 b2 t1 t2)
theorem range'_eq (n : Nat) : List.range n = List.range' 0 n := List.range_eq_range'
theorem parts_go {b1 b2 : Int} {t1 t2 : List Int} : ∀ (f i : Nat), ((List.range' i f).filter (partsAt b1 b2 t1 t2)).head? = apartGo b1 b2 t1 t2 f i
  | 0, _ => rfl
  | f + 1, i => by
    rw [List.range'_succ, List.filter_cons]
    show _ = if t1.getD i 0 * b2 = t2.getD i 0 * b1 then apartGo b1 b2 t1 t2 f (i + 1) else some i
    by_cases h : t1.getD i 0 * b2 = t2.getD i 0 * b1
    · rw [if_pos h, if_neg (by unfold partsAt; rw [decide_eq_false (fun z => z h)]; decide)]
      exact parts_go f (i + 1)
    · rw [if_neg h, if_pos (by unfold partsAt; exact decide_eq_true h)]
      rfl
theorem parts_head (b1 b2 : Int) (t1 t2 : List Int) : (partsL b1 b2 t1 t2).head? = apart b1 b2 t1 t2 := by
  unfold partsL apart
  rw [range'_eq]
  exact parts_go _ _
def sp_lapart : Sp := fun vs H Q _ => ∃ u v b1 b2 t1 t2, vs = [u, v] ∧ Bg H u b1 t1 ∧ Bg H v b2 t2 ∧ BgOk b1 t1 ∧ BgOk b2 t2 ∧ Le (10 ^ 30) b1 t1 ∧ Le (10 ^ 30) b2 t2 ∧ ∀ H', Same H H' → Q (optV (apart b1 b2 t1 t2)) H'
section
variable {P : Program} {w : World} {K : PySem.W.Frag} {mg : Str → Option Value} {base : Heap}
theorem ok_lapart (D : Df K mg "_law_apart" s__law_apart ["_law_one", "_law_other"]) (B : Bi mg)  : Cal P w K mg base 1 "_law_apart" sp_lapart := by
  obtain ⟨f, fd, F, m, b⟩ := D.ex
  have sc := sc__law_apart
  refine ⟨f, fd, _, F.ok sc (fun _ _ _ _ ⟨_, _, _, _, _, _, e, _⟩ => by rw [e]; rfl) (fun cdv A outer s H vs Q E hr h => ?_), m, F.kp, b⟩
  obtain ⟨u, v, b1, b2, t1, t2, rfl, hu, hv, o1, o2, y1, y2, q⟩ := h
  have h64 : (A.deeper (PyProof.Rows.envOfC "_law_apart" (defScope s__law_apart) s.heap.objs.size f cdv)).units + 64 < cLine := by have := hr.un; omega
  refine ⟨_, (pss_cons (ps_setLc (i := 5) (own := [("_law_n", 2), ("_law_x", 3), ("_law_y", 4)]) (g := gTup K 2 (gCons (gName 2) (gCons (gTup K 2 (gCons (gName 3) (gCons (gName 4) gNil))) gNil)))  (by rfl) sc.nd rfl rfl (sw_true rfl rfl rfl (by decide +kernel)) (pi_enumZ (by rfl) B.enumerate (by rfl) B.zip (pa_cons (pe_ix (show IxR _ (rIx K) from ix_seq) (pv 0) pe_int (fun _ _ => rfl)) (pa_cons (pe_ix (show IxR _ (rIx K) from ix_seq) (pv 1) pe_int (fun _ _ => rfl)) pa_nil))) (blkOk_by (own := [("_law_n", 2), ("_law_x", 3), ("_law_y", 4)]) (N := N__law_apart) (sc := defScope s__law_apart) (by decide +kernel)) (fun _ _ _ _ _ => (pg_tup rfl (pgs_cons (pg_name (i := 2) sc.nd rfl (Or.inl rfl) (Or.inr rfl)) (pgs_cons (pg_tup rfl (pgs_cons (pg_name (i := 3) sc.nd rfl (Or.inl rfl) (Or.inr rfl)) (pgs_cons (pg_name (i := 4) sc.nd rfl (Or.inl rfl) (Or.inr rfl)) pgs_nil))) pgs_nil)))) (fun _ _ _ _ _ => (pts_one (pt_cmpR op_ne (pe_op op_mulW (pv 3) (pe_ix (show IxR _ (rIx K) from ix_seq) (pv 1) pe_int (fun _ _ => rfl))) (pe_op op_mulW (pv 4) (pe_ix (show IxR _ (rIx K) from ix_seq) (pv 0) pe_int (fun _ _ => rfl))) (nomark _)))) (fun _ _ _ _ _ => (pv 2)))
      (pss_one (ps_ret (pe_ifExp (pt_cmpR (op_neD h64) (pv 5) (pe_lst pa_nil) (nomark _)) (pe_ix (show IxR _ (rIx K) from ix_seq) (pv 5) pe_int (fun _ _ => rfl)) pe_non)))), ?_⟩
  have l1 := y1.lt p1
  have l2 := y2.lt p1
  have a0 : ∀ {a c : V}, atI [a, c] 0 = some a := fun {a c} => atI_nat (j := 0) rfl
  have a1 : ∀ {a c : V}, atI [a, c] 1 = some c := fun {a c} => atI_nat (j := 1) rfl
  have ll1 : (t1.map V.int).length = t1.length := List.length_map ..
  have ll2 : (t2.map V.int).length = t2.length := List.length_map ..
  have n1 := o1.2.2
  have n2 := o2.2.2
  obtain ⟨p, r, rfl, hp, hrt⟩ := hu
  obtain ⟨p', r', rfl, hp', hrt'⟩ := hv
  refine ⟨_, rfl, .inr (.inl ⟨p, _, 1, _, rfl, rfl, SqT.of hp, a1, _, rfl, .inr (.inl ⟨p', _, 1, _, rfl, rfl, SqT.of hp', a1, r, r', _, _, rfl, SqT.of hrt, SqT.of hrt', fun D1 hD1 => ?_⟩)⟩)⟩
  refine lc_it (walk_enumZ (xs := t1.map V.int) (ys := t2.map V.int) (n := min t1.length t2.length) (by rw [ll1, ll2])) (fun i H' => Same H H' ∧ H' D1 = some (.lst (((List.range i).filter (partsAt b1 b2 t1 t2)).map fun n : Nat => V.int (n : Int)))) ⟨Same.upd_new hD1, upd_same⟩ (fun i H' _ ⟨k2, _⟩ => ⟨SqT.of (k2 _ _ hrt), SqT.of (k2 _ _ hrt')⟩) ?_ ?_
  · rintro i x0 H3 H4 hi ⟨k3, h3⟩ ⟨T1, T2, x, y, rfl, hT1, hT2, hne, rfl, hx, hy⟩
    obtain rfl : x = V.int (t1.getD i 0) := Option.some.inj (hx.symm.trans (getD_at (by omega)))
    obtain rfl : y = V.int (t2.getD i 0) := Option.some.inj (hy.symm.trans (getD_at (by omega)))
    have k4 : Same H3 (upd H3 T1 (.tup [V.int (t1.getD i 0), V.int (t2.getD i 0)])) := Same.upd_new hT1
    have hT2' : (upd H3 T1 (.tup [V.int (t1.getD i 0), V.int (t2.getD i 0)])) T2 = none := by rw [upd_ne hne.symm]; exact hT2
    have k5 : Same (upd H3 T1 (.tup [V.int (t1.getD i 0), V.int (t2.getD i 0)])) (upd (upd H3 T1 (.tup [V.int (t1.getD i 0), V.int (t2.getD i 0)])) T2 (.tup [V.int (i : Nat), .ref T1])) := Same.upd_new hT2'
    have g1 : (upd H3 T1 (.tup [V.int (t1.getD i 0), V.int (t2.getD i 0)])) T1 = some (.tup [V.int (t1.getD i 0), V.int (t2.getD i 0)]) := upd_same
    have g2 := k5 _ _ g1
    have k45 := k4.trans k5
    refine ⟨T2, _, rfl, SqT.of upd_same, rfl, ?_⟩
    refine ⟨_, _, rfl, _, _, rfl, T1, _, rfl, SqT.of g2, rfl, ?_⟩
    refine ⟨_, _, rfl, _, _, rfl, rfl, rfl, ?_⟩
    have kp := k45 _ _ (k3 _ _ hp)
    have kp' := k45 _ _ (k3 _ _ hp')
    have h5 := k45 _ _ h3
    refine ⟨rfl, _, rfl, _, rfl, .inr (.inl ⟨p', _, 0, _, rfl, rfl, SqT.of kp', a0, _, _, rfl, rfl, mul2 (getD_lt l1.2 i) l2.1, ?_⟩)⟩
    refine ⟨_, rfl, _, rfl, .inr (.inl ⟨p, _, 0, _, rfl, rfl, SqT.of kp, a0, _, _, rfl, rfl, mul2 (getD_lt l2.2 i) l1.1, rfl, _, rfl, ifNI (fun e => ?_) fun e => ?_⟩)⟩
    · refine ⟨_, rfl, _, h5, ?_, fun b o e => ?_, ?_⟩
      · rw [List.length_map]
        exact Nat.lt_of_le_of_lt (Nat.le_trans (filter_len _ _) (by omega : i ≤ 400)) (by decide)
      · rw [upd_ne (ne_of_none e hD1)]
        exact k45 _ _ (k3 _ _ e)
      · rw [upd_same, filter_succ, if_pos (by unfold partsAt; exact decide_eq_true e), List.map_append]
        rfl
    · refine ⟨k3.trans k45, ?_⟩
      rw [h5, filter_succ, if_neg (by unfold partsAt; rw [decide_eq_false (fun z => z e)]; decide), List.append_nil]
  · rintro H3 ⟨k3, h3⟩
    dsimp only [gName]
    have h3' : H3 D1 = some (.lst (((partsL b1 b2 t1 t2).map fun n : Nat => (n : Int)).map V.int)) := by rw [h3, List.map_map]; rfl
    refine ⟨_, rfl, Nat.zero_le _, fun p2 hp2 => ?_⟩
    have s4 : Same H3 (upd H3 p2 (.lst [])) := Same.upd_new hp2
    refine ⟨_, _, .lst (SqL.of (s4 _ _ h3')) (dp_ints _), .lst (SqL.of upd_same) .nil, ?_, by decide, _, rfl, ?_⟩
    · exact shaped_ints _
    rw [eqv_nil]
    have hh := parts_head b1 b2 t1 t2
    have qq := q _ (k3.trans s4)
    cases hs : partsL b1 b2 t1 t2 with
    | nil =>
      rw [hs] at hh
      have hO : apart b1 b2 t1 t2 = none := hh.symm
      rw [hO] at qq
      exact iteF qq
    | cons m rest =>
      rw [hs] at hh h3'
      have hO : apart b1 b2 t1 t2 = some m := hh.symm
      rw [hO] at qq
      have hg : ((((m :: rest : List Nat).map fun n : Nat => (n : Int)).map V.int))[0]? = some (V.int (m : Int)) := rfl
      exact iteT ⟨_, rfl, .inl ⟨D1, _, _, _, rfl, rfl, SqL.of (s4 _ _ h3'), atI_nat (j := 0) hg, qq⟩⟩
end
end Ft

set_option exponentiation.threshold 9000
namespace Ft
open PySem L2
theorem kb_added {K : PySem.W.Frag} {f : Addr} {fd : FuncData} (F : Fun K "added" "added" s_added f fd) : KBinds K fd ["one", "other"] ["other", "one"] swapU swapV := by
  obtain ⟨oc, od, kV, doc, pm, an, cdv, ct, osl, rfl, lk, hcd⟩ := F.ex
  refine ⟨fun s us ws _ hl => ?_, swap_rel⟩
  match us, ws, hl with
  | [], [a, b], _ => exact .of_eq rfl
theorem kb_multiplied {K : PySem.W.Frag} {f : Addr} {fd : FuncData} (F : Fun K "multiplied" "multiplied" s_multiplied f fd) : KBinds K fd ["one", "other"] ["other", "one"] swapU swapV := by
  obtain ⟨oc, od, kV, doc, pm, an, cdv, ct, osl, rfl, lk, hcd⟩ := F.ex
  refine ⟨fun s us ws _ hl => ?_, swap_rel⟩
  match us, ws, hl with
  | [], [a, b], _ => exact .of_eq rfl
theorem kb_first_apart {K : PySem.W.Frag} {f : Addr} {fd : FuncData} (F : Fun K "first_apart" "first_apart" s_first_apart f fd) : KBinds K fd ["one", "other"] ["other", "one"] swapU swapV := by
  obtain ⟨oc, od, kV, doc, pm, an, cdv, ct, osl, rfl, lk, hcd⟩ := F.ex
  refine ⟨fun s us ws _ hl => ?_, swap_rel⟩
  match us, ws, hl with
  | [], [a, b], _ => exact .of_eq rfl
theorem kb_times {K : PySem.W.Frag} {f : Addr} {fd : FuncData} (F : Fun K "times" "times" s_times f fd) : KBinds K fd ["beginning", "number"] ["number", "beginning"] swapU swapV := by
  obtain ⟨oc, od, kV, doc, pm, an, cdv, ct, osl, rfl, lk, hcd⟩ := F.ex
  refine ⟨fun s us ws _ hl => ?_, swap_rel⟩
  match us, ws, hl with
  | [], [a, b], _ => exact .of_eq rfl
theorem catA_all {K : PySem.W.Frag} {H : Hp} {a b : Addr} {xs ys : List V} {M : VK} (ha : H a = some (.tup xs)) (hb : H b = some (.tup ys)) (hl : xs.length + ys.length ≤ sizeLine) (m : ∀ H1 q, Same H H1 → H1 q = some (.tup (xs ++ ys)) → M (.ref q) H1) : rCatA K (.ref a) (.ref b) H M :=
  ⟨a, b, xs, ys, rfl, rfl, SqT.of ha, SqT.of hb, hl, fun e => m H b (Same.refl H) (by rw [hb, e]; rfl), fun _ e => m H a (Same.refl H) (by rw [ha, e, List.append_nil]), fun _ _ p hp => m _ p (Same.upd_new hp) upd_same⟩
theorem slA_gen {K : PySem.W.Frag} {H : Hp} {a : Addr} {xs : List V} {lo hi : Option Int} {M : VK} (h : H a = some (.tup xs)) (m : ∀ H1 q, Same H H1 → H1 q = some (.tup (cutV xs lo hi)) → M (.ref q) H1) : rSlA K (.ref a) lo hi H M :=
  ⟨a, xs, rfl, SqT.of h, fun hw => m H a (Same.refl H) (by
    rw [h]
    congr 2
    unfold cutV
    rw [hw.1, hw.2, List.drop_zero, Nat.sub_zero, List.take_of_length_le (Nat.le_refl _)]), fun _ p hp => m _ p (Same.upd_new hp) upd_same⟩
theorem cut_take (xs : List V) (k : Nat) : cutV xs none (some (k : Int)) = xs.take k := by
  unfold cutV
  rw [HT.sIx_none, HT.sIx_nat, List.drop_zero, Nat.sub_zero]
  rcases Nat.le_total k xs.length with h | h
  · rw [Nat.min_eq_left h]
  · rw [Nat.min_eq_right h, List.take_of_length_le (Nat.le_refl _), List.take_of_length_le h]
theorem cut_drop (xs : List V) (k : Nat) : cutV xs (some (k : Int)) none = xs.drop k := by
  unfold cutV
  rw [HT.sIx_none, HT.sIx_nat]
  rcases Nat.le_total k xs.length with h | h
  · rw [Nat.min_eq_left h, List.take_of_length_le (by rw [List.length_drop]; exact Nat.le_refl _)]
  · rw [Nat.min_eq_right h, Nat.sub_self, List.take_zero, List.drop_eq_nil_of_le h]
def optD : Option Nat → PyData
  | none => .none
  | some n => .int (n : Int)
theorem dp_opt {K : PySem.W.Frag} {H : Hp} : ∀ o : Option Nat, Dp K H (optV o) (optD o)
  | none => .non
  | some n => .int _
def quad (p1 p2 p3 : Int × List Int) (o : Option Nat) : PyData := .tuple [bgL p1, bgL p2, bgL p3, optD o]
def duo (p1 p2 : Int × List Int) (o o' : Option Nat) : PyData := .tuple [bgL p1, bgL p2, optD o, optD o']
theorem dp_quad {K : PySem.W.Frag} {H : Hp} {q : Addr} {v1 v2 v3 : V} {p1 p2 p3 : Int × List Int} {o : Option Nat} (h : H q = some (.tup [v1, v2, v3, optV o])) (h1 : Bg H v1 p1.1 p1.2) (h2 : Bg H v2 p2.1 p2.2) (h3 : Bg H v3 p3.1 p3.2) : Dp K H (.ref q) (quad p1 p2 p3 o) :=
  .tup (SqT.of h) (.cons (dp_bg h1) (.cons (dp_bg h2) (.cons (dp_bg h3) (.cons (dp_opt o) .nil))))
theorem dp_duo {K : PySem.W.Frag} {H : Hp} {q : Addr} {v1 v2 : V} {p1 p2 : Int × List Int} {o o' : Option Nat} (h : H q = some (.tup [v1, v2, optV o, optV o'])) (h1 : Bg H v1 p1.1 p1.2) (h2 : Bg H v2 p2.1 p2.2) : Dp K H (.ref q) (duo p1 p2 o o') :=
  .tup (SqT.of h) (.cons (dp_bg h1) (.cons (dp_bg h2) (.cons (dp_opt o) (.cons (dp_opt o') .nil))))
/-- an optional place is short -/
def OptOk (o : Option Nat) : Prop := ∀ n, o = some n → n ≤ 400
theorem opt_ok {o : Option Nat} (h : OptOk o) : (optD o).leavesShort 100 = true ∧ (optD o).showable = true ∧ (optD o).hasDict = false ∧ (optD o).depth = 0 ∧ (optD o).bulk = 0 := by
  cases o with
  | none => exact ⟨by decide +kernel, by decide +kernel, rfl, rfl, by decide +kernel⟩
  | some n =>
    have hn := h n rfl
    have hb : ((n : Int)).natAbs < 2 ^ 250 := Nat.lt_of_le_of_lt (by omega : _ ≤ 400) (by decide)
    exact ⟨int_short hb, int_showable hb, rfl, rfl, by simp only [optD, PyData.bulk]⟩
theorem rep_quad {p1 p2 p3 : Int × List Int} {o : Option Nat} (h1 : BgS p1.1 p1.2) (h2 : BgS p2.1 p2.2) (h3 : BgS p3.1 p3.2) (ho : OptOk o) : RepOk (quad p1 p2 p3 o) := by
  obtain ⟨q1, q2, q3, q4, q5⟩ := opt_ok ho
  have e : sizeLine = 16777216 := by decide
  refine ⟨?_, ?_, ?_, ?_⟩
  · simp only [quad, bgL, PyData.showable, PyData.showableAll, Bool.and_eq_true, Bool.and_true, bgD_showable h1, bgD_showable h2, bgD_showable h3, q2, and_self]
  · simp only [quad, bgL, PyData.hasDict, PyData.hasDictAll, bgD_dict, q3, Bool.or_self]
  · simp only [quad, bgL, PyData.depth, PyData.depthAll, bgD_depth, q4]
    decide
  · have l := PyData.shown_le_bulk 100 (by decide) (quad p1 p2 p3 o) (by simp only [quad, bgL, PyData.leavesShort, PyData.leavesShortAll, Bool.and_eq_true, Bool.and_true, bgD_short h1, bgD_short h2, bgD_short h3, q1, and_self])
    have b : (quad p1 p2 p3 o).bulk ≤ 4000 := by
      simp only [quad, bgL, PyData.bulk, PyData.bulkAll, bgD_bulk, q5]
      have := h1.len; have := h2.len; have := h3.len
      omega
    omega
theorem rep_duo {p1 p2 : Int × List Int} {o o' : Option Nat} (h1 : BgS p1.1 p1.2) (h2 : BgS p2.1 p2.2) (ho : OptOk o) (ho' : OptOk o') : RepOk (duo p1 p2 o o') := by
  obtain ⟨q1, q2, q3, q4, q5⟩ := opt_ok ho
  obtain ⟨r1, r2, r3, r4, r5⟩ := opt_ok ho'
  have e : sizeLine = 16777216 := by decide
  refine ⟨?_, ?_, ?_, ?_⟩
  · simp only [duo, bgL, PyData.showable, PyData.showableAll, Bool.and_eq_true, Bool.and_true, bgD_showable h1, bgD_showable h2, r2, q2, and_self]
  · simp only [duo, bgL, PyData.hasDict, PyData.hasDictAll, bgD_dict, q3, r3, Bool.or_self]
  · simp only [duo, bgL, PyData.depth, PyData.depthAll, bgD_depth, q4, r4]
    decide
  · have l := PyData.shown_le_bulk 100 (by decide) (duo p1 p2 o o') (by simp only [duo, bgL, PyData.leavesShort, PyData.leavesShortAll, Bool.and_eq_true, Bool.and_true, bgD_short h1, bgD_short h2, r1, q1, and_self])
    have b : (duo p1 p2 o o').bulk ≤ 4000 := by
      simp only [duo, bgL, PyData.bulk, PyData.bulkAll, bgD_bulk, q5, r5]
      have := h1.len; have := h2.len
      omega
    omega
theorem rep_fr {K : PySem.W.Frag} {H : Hp} {u : V} {x : Fq} {Q : VK} (g : Fr H u x) (h1 : x.1.natAbs < 2 ^ 250) (h2 : x.2.natAbs < 2 ^ 250) (q : ∀ z, z = (PyData.tuple [.int x.1, .int x.2]).shown → Q (.str z) H) : rRepr K [u] H Q := by
  obtain ⟨t, rfl, ht⟩ := g
  have e : sizeLine = 16777216 := by decide
  have d : Dp K H (.ref t) (.tuple [.int x.1, .int x.2]) := .tup (SqT.of ht) (.cons (.int _) (.cons (.int _) .nil))
  refine ⟨t, _, rfl, d, ?_, ?_, ?_, ?_, q _ rfl⟩
  · simp only [PyData.showable, PyData.showableAll, Bool.and_eq_true, Bool.and_true]
    exact ⟨by have := int_showable h1; simpa only [PyData.showable] using this, by have := int_showable h2; simpa only [PyData.showable] using this⟩
  · rfl
  · show max 0 (max 0 0) + 1 ≤ 64
    decide
  · have l := PyData.shown_le_bulk 100 (by decide) (PyData.tuple [.int x.1, .int x.2]) (by
      simp only [PyData.leavesShort, PyData.leavesShortAll, Bool.and_eq_true, Bool.and_true]
      exact ⟨by have := int_short h1; simpa only [PyData.leavesShort] using this, by have := int_short h2; simpa only [PyData.leavesShort] using this⟩)
    simp only [PyData.bulk, PyData.bulkAll] at l
    omega
theorem Bg.but {H H' : Hp} {d l : Addr} {v : V} {b : Int} {ts : List Int} (D : DeckAt H d l) (bt : But d l H H') (h : Bg H v b ts) : Bg H' v b ts := by
  obtain ⟨p, q, e, h1, h2⟩ := h
  obtain ⟨mx, dr, cs, d1, d2, _⟩ := D
  exact ⟨p, q, e, bt _ _ h1 (ne_of h1 d1 (by intro z; cases z)) (ne_of h1 d2 (by intro z; cases z)), bt _ _ h2 (ne_of h2 d1 (by intro z; cases z)) (ne_of h2 d2 (by intro z; cases z))⟩
theorem But.tup {H H' : Hp} {d l p : Addr} {xs : List V} (D : DeckAt H d l) (b : But d l H H') (h : H p = some (.tup xs)) : H' p = some (.tup xs) := by
  obtain ⟨mx, dr, cs, d1, d2, _⟩ := D
  exact b _ _ h (ne_of h d1 (by intro z; cases z)) (ne_of h d2 (by intro z; cases z))
end Ft

set_option exponentiation.threshold 9000
namespace Ft
open PySem L2
theorem tim_use {H : Hp} {u v : V} {b : Int} {t : List Int} {x : Fq} {Q : VK} {M : Nat} (hu : Bg H u b t) (hv : Fr H v x) (o : BgOk b t) (l : Le M b t) (hM : M < 2 ^ 2000) (x1 : x.1.natAbs < 2 ^ 2000) (x2 : x.2.natAbs < 2 ^ 2000) (x0 : 1 ≤ x.2)
    (q : ∀ H' r, Same H H' → Bg H' r (lowB (b * x.2) (timL t x.1)) (lowT (b * x.2) (timL t x.1)) → Q r H') : sp_times [u, v] H Q E0 :=
  ⟨u, v, b, t, x, rfl, hu, hv, o, x0, (l.lt hM).1, x1, x2, (l.lt hM).2, q⟩
theorem up8 {b : Int} {t : List Int} {M : Nat} (l : Le M b t) (hM : M < 2 ^ 2000) : b.natAbs < 2 ^ 8000 ∧ ∀ x ∈ t, x.natAbs < 2 ^ 8000 := by
  have k : ∀ {c : Nat}, c < 2 ^ 2000 → c < 2 ^ 8000 := fun h => Nat.lt_trans h (Nat.pow_lt_pow_right (by decide) (by decide))
  exact ⟨k (l.lt hM).1, fun x hx => k ((l.lt hM).2 x hx)⟩
def sp_law (K : PySem.W.Frag) : Sp := fun vs H Q _ => ∃ (a : Addr) (ns : List Int), vs = [.ref a] ∧ SqL K H a (ns.map V.int) ∧ ns.length ≤ 63 ∧ ∀ H', Q (.bl true) H'
theorem apart_lt {b1 b2 : Int} {t1 t2 : List Int} {n : Nat} : ∀ (f i : Nat), apartGo b1 b2 t1 t2 f i = some n → n < i + f
  | 0, _, h => by cases h
  | f + 1, i, h => by
    replace h : (if t1.getD i 0 * b2 = t2.getD i 0 * b1 then apartGo b1 b2 t1 t2 f (i + 1) else some i) = some n := h
    by_cases k : t1.getD i 0 * b2 = t2.getD i 0 * b1
    · rw [if_pos k] at h
      have := apart_lt f (i + 1) h
      omega
    · rw [if_neg k] at h
      cases h
      omega
theorem apart_opt {b1 b2 : Int} {t1 t2 : List Int} (h : t1.length ≤ 400) : OptOk (apart b1 b2 t1 t2) := fun n e => by
  have := apart_lt _ _ e
  omega
theorem p6 : 7 * 10 ^ 30 < 2 ^ 2000 := by decide
theorem ok_sc {b : Int} {t : List Int} {e : Nat} (h : BgOk b t) (he : 1 ≤ e) : BgOk ((e : Int) * b) (Ft.sc (e : Int) t) := by
  have p := Int.mul_pos (show (0 : Int) < (e : Int) by omega) (show 0 < b by have := h.1; omega)
  exact ⟨by omega, by rw [sc_len]; exact h.2.1, by rw [sc_len]; exact h.2.2⟩
theorem le_sc {b : Int} {t : List Int} {e : Nat} (h : Le (10 ^ 30) b t) (he : e ≤ 7) : Le (7 * 10 ^ 30) ((e : Int) * b) (Ft.sc (e : Int) t) := by
  refine ⟨?_, fun x hx => ?_⟩
  · rw [Int.natAbs_mul, Int.natAbs_natCast]
    exact Nat.mul_le_mul he h.b
  · obtain ⟨y, hy, rfl⟩ := List.mem_map.mp hx
    rw [Int.natAbs_mul, Int.natAbs_natCast]
    exact Nat.mul_le_mul he (h.t y hy)
theorem form_bg {H : Hp} {v : V} {b : Int} {t : List Int} {e : Nat} (h : Bg H v (b * (e : Int)) (t.map fun x => x * (e : Int))) : Bg H v ((e : Int) * b) (Ft.sc (e : Int) t) := by
  rw [Int.mul_comm] at h
  have k : (t.map fun x => x * (e : Int)) = Ft.sc (e : Int) t := List.map_congr_left fun x _ => Int.mul_comm _ _
  rw [k] at h
  exact h
def stt (a d : Addr) (many i : Nat) (u1 u2 u3 : V) (pn : Addr) (F : Nat) (pd qt : Addr) (near far : V) (o15 o16 o17 o18 o19 : Option V) : L2.St :=
  [some (.ref a), some (.ref d), some (.int (many : Int)), some (.int (0 + (i : Int))), some u1, some u2, some u3, some (.ref pn), some (.int ((i % 2 : Nat) : Int)), some (.int (F : Int)), some (.ref pd), some (.ref qt), none, some near, some far, o15, o16, o17, o18, o19]
/-- what stands behind the first eight statements of a turn -/
structure Half (H : Hp) (d l : Addr) (u1 u2 u3 near : V) (pn pd : Addr) (e1 e2 e3 : V) (b1 b2 b3 : Int) (t1 t2 t3 : List Int) (x1 xd : Int) (F c : Nat) : Prop where
  D : DeckAt H d l
  due : H pd = some (.tup [e1, e2, e3, optV (apart b1 b2 t1 t2)])
  g1 : Bg H u1 b1 t1
  g2 : Bg H u2 b2 t2
  g3 : Bg H u3 b3 t3
  o1 : BgOk b1 t1
  o2 : BgOk b2 t2
  o3 : BgOk b3 t3
  l1 : Le (10 ^ 30) b1 t1
  l2 : Le (10 ^ 30) b2 t2
  l3 : Le (10 ^ 30) b3 t3
  fr : Fr H (.ref pn) (x1, xd)
  xb : x1.natAbs < 1000000000000000000000000000000
  xd1 : 1 ≤ xd
  xd2 : xd ≤ 21
  F1 : 2 ≤ F
  F2 : F ≤ 6
  c1 : 1 ≤ c
  c2 : c ≤ 7
  k1 : Bg H e1 (lowB (b1 * b2) (addL b1 t1 b2 t2)) (lowT (b1 * b2) (addL b1 t1 b2 t2))
  k2 : Bg H e2 (lowB (b1 * b2) (mulL t1 t2)) (lowT (b1 * b2) (mulL t1 t2))
  k3 : Bg H e3 (lowB (b1 * xd) (timL t1 x1)) (lowT (b1 * xd) (timL t1 x1))
  gn : Bg H near ((c : Int) * b1) (Ft.sc (c : Int) t1)
def HalfJ (a d l : Addr) (many i : Nat) (σ : L2.St) (H : Hp) : Prop := ∃ u1 u2 u3 near far pn pd qt e1 e2 e3 b1 b2 b3 t1 t2 t3 x1 xd F c o15 o16 o17 o18 o19,
  σ = stt a d many i u1 u2 u3 pn F pd qt near far o15 o16 o17 o18 o19 ∧ Half H d l u1 u2 u3 near pn pd e1 e2 e3 b1 b2 b3 t1 t2 t3 x1 xd F c
section
variable {P : Program} {w : World} {K : PySem.W.Frag} {mg : Str → Option Value} {base : Heap}
set_option maxHeartbeats 0 in
theorem fn_law {f : Addr} {fd : FuncData} (F : Fun K "law" "law" s_law f fd) (B : Bi mg) (c__law_deck : Cal P w K mg base 1 "_law_deck" (sp_deck K)) (c__law_draw : Cal P w K mg base 1 "_law_draw" sp_draw) (c__law_beginning : Cal P w K mg base 3 "_law_beginning" sp_beg) (c__law_integer : Cal P w K mg base 2 "_law_integer" sp_integer)
    (c__law_apart : Cal P w K mg base 1 "_law_apart" sp_lapart) (c__law_times : Cal P w K mg base 3 "_law_times" sp_times) (c__law_multiplied : Cal P w K mg base 3 "_law_multiplied" (sp_bin fun _ t1 _ t2 => mulL t1 t2)) (c__law_added : Cal P w K mg base 3 "_law_added" (sp_bin addL))
    (c_first_apart : Cal P w K mg base 5 "first_apart" sp_apart) (c_times : Cal P w K mg base 6 "times" sp_times) (c_multiplied : Cal P w K mg base 5 "multiplied" (sp_bin fun _ t1 _ t2 => mulL t1 t2)) (c_added : Cal P w K mg base 5 "added" (sp_bin addL))
    (k_first_apart : CalK P w K mg base 5 "first_apart" ["other", "one"] swapV sp_apart) (k_times : CalK P w K mg base 6 "times" ["number", "beginning"] swapV sp_times) (k_multiplied : CalK P w K mg base 5 "multiplied" ["other", "one"] swapV (sp_bin fun _ t1 _ t2 => mulL t1 t2)) (k_added : CalK P w K mg base 5 "added" ["other", "one"] swapV (sp_bin addL))
    (c_is_beginning : Cal P w K mg base 3 "is_beginning" sp_isBeg) (c__law_other_form : Cal P w K mg base 1 "_law_other_form" sp_form) (c__law_common : Cal P w K mg base 1 "_law_common" sp_com) (c_term_at : Cal P w K mg base 5 "term_at" sp_termAt) (c__law_is_short : Cal P w K mg base 1 "_law_is_short" sp_short) (c_grouped : CalG P w K mg base 6 "_law_is_grouped" sp_grouped) :
    FnG P w K mg base 7 f fd ["_law_script"] (sp_law K) := by
  have sc := sc_law
  refine fun_g F sc (fun _ _ _ _ ⟨_, _, e, _⟩ => by rw [e]; rfl) (fun cdv A outer s H vs Q E hgd hr h => ?_)
  obtain ⟨a, ns, rfl, hS, hlen, q⟩ := h
  have h64 : (A.deeper (PyProof.Rows.envOfC "law" (defScope s_law) s.heap.objs.size f cdv)).units + 64 < cLine := by have := hr.un; omega
  refine ⟨_, (pss_cons (ps_set (i := 1) sc.nd rfl (Or.inl rfl) (pe_c c__law_deck hr (by decide) (by rfl) (pa_cons (pv 0) pa_nil)))
      (pss_cons (ps_set (i := 2) sc.nd rfl (Or.inl rfl) (pe_ifExp (pt_cmpR op_eq (pe_c c__law_draw hr (by decide) (by rfl) (pa_cons (pv 1) (pa_cons pe_int pa_nil))) pe_int (nomark _)) pe_int pe_int))
      (pss_cons (ps_for PassesOwn.never rfl (pi_range1 rfl B.range (pa_cons (pe_ifExp (pt_cmpR op_gt (pv 2) pe_int (nomark _)) pe_int pe_int) pa_nil)) (pg_name (i := 3) sc.nd rfl (Or.inl rfl))
      (pss_cons (ps_par3 (i := 4) (j := 5) (l := 6) (by rfl) sc.nd rfl rfl rfl (by decide) (by decide) (by decide) rfl rfl rfl (pa_cons (pe_c c__law_beginning hr (by decide) (by rfl) (pa_cons (pv 1) (pa_cons (pv 2) pa_nil))) (pa_cons (pe_c c__law_beginning hr (by decide) (by rfl) (pa_cons (pv 1) (pa_cons (pv 2) pa_nil))) (pa_cons (pe_c c__law_beginning hr (by decide) (by rfl) (pa_cons (pv 1) (pa_cons pe_int pa_nil))) pa_nil))) (by rfl))
        (pss_cons (ps_set (i := 7) sc.nd rfl (Or.inl rfl) (pe_tup (pa_cons (pe_c c__law_integer hr (by decide) (by rfl) (pa_cons (pv 1) (pa_cons (pe_c c__law_draw hr (by decide) (by rfl) (pa_cons (pv 1) (pa_cons pe_int pa_nil))) pa_nil))) (pa_cons (pe_op op_add pe_int (pe_callB call_abs (by rfl) B.abs (by decide +kernel) (pa_cons (pe_c c__law_integer hr (by decide) (by rfl) (pa_cons (pv 1) (pa_cons (pe_c c__law_draw hr (by decide) (by rfl) (pa_cons (pv 1) (pa_cons pe_int pa_nil))) pa_nil))) pa_nil))) pa_nil))))
        (pss_cons (ps_par (i := 8) (j := 9) (by rfl) sc.nd rfl rfl (by decide) rfl rfl (pa_cons (pe_op op_odd (pv 3) pe_int) (pa_cons (pe_op op_add pe_int (pe_c c__law_draw hr (by decide) (by rfl) (pa_cons (pv 1) (pa_cons pe_int pa_nil)))) pa_nil)) (by rfl))
        (pss_cons (ps_set (i := 10) sc.nd rfl (Or.inl rfl) (pe_tup (pa_cons (pe_c c__law_added hr (by decide) (by rfl) (pa_cons (pv 4) (pa_cons (pv 5) pa_nil))) (pa_cons (pe_c c__law_multiplied hr (by decide) (by rfl) (pa_cons (pv 4) (pa_cons (pv 5) pa_nil))) (pa_cons (pe_c c__law_times hr (by decide) (by rfl) (pa_cons (pv 4) (pa_cons (pv 7) pa_nil))) (pa_cons (pe_c c__law_apart hr (by decide) (by rfl) (pa_cons (pv 4) (pa_cons (pv 5) pa_nil))) pa_nil))))))
        (pss_cons (ps_if (pt_cmpR op_eq (pv 8) pe_int (nomark _))
        (pss_one (ps_set (i := 11) sc.nd rfl (Or.inl rfl) (pe_tup (pa_cons (pe_c c_added hr (by decide) (by rfl) (pa_cons (pv 4) (pa_cons (pv 5) pa_nil))) (pa_cons (pe_c c_multiplied hr (by decide) (by rfl) (pa_cons (pv 4) (pa_cons (pv 5) pa_nil))) (pa_cons (pe_c c_times hr (by decide) (by rfl) (pa_cons (pv 4) (pa_cons (pv 7) pa_nil))) (pa_cons (pe_c c_first_apart hr (by decide) (by rfl) (pa_cons (pv 4) (pa_cons (pv 5) pa_nil))) pa_nil)))))))
        (pss_cons (ps_set (i := 11) sc.nd rfl (Or.inl rfl) (pe_tup (pa_cons (pe_k0 k_added hr (by decide) (by rfl) (pk_cons (pv 5) (pk_cons (pv 4) pk_nil))) (pa_cons (pe_k0 k_multiplied hr (by decide) (by rfl) (pk_cons (pv 5) (pk_cons (pv 4) pk_nil))) pa_nil))))
          (pss_one (ps_set (i := 11) sc.nd rfl (Or.inl rfl) (pe_op op_catA (pv 11) (pe_tup (pa_cons (pe_k0 k_times hr (by decide) (by rfl) (pk_cons (pv 7) (pk_cons (pv 4) pk_nil))) (pa_cons (pe_k0 k_first_apart hr (by decide) (by rfl) (pk_cons (pv 5) (pk_cons (pv 4) pk_nil))) pa_nil))))))))
        (pss_cons (ps_if (PW.pt (pw_or (pt_cmpR op_ne (pe_callB (call_repr hgd hr) (by rfl) B.repr (by decide +kernel) (pa_cons (pv 11) pa_nil)) (pe_callB (call_repr hgd hr) (by rfl) B.repr (by decide +kernel) (pa_cons (pv 10) pa_nil)) (nomark _)) (pw_or1 (pt_cmpR (op_neD h64) (pe_lc (own := [("_law_it", 12)]) (g := gName 12)  (by rfl) sc.nd (pi_tup (pe_slice sl_tupA (pv 11) po_none (po_some pe_int))) (blkOk_by (own := [("_law_it", 12)]) (N := N_law) (sc := defScope s_law) (by decide +kernel)) (fun _ _ _ _ _ => (pg_name (i := 12) sc.nd rfl (Or.inl rfl))) (fun _ _ _ _ _ => (pts_one (pt_cmpR op_notBl (pe_c c_is_beginning hr (by decide) (by rfl) (pa_cons (pv 12) pa_nil)) pe_bl (nomark _)))) (fun _ _ _ _ _ => (pv 12))) (pe_lst pa_nil) (nomark _)))))
        (pss_one (ps_ret pe_bl))
        pss_nil)
        (pss_cons (ps_par (i := 13) (j := 14) (by rfl) sc.nd rfl rfl (by decide) rfl rfl (pa_cons (pe_c c__law_other_form hr (by decide) (by rfl) (pa_cons (pv 4) (pa_cons (pv 9) pa_nil))) (pa_cons (pe_c c__law_other_form hr (by decide) (by rfl) (pa_cons (pv 5) (pa_cons (pe_op op_add (pv 9) pe_int) pa_nil))) pa_nil)) (by rfl))
        (pss_cons (ps_if (pt_cmpR op_ne (pe_callB (call_repr hgd hr) (by rfl) B.repr (by decide +kernel) (pa_cons (pe_tup (pa_cons (pe_c c_added hr (by decide) (by rfl) (pa_cons (pv 14) (pa_cons (pv 13) pa_nil))) (pa_cons (pe_c c_multiplied hr (by decide) (by rfl) (pa_cons (pv 14) (pa_cons (pv 13) pa_nil))) (pa_cons (pe_c c_first_apart hr (by decide) (by rfl) (pa_cons (pv 14) (pa_cons (pv 13) pa_nil))) (pa_cons (pe_c c_first_apart hr (by decide) (by rfl) (pa_cons (pv 4) (pa_cons (pv 13) pa_nil))) pa_nil))))) pa_nil)) (pe_callB (call_repr hgd hr) (by rfl) B.repr (by decide +kernel) (pa_cons (pe_tup (pa_cons (pe_ix (show IxR _ (rIx K) from ix_seq) (pv 10) pe_int (fun _ _ => rfl)) (pa_cons (pe_ix (show IxR _ (rIx K) from ix_seq) (pv 10) pe_int (fun _ _ => rfl)) (pa_cons (pe_ix (show IxR _ (rIx K) from ix_seq) (pv 10) pe_int (fun _ _ => rfl)) (pa_cons pe_non pa_nil))))) pa_nil)) (nomark _))
        (pss_one (ps_ret pe_bl))
        pss_nil)
        (pss_cons (ps_if (PW.pt (pw_and (pt_cmpR op_lt (pe_callB call_len_seq (by rfl) B.len_ (by decide +kernel) (pa_cons (pe_ix (show IxR _ (rIx K) from ix_seq) (pv 13) pe_int (fun _ _ => rfl)) pa_nil)) pe_int (nomark _)) (pw_and1 (pt_cmpR op_notN (pe_c c_first_apart hr (by decide) (by rfl) (pa_cons (pv 4) (pa_cons (pe_tup (pa_cons (pe_ix (show IxR _ (rIx K) from ix_seq) (pv 13) pe_int (fun _ _ => rfl)) (pa_cons (pe_op op_catA (pe_ix (show IxR _ (rIx K) from ix_seq) (pv 13) pe_int (fun _ _ => rfl)) (pe_tup (pa_cons pe_int pa_nil))) pa_nil))) pa_nil))) pe_non (nomark _)))))
        (pss_one (ps_ret pe_bl))
        pss_nil)
        (pss_cons (ps_set (i := 15) sc.nd rfl (Or.inl rfl) (pe_ifExp (pt_cmpR op_lt (pe_callB call_abs (by rfl) B.abs (by decide +kernel) (pa_cons (pe_ix (show IxR _ (rIx K) from ix_seq) (pv 7) pe_int (fun _ _ => rfl)) pa_nil)) (pe_op op_pow pe_int pe_int) (nomark _)) (pe_tup (pa_cons (pe_op op_mulW (pe_ix (show IxR _ (rIx K) from ix_seq) (pv 7) pe_int (fun _ _ => rfl)) (pv 9)) (pa_cons (pe_op op_mulW (pe_ix (show IxR _ (rIx K) from ix_seq) (pv 7) pe_int (fun _ _ => rfl)) (pv 9)) pa_nil))) (pv 7)))
        (pss_cons (ps_if (pt_cmpR op_ne (pe_callB (call_repr hgd hr) (by rfl) B.repr (by decide +kernel) (pa_cons (pe_c c_times hr (by decide) (by rfl) (pa_cons (pv 13) (pa_cons (pv 15) pa_nil))) pa_nil)) (pe_callB (call_repr hgd hr) (by rfl) B.repr (by decide +kernel) (pa_cons (pe_ix (show IxR _ (rIx K) from ix_seq) (pv 10) pe_int (fun _ _ => rfl)) pa_nil)) (nomark _))
        (pss_one (ps_ret pe_bl))
        pss_nil)
        (pss_cons (ps_set (i := 16) sc.nd rfl (Or.inl rfl) (pe_c c__law_draw hr (by decide) (by rfl) (pa_cons (pv 1) (pa_cons (pe_callB call_len_seq (by rfl) B.len_ (by decide +kernel) (pa_cons (pe_ix (show IxR _ (rIx K) from ix_seq) (pe_ix (show IxR _ (rIx K) from ix_seq) (pv 10) pe_int (fun _ _ => rfl)) pe_int (fun _ _ => rfl)) pa_nil)) pa_nil))))
        (pss_cons (ps_set (i := 17) sc.nd rfl (Or.inl rfl) (pe_c c__law_common hr (by decide) (by rfl) (pa_cons (pe_ix (show IxR _ (rIx K) from ix_seq) (pe_ix (show IxR _ (rIx K) from ix_seq) (pv 10) pe_int (fun _ _ => rfl)) pe_int (fun _ _ => rfl)) (pa_cons (pe_ix (show IxR _ (rIx K) from ix_seq) (pe_ix (show IxR _ (rIx K) from ix_seq) (pe_ix (show IxR _ (rIx K) from ix_seq) (pv 10) pe_int (fun _ _ => rfl)) pe_int (fun _ _ => rfl)) (pv 16) (fun _ _ => rfl)) pa_nil))))
        (pss_cons (ps_if (PW.pt (pw_and (pt_val (pe_c c__law_is_short hr (by decide) (by rfl) (pa_cons (pe_ix (show IxR _ (rIx K) from ix_seq) (pv 10) pe_int (fun _ _ => rfl)) pa_nil))) (pw_and1 (pt_cmpR op_ne (pe_callB (call_repr hgd hr) (by rfl) B.repr (by decide +kernel) (pa_cons (pe_c c_term_at hr (by decide) (by rfl) (pa_cons (pe_ix (show IxR _ (rIx K) from ix_seq) (pv 10) pe_int (fun _ _ => rfl)) (pa_cons (pv 16) pa_nil))) pa_nil)) (pe_callB (call_repr hgd hr) (by rfl) B.repr (by decide +kernel) (pa_cons (pe_tup (pa_cons (pe_op op_fdivW (pe_ix (show IxR _ (rIx K) from ix_seq) (pe_ix (show IxR _ (rIx K) from ix_seq) (pe_ix (show IxR _ (rIx K) from ix_seq) (pv 10) pe_int (fun _ _ => rfl)) pe_int (fun _ _ => rfl)) (pv 16) (fun _ _ => rfl)) (pv 17)) (pa_cons (pe_op op_fdivW (pe_ix (show IxR _ (rIx K) from ix_seq) (pe_ix (show IxR _ (rIx K) from ix_seq) (pv 10) pe_int (fun _ _ => rfl)) pe_int (fun _ _ => rfl)) (pv 17)) pa_nil))) pa_nil)) (nomark _)))))
        (pss_one (ps_ret pe_bl))
        pss_nil)
        (pss_cons (ps_set (i := 18) sc.nd rfl (Or.inl rfl) (pe_ifExp (pt_cmpR op_le (pe_ix (show IxR _ (rIx K) from ix_seq) (pe_ix (show IxR _ (rIx K) from ix_seq) (pv 4) pe_int (fun _ _ => rfl)) (pv 16) (fun _ _ => rfl)) pe_int (nomark _)) pe_int (pe_un un_neg pe_int)))
        (pss_cons (ps_set (i := 19) sc.nd rfl (Or.inl rfl) (pe_op op_catA (pe_slice sl_tupA (pv 4) po_none (po_some pe_int)) (pe_tup (pa_cons (pe_op op_catA (pe_op op_catA (pe_slice sl_tupA (pe_ix (show IxR _ (rIx K) from ix_seq) (pv 4) pe_int (fun _ _ => rfl)) po_none (po_some (pv 16))) (pe_tup (pa_cons (pe_op op_add (pe_ix (show IxR _ (rIx K) from ix_seq) (pe_ix (show IxR _ (rIx K) from ix_seq) (pv 4) pe_int (fun _ _ => rfl)) (pv 16) (fun _ _ => rfl)) (pv 18)) pa_nil))) (pe_slice sl_tupA (pe_ix (show IxR _ (rIx K) from ix_seq) (pv 4) pe_int (fun _ _ => rfl)) (po_some (pe_op op_add (pv 16) pe_int)) po_none)) pa_nil))))
        (pss_one (ps_if (PW.pt (pw_or (pt_cmpR op_ne (pe_c c_first_apart hr (by decide) (by rfl) (pa_cons (pv 4) (pa_cons (pv 19) pa_nil))) (pv 16) (nomark _)) (pw_or1 (pt_not (pt_val (pe_g c_grouped hgd hr (by decide) (by rfl) (pa_cons (pv 4) (pa_cons (pv 5) (pa_cons (pv 6) pa_nil)))))))))
        (pss_one (ps_ret pe_bl))
        pss_nil)))))))))))))))))))
      (pss_one (ps_ret pe_bl))))), ?_⟩
  have a0 : ∀ {a c : V}, atI [a, c] 0 = some a := fun {a c} => atI_nat (j := 0) rfl
  have a1 : ∀ {a c : V}, atI [a, c] 1 = some c := fun {a c} => atI_nat (j := 1) rfl
  refine ⟨_, rfl, a, ns, rfl, hS, hlen, fun H1 d l D1 _ _ _ => ?_⟩
  dsimp only [gName]
  refine tSeq_join (fun σ H' => DeckAt H' d l ∧ ∃ many : Nat, (many = 120 ∨ many = 15) ∧ σ = [some (.ref a), some (.ref d), some (.int (many : Int)), none, none, none, none, none, none, none, none, none, none, none, none, none, none, none, none, none]) (fun N hN => ?_) ?_
  · refine ⟨_, rfl, d, l, _, rfl, D1, by decide, by decide, fun H2 r D2 b2 r0 r1 => ?_⟩
    refine ⟨rfl, _, rfl, ifI (fun _ => hN _ _ ⟨D2, 120, .inl rfl, rfl⟩) fun _ => hN _ _ ⟨D2, 15, .inr rfl, rfl⟩⟩
  rintro _ H2 ⟨D2, many, hm, rfl⟩
  have m1 : 1 ≤ many ∧ many ≤ 120 := by omega
  refine ⟨_, rfl, _, _, rfl, rfl, _, rfl, ?_⟩
  have K0 : ∃ o3 o4 o5 o6 o7 o8 o9 o10 o11 o13 o14 o15 o16 o17 o18 o19 : Option V, [some (.ref a), some (.ref d), some (.int (many : Int)), none, none, none, none, none, none, none, none, none, none, none, none, none, none, none, none, none] = [some (.ref a), some (.ref d), some (.int (many : Int)), o3, o4, o5, o6, o7, o8, o9, o10, o11, none, o13, o14, o15, o16, o17, o18, o19] := ⟨_, _, _, _, _, _, _, _, _, _, _, _, _, _, _, _, rfl⟩
  refine (have body : ∀ (i : Nat) (σ : L2.St) (H' : Hp), (DeckAt H' d l ∧ ∃ o3 o4 o5 o6 o7 o8 o9 o10 o11 o13 o14 o15 o16 o17 o18 o19 : Option V, σ = [some (.ref a), some (.ref d), some (.int (many : Int)), o3, o4, o5, o6, o7, o8, o9, o10, o11, none, o13, o14, o15, o16, o17, o18, o19]) → _ := ?bp
    ifD (fun _ => ⟨1, rfl, by decide, by decide, for_range (lo := 0) (n := Int.toNat 1) (fun (i : Nat) (σ : L2.St) (H' : Hp) => DeckAt H' d l ∧ ∃ o3 o4 o5 o6 o7 o8 o9 o10 o11 o13 o14 o15 o16 o17 o18 o19 : Option V, σ = [some (.ref a), some (.ref d), some (.int (many : Int)), o3, o4, o5, o6, o7, o8, o9, o10, o11, none, o13, o14, o15, o16, o17, o18, o19]) ⟨D2, K0⟩ (fun i σ H' _ hp => body i σ H' hp) (fun σ H3 _ => q _)⟩) fun _ => ⟨3, rfl, by decide, by decide, for_range (lo := 0) (n := Int.toNat 3) (fun (i : Nat) (σ : L2.St) (H' : Hp) => DeckAt H' d l ∧ ∃ o3 o4 o5 o6 o7 o8 o9 o10 o11 o13 o14 o15 o16 o17 o18 o19 : Option V, σ = [some (.ref a), some (.ref d), some (.int (many : Int)), o3, o4, o5, o6, o7, o8, o9, o10, o11, none, o13, o14, o15, o16, o17, o18, o19]) ⟨D2, K0⟩ (fun i σ H' _ hp => body i σ H' hp) (fun σ H3 _ => q _)⟩)
  case bp =>
    rintro i σ H3 ⟨D3, o3, o4, o5, o6, o7, o8, o9, o10, o11, o13, o14, o15, o16, o17, o18, o19, rfl⟩
    refine ⟨_, rfl, _, rfl, d, l, many, rfl, D3, m1.1, m1.2, fun H4 u1 b1 t1 D4 c4 g1 dr1 => ?_⟩
    refine ⟨_, rfl, _, rfl, d, l, many, rfl, D4, m1.1, m1.2, fun H5 u2 b2 t2 D5 c5 g2 dr2 => ?_⟩
    refine ⟨_, rfl, d, l, 12, rfl, D5, by decide, by decide, fun H6 u3 b3 t3 D6 c6 g3 dr3 => ?_⟩
    refine ⟨_, _, _, rfl, ?_⟩
    replace g1 := (g1.but D4 c5).but D5 c6
    replace g2 := g2.but D5 c6
    have oB1 : BgOk b1 t1 := ⟨dr1.b1, dr1.l1, Nat.le_trans dr1.l2 (by omega)⟩
    have oB2 : BgOk b2 t2 := ⟨dr2.b1, dr2.l1, Nat.le_trans dr2.l2 (by omega)⟩
    have oB3 : BgOk b3 t3 := ⟨dr3.b1, dr3.l1, Nat.le_trans dr3.l2 (by omega)⟩
    have L1 := Le.of dr1.sm
    have L2' := Le.of dr2.sm
    have L3 := Le.of dr3.sm
    have z1 : 0 < b1 := by have := oB1.1; omega
    have z2 : 0 < b2 := by have := oB2.1; omega
    -- number
    refine ⟨_, rfl, _, rfl, d, l, _, rfl, D6, by decide, by decide, fun H7 w1 D7 c7 w10 w11 => ?_⟩
    refine ⟨d, l, w1, rfl, D7, fun H8 x1 D8 c8 x10 _ => ?_⟩
    refine ⟨_, rfl, _, rfl, d, l, _, rfl, D8, by decide, by decide, fun H9 w2 D9 c9 w20 w21 => ?_⟩
    refine ⟨d, l, w2, rfl, D9, fun H10 x2 D10 c10 _ x20 => ?_⟩
    replace x20 := x20 w21
    refine ⟨x2, rfl, _, _, rfl, rfl, (by show (2 : Nat) ≤ sizeLine; decide), fun pn hpn => ?_⟩
    have hfr : Fr (upd H10 pn (.tup [V.int x1, V.int (1 + if x2 < 0 then -x2 else x2)])) (.ref pn) (x1, 1 + if x2 < 0 then -x2 else x2) := Fr.new
    have s11 : Same H10 (upd H10 pn (.tup [V.int x1, V.int (1 + if x2 < 0 then -x2 else x2)])) := Same.upd_new hpn
    rw [abs_if] at hfr s11 ⊢
    generalize upd H10 pn (.tup [V.int x1, V.int (1 + (x2.natAbs : Int))]) = H11 at hfr s11 ⊢
    have D11 := D10.same s11
    replace g1 := (((((g1.but D6 c7).but D7 c8).but D8 c9).but D9 c10).same s11)
    replace g2 := (((((g2.but D6 c7).but D7 c8).but D8 c9).but D9 c10).same s11)
    replace g3 := (((((g3.but D6 c7).but D7 c8).but D8 c9).but D9 c10).same s11)
    obtain ⟨xd, hxd, xd1, xd2⟩ : ∃ xd : Int, 1 + (x2.natAbs : Int) = xd ∧ 1 ≤ xd ∧ xd ≤ 21 := ⟨_, rfl, by omega, by omega⟩
    rw [hxd] at hfr
    clear hxd x20 hpn
    rw [e30] at x10
    dsimp only [gName]
    refine ⟨_, rfl, i, congrArg V.int (Int.zero_add _), rfl, ?_⟩
    refine ⟨_, rfl, d, l, _, rfl, D11, by decide, by decide, fun H12 fr D12 c12 f0 f1 => ?_⟩
    refine ⟨_, _, rfl, rfl, _, _, rfl, ?_⟩
    obtain ⟨F, hF, hF1, hF2⟩ : ∃ F : Nat, 2 + fr = (F : Int) ∧ 2 ≤ F ∧ F ≤ 6 := ⟨(2 + fr).toNat, by omega, by omega, by omega⟩
    replace g1 := g1.but D11 c12
    replace g2 := g2.but D11 c12
    replace g3 := g3.but D11 c12
    replace hfr : Fr H12 (.ref pn) (x1, xd) := by
      obtain ⟨t, e, z⟩ := hfr
      exact ⟨t, e, c12.tup D11 z⟩
    have W1 := up8 L1 p1
    have W2 := up8 L2' p1
    have N1 := oB1.2.2
    have N2 := oB2.2.2
    have x1b : x1.natAbs < 2 ^ 2000 := Nat.lt_trans x10 (by decide)
    have xdb : xd.natAbs < 2 ^ 2000 := Nat.lt_of_le_of_lt (by omega : _ ≤ 21) (by decide)
    dsimp only
    rw [hF]
    -- due
    refine ⟨_, rfl, _, rfl, bin_use g1 g2 oB1 oB2 L1 L2' p1 p1 fun H13 e1 s13 k1 => ?_⟩
    refine ⟨_, rfl, _, rfl, bin_use (g1.same s13) (g2.same s13) oB1 oB2 L1 L2' p1 p1 fun H14 e2 s14 k2 => ?_⟩
    have q14 := s13.trans s14
    refine ⟨_, rfl, _, rfl, tim_use (g1.same q14) (hfr.same q14) oB1 L1 p1 x1b xdb xd1 fun H15 e3 s15 k3 => ?_⟩
    have q15 := q14.trans s15
    refine ⟨_, rfl, _, rfl, u1, u2, b1, b2, t1, t2, rfl, g1.same q15, g2.same q15, oB1, oB2, L1, L2', fun H16 s16 => ?_⟩
    refine ⟨(by show (4 : Nat) ≤ sizeLine; decide), fun pd hpd => ?_⟩
    have s17 : Same H16 (upd H16 pd (.tup [e1, e2, e3, optV (apart b1 b2 t1 t2)])) := Same.upd_new hpd
    have h17 : (upd H16 pd (.tup [e1, e2, e3, optV (apart b1 b2 t1 t2)])) pd = some (.tup [e1, e2, e3, optV (apart b1 b2 t1 t2)]) := upd_same
    generalize upd H16 pd (.tup [e1, e2, e3, optV (apart b1 b2 t1 t2)]) = H17 at s17 h17
    have q17 := q15.trans (s16.trans s17)
    replace k1 := k1.same (s14.trans (s15.trans (s16.trans s17)))
    replace k2 := k2.same (s15.trans (s16.trans s17))
    replace k3 := k3.same (s16.trans s17)
    replace g1 := g1.same q17
    replace g2 := g2.same q17
    replace g3 := g3.same q17
    replace hfr := hfr.same q17
    have D17 := D12.same q17
    clear hpd q17 q15 q14 s13 s14 s15 s16 s17
    have OA := ok_add oB1 oB2
    have OM := ok_mul oB1 oB2
    have OT := ok_tim (x := x1) oB1 xd1
    have SA := (Le.add L1 L2').sh p4 OA.2.2
    have SM := (Le.mul N1 L1 L2').sh p3 OM.2.2
    have ST := (Le.tim (N := 10 ^ 30) L1 (x := x1) (y := xd) (Nat.le_of_lt x10) (Nat.le_trans (by omega : _ ≤ 21) (by decide))).sh (by decide) OT.2.2
    have hop : OptOk (apart b1 b2 t1 t2) := apart_opt N1
    have RQ := rep_quad (p1 := L (b1 * b2) (addL b1 t1 b2 t2)) (p2 := L (b1 * b2) (mulL t1 t2)) (p3 := L (b1 * xd) (timL t1 x1)) (low_short SA) (low_short SM) (low_short ST) hop
    dsimp only [gName]
    refine tSeq_join (fun σ H' => Same H17 H' ∧ ∃ (qt : Addr) (y1 y2 y3 : V), σ = [some (.ref a), some (.ref d), some (.int (many : Int)), some (.int (0 + (i : Int))), some u1, some u2, some u3, some (.ref pn), some (.int ((i % 2 : Nat) : Int)), some (.int (F : Int)), some (.ref pd), some (.ref qt), none, o13, o14, o15, o16, o17, o18, o19] ∧ H' qt = some (.tup [y1, y2, y3, optV (apart b1 b2 t1 t2)]) ∧
      Bg H' y1 (lowB (b1 * b2) (addL b1 t1 b2 t2)) (lowT (b1 * b2) (addL b1 t1 b2 t2)) ∧ Bg H' y2 (lowB (b1 * b2) (mulL t1 t2)) (lowT (b1 * b2) (mulL t1 t2)) ∧ Bg H' y3 (lowB (b1 * xd) (timL t1 x1)) (lowT (b1 * xd) (timL t1 x1))) (fun N hN => ?_) ?_
    · refine ⟨_, rfl, rfl, _, rfl, ifI (fun e => ?_) fun e => ?_⟩
      · refine ⟨_, rfl, _, rfl, bin_use g1 g2 oB1 oB2 L1 L2' p1 p1 fun I1 y1 s1 j1 => ?_⟩
        refine ⟨_, rfl, _, rfl, bin_use (g1.same s1) (g2.same s1) oB1 oB2 L1 L2' p1 p1 fun I2 y2 s2 j2 => ?_⟩
        have v2 := s1.trans s2
        refine ⟨_, rfl, _, rfl, tim_use (g1.same v2) (hfr.same v2) oB1 L1 p1 x1b xdb xd1 fun I3 y3 s3 j3 => ?_⟩
        have v3 := v2.trans s3
        refine ⟨_, rfl, _, rfl, u1, u2, b1, b2, t1, t2, rfl, g1.same v3, g2.same v3, oB1, oB2, W1.1, W2.1, W1.2, W2.2, fun I4 s4 => ?_⟩
        refine ⟨(by show (4 : Nat) ≤ sizeLine; decide), fun qt hqt => ?_⟩
        have s5 : Same I4 (upd I4 qt (.tup [y1, y2, y3, optV (apart b1 b2 t1 t2)])) := Same.upd_new hqt
        exact hN _ _ ⟨v3.trans (s4.trans s5), qt, y1, y2, y3, rfl, upd_same, j1.same (s2.trans (s3.trans (s4.trans s5))), j2.same (s3.trans (s4.trans s5)), j3.same (s4.trans s5)⟩
      · refine ⟨_, rfl, _, rfl, bin_use g1 g2 oB1 oB2 L1 L2' p1 p1 fun I1 y1 s1 j1 => ?_⟩
        refine ⟨_, rfl, _, rfl, bin_use (g1.same s1) (g2.same s1) oB1 oB2 L1 L2' p1 p1 fun I2 y2 s2 j2 => ?_⟩
        have v2 := s1.trans s2
        refine ⟨(by show (2 : Nat) ≤ sizeLine; decide), fun qa hqa => ?_⟩
        have s3 : Same I2 (upd I2 qa (.tup [y1, y2])) := Same.upd_new hqa
        have ha : (upd I2 qa (.tup [y1, y2])) qa = some (.tup [y1, y2]) := upd_same
        generalize upd I2 qa (.tup [y1, y2]) = I3 at s3 ha
        have v3 := v2.trans s3
        refine ⟨_, rfl, _, rfl, _, rfl, tim_use (g1.same v3) (hfr.same v3) oB1 L1 p1 x1b xdb xd1 fun I4 y3 s4 j3 => ?_⟩
        have v4 := v3.trans s4
        refine ⟨_, rfl, _, rfl, u1, u2, b1, b2, t1, t2, rfl, g1.same v4, g2.same v4, oB1, oB2, W1.1, W2.1, W1.2, W2.2, fun I5 s5 => ?_⟩
        refine ⟨(by show (2 : Nat) ≤ sizeLine; decide), fun qb hqb => ?_⟩
        have s6 : Same I5 (upd I5 qb (.tup [y3, optV (apart b1 b2 t1 t2)])) := Same.upd_new hqb
        refine catA_all (s6 _ _ (s5 _ _ (s4 _ _ ha))) upd_same (by show (4 : Nat) ≤ sizeLine; decide) fun I7 qt s7 hqt => ?_
        have v7 := s5.trans (s6.trans s7)
        exact hN _ _ ⟨v4.trans v7, qt, y1, y2, y3, rfl, hqt, j1.same (s2.trans (s3.trans (s4.trans v7))), j2.same (s3.trans (s4.trans v7)), j3.same v7⟩
    rintro _ H18 ⟨s18, qt, y1, y2, y3, rfl, hqt, j1, j2, j3⟩
    have dq : ∀ (Hx : Hp) (qx : Addr) (v1 v2 v3 : V), Hx qx = some (.tup [v1, v2, v3, optV (apart b1 b2 t1 t2)]) → Bg Hx v1 (lowB (b1 * b2) (addL b1 t1 b2 t2)) (lowT (b1 * b2) (addL b1 t1 b2 t2)) → Bg Hx v2 (lowB (b1 * b2) (mulL t1 t2)) (lowT (b1 * b2) (mulL t1 t2)) → Bg Hx v3 (lowB (b1 * xd) (timL t1 x1)) (lowT (b1 * xd) (timL t1 x1)) →
      Dp K Hx (.ref qx) (quad (L (b1 * b2) (addL b1 t1 b2 t2)) (L (b1 * b2) (mulL t1 t2)) (L (b1 * xd) (timL t1 x1)) (apart b1 b2 t1 t2)) := fun Hx qx v1 v2 v3 h k1 k2 k3 => dp_quad h k1 k2 k3
    refine tSeq_join (fun σ H' => Same H17 H' ∧ ∃ (qt : Addr), σ = [some (.ref a), some (.ref d), some (.int (many : Int)), some (.int (0 + (i : Int))), some u1, some u2, some u3, some (.ref pn), some (.int ((i % 2 : Nat) : Int)), some (.int (F : Int)), some (.ref pd), some (.ref qt), none, o13, o14, o15, o16, o17, o18, o19]) (fun N hN => ?_) ?_
    · refine ⟨_, rfl, qt, _, rfl, dq _ _ _ _ _ hqt j1 j2 j3, RQ.show_, RQ.dict, RQ.depth, RQ.len, ?_⟩
      refine ⟨_, rfl, pd, _, rfl, dq _ _ _ _ _ (s18 _ _ h17) (k1.same s18) (k2.same s18) (k3.same s18), RQ.show_, RQ.dict, RQ.depth, RQ.len, ?_⟩
      refine ⟨rfl, _, rfl, ifN (fun k => absurd rfl k) fun _ => ?_⟩
      refine ⟨_, rfl, _, rfl, slA_gen hqt fun H19 qs s19 hqs => ?_⟩
      have hqs' : H19 qs = some (.tup [y1, y2, y3]) := hqs.trans (congrArg (fun l => some (HO.tup l)) (cut_take _ 3))
      refine ⟨qs, rfl, ⟨_, SqT.of hqs'⟩, fun Dl hDl => ?_⟩
      refine lc_it (walk_tup (xs := [y1, y2, y3])) (fun i H' => Same H19 H' ∧ H' Dl = some (.lst [])) ⟨Same.upd_new hDl, upd_same⟩ (fun i H' _ ⟨k2, _⟩ => SqT.of (k2 _ _ hqs')) ?_ ?_
      · rintro n y Hx Hy hn ⟨kx, hx⟩ ⟨rfl, hy⟩
        obtain ⟨b, t, gb, ob⟩ : ∃ b t, Bg H18 y b t ∧ BgOk b t := by
          match n, hn, hy with
          | 0, _, hy => cases hy; exact ⟨_, _, j1, low_ok OA⟩
          | 1, _, hy => cases hy; exact ⟨_, _, j2, low_ok OM⟩
          | 2, _, hy => cases hy; exact ⟨_, _, j3, low_ok OT⟩
        refine ⟨rfl, _, rfl, y, b, t, rfl, gb.same (s19.trans kx), ob, fun Hz sz => ⟨true, true, rfl, rfl, _, rfl, ifN (fun k => absurd rfl k) fun _ => ?_⟩⟩
        exact ⟨kx.trans sz, sz _ _ hx⟩
      · rintro Hx ⟨kx, hx⟩
        refine ⟨Nat.zero_le _, fun p2 hp2 => ?_⟩
        have s20 : Same Hx (upd Hx p2 (.lst [])) := Same.upd_new hp2
        refine ⟨_, _, .lst (SqL.of (s20 _ _ hx)) .nil, .lst (SqL.of upd_same) .nil, shaped_ints [], by decide, _, rfl, ?_⟩
        rw [eqv_nil]
        exact iteF (hN _ _ ⟨s18.trans (s19.trans (kx.trans s20)), qt, rfl⟩)
    clear j1 j2 j3 hqt s18 y1 y2 y3 qt H18
    rintro _ H18 ⟨s18, qt, rfl⟩
    replace h17 := s18 _ _ h17
    replace g1 := g1.same s18
    replace g2 := g2.same s18
    replace g3 := g3.same s18
    replace hfr := hfr.same s18
    replace k1 := k1.same s18
    replace k2 := k2.same s18
    replace k3 := k3.same s18
    have D18 := D17.same s18
    clear s18
    refine tSeq_join (fun σ H' => Same H18 H' ∧ ∃ (near far : V) (c e : Nat), σ = stt a d many i u1 u2 u3 pn F pd qt near far o15 o16 o17 o18 o19 ∧ 1 ≤ c ∧ c ≤ 7 ∧ 1 ≤ e ∧ e ≤ 7 ∧ Bg H' near ((c : Int) * b1) (Ft.sc (c : Int) t1) ∧ Bg H' far ((e : Int) * b2) (Ft.sc (e : Int) t2)) (fun N hN => ?_) ?_
    · refine ⟨_, rfl, _, rfl, u1, b1, t1, F, rfl, g1, oB1, dr1.sm, by omega, by omega, fun H20 near c s20 ca cb gn => ?_⟩
      refine ⟨_, rfl, _, rfl, _, _, rfl, rfl, u2, b2, t2, F + 1, rfl, g2.same s20, oB2, dr2.sm, by omega, by omega, fun H21 far e s21 ea eb gf => ?_⟩
      exact ⟨_, _, rfl, hN _ _ ⟨s20.trans s21, near, far, c, e, rfl, ca, cb, ea, eb, (form_bg gn).same s21, form_bg gf⟩⟩
    rintro _ H21 ⟨s21, near, far, c, e, rfl, ca, cb, ea, eb, gn, gf⟩
    have okn := ok_sc (e := c) oB1 ca
    have okf := ok_sc (e := e) oB2 ea
    have Ln := le_sc (e := c) L1 cb
    have Lf := le_sc (e := e) L2' eb
    have Wn := up8 Ln p6
    have Wf := up8 Lf p6
    have hc : (0 : Int) < (c : Int) := by omega
    have he : (0 : Int) < (e : Int) := by omega
    replace h17 := s21 _ _ h17
    replace g1 := g1.same s21
    replace g2 := g2.same s21
    replace g3 := g3.same s21
    replace hfr := hfr.same s21
    replace k1 := k1.same s21
    replace k2 := k2.same s21
    replace k3 := k3.same s21
    have D21 := D18.same s21
    clear s21
    refine tSeq_join (HalfJ a d l many i) (fun N hN => ?_) ?_
    · have RD := rep_duo (p1 := L (b1 * b2) (addL b1 t1 b2 t2)) (p2 := L (b1 * b2) (mulL t1 t2)) (o' := none) (low_short SA) (low_short SM) hop fun n h => by cases h
      have dd : ∀ (Hx : Hp) (qx : Addr) (v1 v2 : V), Hx qx = some (.tup [v1, v2, optV (apart b1 b2 t1 t2), optV none]) → Bg Hx v1 (L (b1 * b2) (addL b1 t1 b2 t2)).1 (L (b1 * b2) (addL b1 t1 b2 t2)).2 → Bg Hx v2 (L (b1 * b2) (mulL t1 t2)).1 (L (b1 * b2) (mulL t1 t2)).2 →
        Dp K Hx (.ref qx) (duo (L (b1 * b2) (addL b1 t1 b2 t2)) (L (b1 * b2) (mulL t1 t2)) (apart b1 b2 t1 t2) none) := fun Hx qx v1 v2 h k1 k2 => dp_duo h k1 k2
      have at0 : ∀ {a b c d : V}, atI [a, b, c, d] 0 = some a := atI_nat (j := 0) rfl
      have at1 : ∀ {a b c d : V}, atI [a, b, c, d] 1 = some b := atI_nat (j := 1) rfl
      have at2 : ∀ {a b c d : V}, atI [a, b, c, d] 2 = some c := atI_nat (j := 2) rfl
      have at3 : ∀ {a b c d : V}, atI [a, b, c, d] 3 = some d := atI_nat (j := 3) rfl
      refine ⟨_, rfl, _, rfl, bin_use gf gn okf okn Lf Ln p6 p6 fun H22 r1 s22 q1 => ?_⟩
      refine ⟨_, rfl, _, rfl, bin_use (gf.same s22) (gn.same s22) okf okn Lf Ln p6 p6 fun H23 r2 s23 q2 => ?_⟩
      have v23 := s22.trans s23
      refine ⟨_, rfl, _, rfl, far, near, _, _, _, _, rfl, gf.same v23, gn.same v23, okf, okn, Wf.1, Wn.1, Wf.2, Wn.2, fun H24 s24 => ?_⟩
      rw [apart_forms hc he]
      have v24 := v23.trans s24
      refine ⟨_, rfl, _, rfl, u1, near, b1, _, t1, _, rfl, g1.same v24, gn.same v24, oB1, okn, W1.1, Wn.1, W1.2, Wn.2, fun H25 s25 => ?_⟩
      rw [apart_self0]
      refine ⟨(by show (4 : Nat) ≤ sizeLine; decide), fun qt' hqt => ?_⟩
      have s26 : Same H25 (upd H25 qt' (.tup [r1, r2, optV (apart b1 b2 t1 t2), optV none])) := Same.upd_new hqt
      have h26 : (upd H25 qt' (.tup [r1, r2, optV (apart b1 b2 t1 t2), optV none])) qt' = some (.tup [r1, r2, optV (apart b1 b2 t1 t2), optV none]) := upd_same
      generalize upd H25 qt' (.tup [r1, r2, optV (apart b1 b2 t1 t2), optV none]) = H26 at s26 h26
      have v26 := v24.trans (s25.trans s26)
      have q1' : Bg H26 r1 (L (b1 * b2) (addL b1 t1 b2 t2)).1 (L (b1 * b2) (addL b1 t1 b2 t2)).2 := by
        rw [← form_add z1 z2 hc he]
        exact q1.same (s23.trans (s24.trans (s25.trans s26)))
      have q2' : Bg H26 r2 (L (b1 * b2) (mulL t1 t2)).1 (L (b1 * b2) (mulL t1 t2)).2 := by
        rw [← form_mul z1 z2 hc he]
        exact q2.same (s24.trans (s25.trans s26))
      refine ⟨qt', _, rfl, dd _ _ _ _ h26 q1' q2', RD.show_, RD.dict, RD.depth, RD.len, ?_⟩
      have h27 := v26 _ _ h17
      refine ⟨_, rfl, .inr (.inl ⟨pd, _, 0, _, rfl, rfl, SqT.of h27, at0, ?_⟩)⟩
      refine ⟨_, rfl, .inr (.inl ⟨pd, _, 1, _, rfl, rfl, SqT.of h27, at1, ?_⟩)⟩
      refine ⟨_, rfl, .inr (.inl ⟨pd, _, 3, _, rfl, rfl, SqT.of h27, at3, ?_⟩)⟩
      refine ⟨(by show (4 : Nat) ≤ sizeLine; decide), fun qd hqd => ?_⟩
      have s28 : Same H26 (upd H26 qd (.tup [e1, e2, optV (apart b1 b2 t1 t2), optV none])) := Same.upd_new hqd
      refine ⟨qd, _, rfl, dd _ _ _ _ upd_same (k1.same (v26.trans s28)) (k2.same (v26.trans s28)), RD.show_, RD.dict, RD.depth, RD.len, ?_⟩
      refine ⟨rfl, _, rfl, ifN (fun k => absurd rfl k) fun _ => ?_⟩
      exact hN _ _ ⟨u1, u2, u3, near, far, pn, pd, qt, e1, e2, e3, b1, b2, b3, t1, t2, t3, x1, xd, F, c, _, _, _, _, _, rfl, D21.same (v26.trans s28), (v26.trans s28) _ _ h17, g1.same (v26.trans s28), g2.same (v26.trans s28), g3.same (v26.trans s28), oB1, oB2, oB3, L1, L2', L3, hfr.same (v26.trans s28), x10, xd1, xd2, hF1, hF2, ca, cb, k1.same (v26.trans s28), k2.same (v26.trans s28), k3.same (v26.trans s28), gn.same (v26.trans s28)⟩
    clear D3
    rintro _ H28 ⟨u1, u2, u3, near, far, pn, pd, qt, e1, e2, e3, b1, b2, b3, t1, t2, t3, x1, xd, F, c, p15, p16, p17, p18, p19, rfl, f⟩
    obtain ⟨D28, h17, g1, g2, g3, oB1, oB2, oB3, L1, L2', L3, hfr, x10, xd1, xd2, F1, F2, c1, c2, k1, k2, k3, gn⟩ := f
    have z1 : 0 < b1 := by have := oB1.1; omega
    have z2 : 0 < b2 := by have := oB2.1; omega
    have N1 := oB1.2.2
    have N2 := oB2.2.2
    have OM := ok_mul oB1 oB2
    have OT := ok_tim (x := x1) oB1 xd1
    have SM := (Le.mul N1 L1 L2').sh p3 OM.2.2
    have ST := (Le.tim (N := 10 ^ 30) L1 (x := x1) (y := xd) (Nat.le_of_lt x10) (Nat.le_trans (by omega : _ ≤ 21) (by decide))).sh (by decide) OT.2.2
    have okn := ok_sc (e := c) oB1 c1
    have Ln := le_sc (e := c) L1 c2
    have Wn := up8 Ln p6
    have W1 := up8 L1 p1
    have hc : (0 : Int) < (c : Int) := by omega
    have at1 : ∀ {a b c d : V}, atI [a, b, c, d] 1 = some b := atI_nat (j := 1) rfl
    have at2 : ∀ {a b c d : V}, atI [a, b, c, d] 2 = some c := atI_nat (j := 2) rfl
    -- a longer row
    refine tSeq_join (fun σ H' => Same H28 H' ∧ σ = stt a d many i u1 u2 u3 pn F pd qt near far p15 p16 p17 p18 p19) (fun N hN => ?_) ?_
    · obtain ⟨pr, rr, rfl, hpr, hrr⟩ := id gn
      refine ⟨_, rfl, .inr (.inl ⟨pr, _, 1, _, rfl, rfl, SqT.of hpr, a1, rr, _, rfl, .inr (SqT.of hrr), _, _, rfl, rfl, _, rfl, ifD (fun hl => ?_) fun _ => hN _ _ ⟨Same.refl _, rfl⟩⟩)⟩
      rw [List.length_map, sc_len] at hl
      refine ⟨_, rfl, _, rfl, .inr (.inl ⟨pr, _, 0, _, rfl, rfl, SqT.of hpr, a0, _, rfl, .inr (.inl ⟨pr, _, 1, _, rfl, rfl, SqT.of hpr, a1, ?_⟩)⟩)⟩
      refine ⟨(by show (1 : Nat) ≤ sizeLine; decide), fun q1 hq1 => ?_⟩
      have s1 : Same H28 (upd H28 q1 (.tup [V.int 1])) := Same.upd_new hq1
      refine catA_all (s1 _ _ hrr) upd_same ?_ fun H30 q2 s2 hq2 => ?_
      · rw [List.length_map, sc_len]
        exact Nat.le_trans (by show t1.length + 1 ≤ 401; omega) (by decide)
      refine ⟨(by show (2 : Nat) ≤ sizeLine; decide), fun q3 hq3 => ?_⟩
      have s3 : Same H30 (upd H30 q3 (.tup [V.int ((c : Int) * b1), .ref q2])) := Same.upd_new hq3
      have s13 := s1.trans (s2.trans s3)
      refine ⟨u1, .ref q3, b1, (c : Int) * b1, t1, Ft.sc (c : Int) t1 ++ [1], rfl, g1.same s13, ⟨q3, q2, rfl, upd_same, ?_⟩, oB1, ⟨okn.1, ?_, ?_⟩, W1.1, Wn.1, W1.2, fun x hx => ?_, fun H31 s4 => ?_⟩
      · rw [s3 _ _ hq2, List.map_append]; rfl
      · rw [List.length_append]; exact Nat.le_add_left 1 _
      · rw [List.length_append, sc_len]
        show t1.length + 1 ≤ 400
        omega
      · rcases List.mem_append.mp hx with hx | hx
        · exact Wn.2 x hx
        · rw [List.mem_singleton.mp hx]
          exact Nat.one_lt_two_pow (by decide)
      · rw [apart_self]
        exact ⟨rfl, _, rfl, ifN (fun k => absurd rfl k) fun _ => hN _ _ ⟨s13.trans s4, rfl⟩⟩
    rintro _ H31 ⟨s31, rfl⟩
    have D31 := D28.same s31
    replace h17 := s31 _ _ h17
    replace g1 := g1.same s31
    replace g2 := g2.same s31
    replace g3 := g3.same s31
    replace hfr := hfr.same s31
    replace k1 := k1.same s31
    replace k2 := k2.same s31
    replace k3 := k3.same s31
    replace gn := gn.same s31
    clear s31 D28
    -- wide
    refine tSeq_join (fun σ H' => Same H31 H' ∧ ∃ (wv : V) (e : Nat), σ = stt a d many i u1 u2 u3 pn F pd qt near far (some wv) p16 p17 p18 p19 ∧ Fr H' wv (x1 * (e : Int), xd * (e : Int)) ∧ 1 ≤ e ∧ e ≤ 6) (fun N hN => ?_) ?_
    · refine ⟨_, rfl, fr0 hfr ⟨x1, rfl, _, _, rfl, rfl, ⟨by decide, by decide, by decide⟩, _, _, rfl, rfl, _, rfl, ifD (fun _ => ?_) fun _ => ?_⟩⟩
      · have w1 : x1.natAbs < 2 ^ 2000 := Nat.lt_trans x10 (by decide)
        have w2 : xd.natAbs < 2 ^ 2000 := Nat.lt_of_le_of_lt (by omega : _ ≤ 21) (by decide)
        have w3 : ((F : Nat) : Int).natAbs < 2 ^ 2000 := Nat.lt_of_le_of_lt (by omega : _ ≤ 6) (by decide)
        refine ⟨_, rfl, fr0 hfr ⟨_, rfl, _, _, rfl, rfl, mul2 w1 w3, ?_⟩⟩
        refine ⟨_, rfl, fr1 hfr ⟨_, rfl, _, _, rfl, rfl, mul2 w2 w3, ?_⟩⟩
        refine ⟨(by show (2 : Nat) ≤ sizeLine; decide), fun q1 hq1 => ?_⟩
        exact hN _ _ ⟨Same.upd_new hq1, _, F, rfl, Fr.new, by omega, F2⟩
      · refine ⟨_, rfl, hN _ _ ⟨Same.refl _, .ref pn, 1, rfl, ?_, by decide, by decide⟩⟩
        rw [Int.natCast_one, Int.mul_one, Int.mul_one]
        exact hfr
    rintro _ H32 ⟨s32, wv, e, rfl, hwv, ea, eb⟩
    -- times
    refine tSeq_join (fun σ H' => Same H32 H' ∧ σ = stt a d many i u1 u2 u3 pn F pd qt near far (some wv) p16 p17 p18 p19) (fun N hN => ?_) ?_
    · have he : (0 : Int) < (e : Int) := by omega
      have w1 : (x1 * (e : Int)).natAbs < 2 ^ 2000 := by
        rw [Int.natAbs_mul]
        exact Nat.lt_of_le_of_lt (Nat.mul_le_mul (Nat.le_of_lt x10) (by omega : _ ≤ 6)) (by decide)
      have w2 : (xd * (e : Int)).natAbs < 2 ^ 2000 := by
        rw [Int.natAbs_mul]
        exact Nat.lt_of_le_of_lt (Nat.mul_le_mul (by omega : _ ≤ 21) (by omega : _ ≤ 6)) (by decide)
      have w3 : 1 ≤ xd * (e : Int) := by
        have := Int.mul_pos (show 0 < xd by omega) he
        omega
      refine ⟨_, rfl, _, rfl, tim_use (gn.same s32) hwv okn Ln p6 w1 w2 w3 fun H33 r1 s33 q1 => ?_⟩
      dsimp only [tNil]
      have q1' : Bg H33 r1 (lowB (b1 * xd) (timL t1 x1)) (lowT (b1 * xd) (timL t1 x1)) := by
        have := form_tim (x := x1) z1 (show 0 < xd by omega) hc he t1
        have e1 : lowB _ _ = lowB _ _ := congrArg Prod.fst this
        have e2 : lowT _ _ = lowT _ _ := congrArg Prod.snd this
        rw [e1, e2] at q1
        exact q1
      refine rep_L q1' ST fun a1' ha1 => ?_
      have s323 := s32.trans s33
      refine ⟨_, rfl, .inr (.inl ⟨pd, _, 2, _, rfl, rfl, SqT.of (s323 _ _ h17), at2, ?_⟩)⟩
      dsimp only [tNil]
      refine rep_L (k3.same s323) ST fun a2' ha2 => ?_
      obtain rfl : a1' = a2' := ha1.trans ha2.symm
      exact ⟨rfl, _, rfl, ifN (fun k => absurd rfl k) fun _ => hN _ _ ⟨s33, rfl⟩⟩
    rintro _ H33 ⟨s33, rfl⟩
    have v33 := s32.trans s33
    have D33 := D31.same v33
    replace h17 := v33 _ _ h17
    replace g1 := g1.same v33
    replace g2 := g2.same v33
    replace g3 := g3.same v33
    replace k2 := k2.same v33
    clear s32 s33 v33 D31 k1 k3 hfr gn hwv
    -- the place
    have lm : (lowT (b1 * b2) (mulL t1 t2)).length = min t1.length t2.length := by
      unfold lowT
      rw [List.length_map, mulL_len]
    have lm1 : 1 ≤ min t1.length t2.length := by have := oB1.2.1; have := oB2.2.1; omega
    obtain ⟨pm, rm, rfl, hpm, hrm⟩ := k2
    refine ⟨_, rfl, _, rfl, .inr (.inl ⟨pd, _, 1, _, rfl, rfl, SqT.of h17, at1, .inr (.inl ⟨pm, _, 1, _, rfl, rfl, SqT.of hpm, a1, rm, _, rfl, .inr (SqT.of hrm), ?_⟩)⟩)⟩
    have llm : ((lowT (b1 * b2) (mulL t1 t2)).map V.int).length = min t1.length t2.length := by rw [List.length_map, lm]
    refine ⟨d, l, _, rfl, D33, by rw [llm]; omega, by rw [llm]; omega, fun H34 r D34 b34 r0 r1 => ?_⟩
    rw [llm] at r1
    obtain ⟨k, rfl, hk⟩ : ∃ k : Nat, r = (k : Int) ∧ k < min t1.length t2.length := ⟨r.toNat, by omega, by omega⟩
    replace h17 := b34.tup D33 h17
    replace g1 := g1.but D33 b34
    replace g2 := g2.but D33 b34
    replace g3 := g3.but D33 b34
    replace hpm := b34.tup D33 hpm
    replace hrm := b34.tup D33 hrm
    clear b34 D33 r0 r1
    have hlm : atI ((lowT (b1 * b2) (mulL t1 t2)).map V.int) (k : Int) = some (V.int ((lowT (b1 * b2) (mulL t1 t2)).getD k 0)) := atI_nat (getD_at (by rw [lm]; exact hk))
    have km : Bg H34 (.ref pm) (lowB (b1 * b2) (mulL t1 t2)) (lowT (b1 * b2) (mulL t1 t2)) := ⟨pm, rm, rfl, hpm, hrm⟩
    have SM' := low_short SM
    have zl : 0 < lowB (b1 * b2) (mulL t1 t2) := lowB_pos (by have := OM.1; omega) _
    have okm := low_ok OM
    generalize hLB : lowB (b1 * b2) (mulL t1 t2) = lb at *
    generalize hLT : lowT (b1 * b2) (mulL t1 t2) = lt at *
    dsimp only [gName]
    -- common
    refine ⟨_, rfl, .inr (.inl ⟨pd, _, 1, _, rfl, rfl, SqT.of h17, at1, .inr (.inl ⟨pm, _, 0, _, rfl, rfl, SqT.of hpm, a0, ?_⟩)⟩)⟩
    refine ⟨_, rfl, .inr (.inl ⟨pd, _, 1, _, rfl, rfl, SqT.of h17, at1, .inr (.inl ⟨pm, _, 1, _, rfl, rfl, SqT.of hpm, a1, ?_⟩)⟩)⟩
    refine ⟨_, rfl, .inr (.inl ⟨rm, _, _, _, rfl, rfl, SqT.of hrm, hlm, ?_⟩)⟩
    refine ⟨lb, lt.getD k 0, rfl, ?_⟩
    rw [Nat.gcd_comm]
    have gd := Nat.gcd_dvd_right (lt.getD k 0).natAbs lb.natAbs
    have gp : 0 < Nat.gcd (lt.getD k 0).natAbs lb.natAbs := Nat.gcd_pos_of_pos_right _ (by omega)
    have gl := Nat.le_of_dvd (by omega) gd
    have gb : Nat.gcd (lt.getD k 0).natAbs lb.natAbs < 2 ^ 8000 := Nat.lt_of_le_of_lt gl (Nat.lt_trans SM'.hb (Nat.pow_lt_pow_right (by decide) (by decide)))
    have Lk := getD_lt SM'.hts k
    have hlow : low (lt.getD k 0) lb = (lt.getD k 0 / ((Nat.gcd (lt.getD k 0).natAbs lb.natAbs : Nat) : Int), lb / ((Nat.gcd (lt.getD k 0).natAbs lb.natAbs : Nat) : Int)) := rfl
    have lw1 : (low (lt.getD k 0) lb).1.natAbs < 2 ^ 250 := Nat.lt_of_le_of_lt (Int.natAbs_ediv_le_natAbs _ _) Lk
    have lw2 : (low (lt.getD k 0) lb).2.natAbs < 2 ^ 250 := Nat.lt_of_le_of_lt (Int.natAbs_ediv_le_natAbs _ _) SM'.hb
    generalize hG : Nat.gcd (lt.getD k 0).natAbs lb.natAbs = G at *
    have cd : ∀ i : Int, CDivW i (G : Int) := fun i => wide_div (b := 8000) (by omega) gb (by decide) (by decide)
    dsimp only [gName]
    refine tSeq_join (fun σ H' => Same H34 H' ∧ σ = stt a d many i u1 u2 u3 pn F pd qt near far (some wv) (some (.int (k : Int))) (some (.int (G : Int))) p18 p19) (fun N hN => ?_) ?_
    · refine ⟨_, rfl, .inr (.inl ⟨pd, _, 1, _, rfl, rfl, SqT.of h17, at1, .ref pm, lb, lt, rfl, km, okm, fun H35 cc s35 hcc => ⟨cc, rfl, ?_⟩⟩)⟩
      cases cc with
      | false => exact iteF (hN _ _ ⟨s35, rfl⟩)
      | true =>
        refine iteT ?_
        have h17' := s35 _ _ h17
        refine ⟨_, rfl, .inr (.inl ⟨pd, _, 1, _, rfl, rfl, SqT.of h17', at1, _, rfl, .ref pm, lb, lt, k, rfl, km.same s35, okm, by rw [lm]; exact hk, Nat.lt_trans SM'.hb (Nat.pow_lt_pow_right (by decide) (by decide)), fun H36 r1 s36 q1 => ?_⟩)⟩
        dsimp only [tNil]
        refine rep_fr q1 lw1 lw2 fun a1' ha1 => ?_
        have s356 := s35.trans s36
        have h17'' := s356 _ _ h17
        have hpm' := s356 _ _ hpm
        have hrm' := s356 _ _ hrm
        refine ⟨_, rfl, .inr (.inl ⟨pd, _, 1, _, rfl, rfl, SqT.of h17'', at1, .inr (.inl ⟨pm, _, 1, _, rfl, rfl, SqT.of hpm', a1, _, rfl, .inr (.inl ⟨rm, _, _, _, rfl, rfl, SqT.of hrm', hlm, _, rfl, _, _, rfl, rfl, cd _, ?_⟩)⟩)⟩)⟩
        refine ⟨_, rfl, .inr (.inl ⟨pd, _, 1, _, rfl, rfl, SqT.of h17'', at1, .inr (.inl ⟨pm, _, 0, _, rfl, rfl, SqT.of hpm', a0, _, rfl, _, _, rfl, rfl, cd _, ?_⟩)⟩)⟩
        refine ⟨(by show (2 : Nat) ≤ sizeLine; decide), fun pq hpq => ?_⟩
        have s37 : Same H36 (upd H36 pq (.tup [V.int (lt.getD k 0 / (G : Int)), V.int (lb / (G : Int))])) := Same.upd_new hpq
        have q2 : Fr (upd H36 pq (.tup [V.int (lt.getD k 0 / (G : Int)), V.int (lb / (G : Int))])) (.ref pq) (low (lt.getD k 0) lb) := by
          rw [hlow]
          exact Fr.new
        dsimp only [tNil]
        refine rep_fr q2 lw1 lw2 fun a2' ha2 => ?_
        obtain rfl : a1' = a2' := ha1.trans ha2.symm
        exact ⟨rfl, _, rfl, ifN (fun k => absurd rfl k) fun _ => hN _ _ ⟨s356.trans s37, rfl⟩⟩
    rintro _ H38 ⟨s38, rfl⟩
    have D38 := D34.same s38
    replace g1 := g1.same s38
    replace g2 := g2.same s38
    replace g3 := g3.same s38
    clear s38 D34 h17 hpm hrm km hlm lw1 lw2 hlow cd gb gl gp gd
    have k1t : k < t1.length := by omega
    have hat : atI (t1.map V.int) (k : Int) = some (V.int (t1.getD k 0)) := atI_nat (getD_at k1t)
    have g1' := g1
    obtain ⟨po, ro, rfl, hpo, hro⟩ := g1'
    refine tSeq_join (fun σ H' => H38 = H' ∧ ∃ st : Int, σ = stt a d many i (.ref po) u2 u3 pn F pd qt near far (some wv) (some (.int (k : Int))) (some (.int (G : Int))) (some (.int st)) p19 ∧ (st = 1 ∨ st = -1)) (fun N hN => ?_) ?_
    · refine ⟨_, rfl, .inr (.inl ⟨po, _, 1, _, rfl, rfl, SqT.of hpo, a1, _, rfl, .inr (.inl ⟨ro, _, _, _, rfl, rfl, SqT.of hro, hat, _, _, rfl, rfl, _, rfl, ifD (fun _ => hN _ _ ⟨rfl, 1, rfl, .inl rfl⟩) fun _ => ⟨_, rfl, hN _ _ ⟨rfl, -1, rfl, .inr rfl⟩⟩⟩)⟩)⟩
    rintro _ _ ⟨rfl, st, rfl, hst⟩
    have hb1 := L1.lt p1
    refine tSeq_join (fun σ H' => Same H38 H' ∧ ∃ bv : V, σ = stt a d many i (.ref po) u2 u3 pn F pd qt near far (some wv) (some (.int (k : Int))) (some (.int (G : Int))) (some (.int st)) (some bv) ∧ Bg H' bv b1 (bent t1 k (t1.getD k 0 + st))) (fun N hN => ?_) ?_
    · refine ⟨_, rfl, _, rfl, slA_gen hpo fun H1 q1 s1 hq1 => ?_⟩
      have hq1' : H1 q1 = some (.tup [V.int b1]) := hq1.trans (congrArg (fun l => some (HO.tup l)) (cut_take _ 1))
      refine ⟨_, rfl, .inr (.inl ⟨po, _, 1, _, rfl, rfl, SqT.of (s1 _ _ hpo), a1, _, rfl, _, rfl, slA_gen (s1 _ _ hro) fun H2 q2 s2 hq2 => ?_⟩)⟩
      rw [cut_take, ← List.map_take] at hq2
      have s12 := s1.trans s2
      refine ⟨_, rfl, .inr (.inl ⟨po, _, 1, _, rfl, rfl, SqT.of (s12 _ _ hpo), a1, _, rfl, .inr (.inl ⟨ro, _, _, _, rfl, rfl, SqT.of (s12 _ _ hro), hat, _, rfl, _, _, rfl, rfl, (by show (1 : Nat) ≤ sizeLine; decide), fun q3 hq3 => ?_⟩)⟩)⟩
      have s3 : Same H2 (upd H2 q3 (.tup [V.int (t1.getD k 0 + st)])) := Same.upd_new hq3
      refine catA_all (s3 _ _ hq2) upd_same ?_ fun H4 q4 s4 hq4 => ?_
      · rw [List.length_map, List.length_take]
        exact Nat.le_trans (by show _ ≤ 401; show min k t1.length + 1 ≤ 401; omega) (by decide)
      have s14 := s12.trans (s3.trans s4)
      refine ⟨_, rfl, .inr (.inl ⟨po, _, 1, _, rfl, rfl, SqT.of (s14 _ _ hpo), a1, _, rfl, _, _, rfl, rfl, _, rfl, ?_⟩)⟩
      dsimp only [tNoPart]
      refine slA_gen (s14 _ _ hro) fun H5 q5 s5 hq5 => ?_
      have hq5' : H5 q5 = some (.tup ((t1.drop (k + 1)).map V.int)) := hq5.trans (by rw [List.map_drop]; exact congrArg (fun l => some (HO.tup l)) (cut_drop _ (k + 1)))
      have s15 := s14.trans s5
      refine catA_all (s5 _ _ hq4) hq5' ?_ fun H6 q6 s6 hq6 => ?_
      · rw [List.length_append, List.length_map, List.length_map, List.length_take, List.length_drop]
        exact Nat.le_trans (by show _ ≤ 801; show min k t1.length + 1 + (t1.length - (k + 1)) ≤ 801; omega) (by decide)
      refine ⟨(by show (1 : Nat) ≤ sizeLine; decide), fun q7 hq7 => ?_⟩
      have s7 : Same H6 (upd H6 q7 (.tup [.ref q6])) := Same.upd_new hq7
      have s27 := s2.trans (s3.trans (s4.trans (s5.trans (s6.trans s7))))
      refine catA_all (s27 _ _ hq1') upd_same (by show (2 : Nat) ≤ sizeLine; decide) fun H8 q8 s8 hq8 => ?_
      refine hN _ _ ⟨s1.trans (s27.trans s8), .ref q8, rfl, q8, q6, rfl, hq8, ?_⟩
      rw [s8 _ _ (s7 _ _ hq6)]
      unfold bent
      rw [List.map_append, List.map_append]
      rfl
    rintro _ H39 ⟨s39, bv, rfl, hbv⟩
    have z0 : t1.getD k 0 + st ≠ t1.getD k 0 := by rcases hst with h | h <;> omega
    have lb : (bent t1 k (t1.getD k 0 + st)).length = t1.length := bent_len _ k1t
    have lk : (t1.getD k 0).natAbs ≤ 10 ^ 30 := getD_le L1.t k
    have Lb : Le (2 * 10 ^ 30) b1 (bent t1 k (t1.getD k 0 + st)) := by
      refine ⟨Nat.le_trans L1.b (by decide), fun x hx => ?_⟩
      unfold bent at hx
      rcases List.mem_append.mp hx with hx | hx
      · rcases List.mem_append.mp hx with hx | hx
        · exact Nat.le_trans (L1.t x (List.mem_of_mem_take hx)) (by decide)
        · rw [List.mem_singleton.mp hx]
          rcases hst with h | h <;> omega
      · exact Nat.le_trans (L1.t x (List.mem_of_mem_drop hx)) (by decide)
    have Wb := up8 Lb (by decide)
    refine ⟨_, rfl, _, rfl, .ref po, bv, b1, b1, t1, _, rfl, g1.same s39, hbv, oB1, ⟨oB1.1, by rw [lb]; exact oB1.2.1, by rw [lb]; exact oB1.2.2⟩, W1.1, Wb.1, W1.2, Wb.2, fun H40 s40 => ?_⟩
    rw [apart_bent z1 k1t z0]
    have s3940 := s39.trans s40
    refine ⟨_, rfl, rfl, _, rfl, ifNI (fun k => absurd rfl k) fun _ => ?_⟩
    refine ⟨_, rfl, _, rfl, _, rfl, .ref po, u2, u3, b1, t1, b2, t2, b3, t3, rfl, g1.same s3940, g2.same s3940, g3.same s3940, oB1, oB2, oB3, L1, L2', L3, fun H41 s41 => ?_⟩
    refine ⟨_, rfl, iteF ?_⟩
    exact ⟨D38.same (s3940.trans s41), _, _, _, _, _, _, _, _, _, _, _, _, _, _, _, _, rfl⟩
end
end Ft

set_option exponentiation.threshold 9000
namespace Ft
open PySem L2
theorem df_mk {K : PySem.W.Frag} {h : Heap} {mg : Str → Option Value} {x : Str} {st : Stmt} {ps : List Str} {f : Addr} {oc kV doc pm cdv ct : Value} {od an : Option Addr} {osl : Array (Option Value)} (X : K.In h) (G : h.Ns mainGlobals mg)
    (a : PySem.W.nsIn K mainGlobals x = some (some (.ref f))) (l : K.lookup f = some ⟨oc, od, .func (PySem.W.fnOf x x (defArgs st) (defBody st) (defScope st) .none kV doc pm an cdv ct), osl⟩) (c : PySem.W.codeIn K cdv x = true) (k : PySem.W.keepIn K (.ref f) = true)
    (hb : ∀ (kV doc pm : Value) (an : Option Addr) (cdv ct : Value) (us : List Value), us.length = ps.length → bindArgs (PySem.W.fnOf x x (defArgs st) (defBody st) (defScope st) .none kV doc pm an cdv ct) ⟨us, []⟩ = pure (ps.zip us)) : Df K mg x st ps :=
  have F := fun_mk (st := st) l c k
  ⟨f, _, F, PySem.W.mg_of X G a, F.binds hb⟩
theorem b1 {x : Str} {st : Stmt} {p0 : Str} (h : ∀ (kV doc pm : Value) (an : Option Addr) (cdv ct u0 : Value), bindArgs (PySem.W.fnOf x x (defArgs st) (defBody st) (defScope st) .none kV doc pm an cdv ct) ⟨[u0], []⟩ = pure [(p0, u0)]) :
    ∀ (kV doc pm : Value) (an : Option Addr) (cdv ct : Value) (us : List Value), us.length = [p0].length → bindArgs (PySem.W.fnOf x x (defArgs st) (defBody st) (defScope st) .none kV doc pm an cdv ct) ⟨us, []⟩ = pure ([p0].zip us) :=
  fun kV doc pm an cdv ct us hl => match us, hl with | [u0], _ => h kV doc pm an cdv ct u0
theorem b2 {x : Str} {st : Stmt} {p0 p1 : Str} (h : ∀ (kV doc pm : Value) (an : Option Addr) (cdv ct u0 u1 : Value), bindArgs (PySem.W.fnOf x x (defArgs st) (defBody st) (defScope st) .none kV doc pm an cdv ct) ⟨[u0, u1], []⟩ = pure [(p0, u0), (p1, u1)]) :
    ∀ (kV doc pm : Value) (an : Option Addr) (cdv ct : Value) (us : List Value), us.length = [p0, p1].length → bindArgs (PySem.W.fnOf x x (defArgs st) (defBody st) (defScope st) .none kV doc pm an cdv ct) ⟨us, []⟩ = pure ([p0, p1].zip us) :=
  fun kV doc pm an cdv ct us hl => match us, hl with | [u0, u1], _ => h kV doc pm an cdv ct u0 u1
theorem b3 {x : Str} {st : Stmt} {p0 p1 p2 : Str} (h : ∀ (kV doc pm : Value) (an : Option Addr) (cdv ct u0 u1 u2 : Value), bindArgs (PySem.W.fnOf x x (defArgs st) (defBody st) (defScope st) .none kV doc pm an cdv ct) ⟨[u0, u1, u2], []⟩ = pure [(p0, u0), (p1, u1), (p2, u2)]) :
    ∀ (kV doc pm : Value) (an : Option Addr) (cdv ct : Value) (us : List Value), us.length = [p0, p1, p2].length → bindArgs (PySem.W.fnOf x x (defArgs st) (defBody st) (defScope st) .none kV doc pm an cdv ct) ⟨us, []⟩ = pure ([p0, p1, p2].zip us) :=
  fun kV doc pm an cdv ct us hl => match us, hl with | [u0, u1, u2], _ => h kV doc pm an cdv ct u0 u1 u2
/-- the defs of the text, as the top has left them -/
structure Dfs (K : PySem.W.Frag) (mg : Str → Option Value) : Prop where
  is_integer : Df K mg "is_integer" s_is_integer ["thing"]
  is_from : Df K mg "is_from" s_is_from ["thing", "least"]
  is_between : Df K mg "is_between" s_is_between ["thing", "least", "most"]
  is_tuple_of_integers : Df K mg "is_tuple_of_integers" s_is_tuple_of_integers ["thing", "many"]
  is_pair_of_integers : Df K mg "is_pair_of_integers" s_is_pair_of_integers ["thing"]
  is_number : Df K mg "is_number" s_is_number ["thing"]
  check_between : Df K mg "check_between" s_check_between ["thing", "least", "most"]
  check_number : Df K mg "check_number" s_check_number ["thing"]
  lowest_terms : Df K mg "lowest_terms" s_lowest_terms ["top", "bottom"]
  is_beginning : Df K mg "is_beginning" s_is_beginning ["thing"]
  check_beginning : Df K mg "check_beginning" s_check_beginning ["beginning"]
  lowered : Df K mg "lowered" s_lowered ["bottom", "tops"]
  term_at : Df K mg "term_at" s_term_at ["beginning", "n"]
  added : Df K mg "added" s_added ["one", "other"]
  multiplied : Df K mg "multiplied" s_multiplied ["one", "other"]
  product_tops : Df K mg "product_tops" s_product_tops ["one", "other"]
  times : Df K mg "times" s_times ["beginning", "number"]
  first_apart : Df K mg "first_apart" s_first_apart ["one", "other"]
  ldeck : Df K mg "_law_deck" s__law_deck ["_law_script"]
  ldraw : Df K mg "_law_draw" s__law_draw ["_law_deck_here", "_law_many"]
  linteger : Df K mg "_law_integer" s__law_integer ["_law_deck_here", "_law_way"]
  lbeginning : Df K mg "_law_beginning" s__law_beginning ["_law_deck_here", "_law_many"]
  lcommon : Df K mg "_law_common" s__law_common ["_law_one", "_law_other"]
  lreduced : Df K mg "_law_reduced" s__law_reduced ["_law_bottom", "_law_tops"]
  ladded : Df K mg "_law_added" s__law_added ["_law_one", "_law_other"]
  lmultiplied : Df K mg "_law_multiplied" s__law_multiplied ["_law_one", "_law_other"]
  ltimes : Df K mg "_law_times" s__law_times ["_law_one", "_law_number"]
  lapart : Df K mg "_law_apart" s__law_apart ["_law_one", "_law_other"]
  lother_form : Df K mg "_law_other_form" s__law_other_form ["_law_one", "_law_factor"]
  lis_short : Df K mg "_law_is_short" s__law_is_short ["_law_one"]
  lis_grouped : Df K mg "_law_is_grouped" s__law_is_grouped ["_law_one", "_law_other", "_law_third"]
  law : Df K mg "law" s_law ["_law_script"]
theorem law_all {P : Program} {w : World} {K : PySem.W.Frag} {mg : Str → Option Value} {base : Heap} {f : Addr} {fd : FuncData}  (D : Dfs K mg) (B : Bi mg) (F : Fun K "law" "law" s_law f fd) : FnG P w K mg base 7 f fd ["_law_script"] (sp_law K) := by
  have c_int : Cal P w K mg base _ "is_integer" _ := ok_is_integer D.is_integer B
  have c_from : Cal P w K mg base _ "is_from" _ := ok_is_from D.is_from c_int
  have c_btw : Cal P w K mg base _ "is_between" _ := ok_is_between D.is_between c_int
  have c_cb : Cal P w K mg base _ "check_between" _ := ok_check_between D.check_between c_btw
  have c_tu : Cal P w K mg base _ "is_tuple_of_integers" _ := ok_is_tuple D.is_tuple_of_integers B c_int
  have c_pr : Cal P w K mg base _ "is_pair_of_integers" _ := ok_is_pair D.is_pair_of_integers c_tu
  have c_nu : Cal P w K mg base _ "is_number" _ := ok_is_number D.is_number B c_pr
  have c_cn : Cal P w K mg base _ "check_number" _ := ok_check_number D.check_number B c_nu
  have c_lt : Cal P w K mg base _ "lowest_terms" _ := ok_lowest_terms D.lowest_terms B
  have c_ib : Cal P w K mg base _ "is_beginning" _ := ok_is_beginning D.is_beginning B c_from c_int
  have c_cg : Cal P w K mg base _ "check_beginning" _ := ok_check_beginning D.check_beginning c_ib
  have c_lo : Cal P w K mg base _ "lowered" _ := ok_lowered D.lowered B
  have c_ta : Cal P w K mg base _ "term_at" _ := ok_term_at D.term_at B c_cg c_cb c_lt
  have c_pt : Cal P w K mg base _ "product_tops" _ := ok_ptops D.product_tops B
  have c_added : Cal P w K mg base 5 "added" (sp_bin addL) := by
    obtain ⟨f, fd, F, m, b⟩ := D.added.ex
    exact ⟨f, fd, _, fn_added F B c_cg c_lo, m, F.kp, b⟩
  have k_added : CalK P w K mg base 5 "added" ["other", "one"] swapV (sp_bin addL) := by
    obtain ⟨f, fd, F, m, b⟩ := D.added.ex
    exact ⟨f, fd, _, _, fn_added F B c_cg c_lo, m, F.kp, kb_added F⟩
  have c_multiplied : Cal P w K mg base 5 "multiplied" (sp_bin fun _ t1 _ t2 => mulL t1 t2) := by
    obtain ⟨f, fd, F, m, b⟩ := D.multiplied.ex
    exact ⟨f, fd, _, fn_multiplied F c_cg c_lo c_pt, m, F.kp, b⟩
  have k_multiplied : CalK P w K mg base 5 "multiplied" ["other", "one"] swapV (sp_bin fun _ t1 _ t2 => mulL t1 t2) := by
    obtain ⟨f, fd, F, m, b⟩ := D.multiplied.ex
    exact ⟨f, fd, _, _, fn_multiplied F c_cg c_lo c_pt, m, F.kp, kb_multiplied F⟩
  have c_times : Cal P w K mg base 6 "times" sp_times := by
    obtain ⟨f, fd, F, m, b⟩ := D.times.ex
    exact ⟨f, fd, _, fn_times F c_cg c_cn c_lo, m, F.kp, b⟩
  have k_times : CalK P w K mg base 6 "times" ["number", "beginning"] swapV sp_times := by
    obtain ⟨f, fd, F, m, b⟩ := D.times.ex
    exact ⟨f, fd, _, _, fn_times F c_cg c_cn c_lo, m, F.kp, kb_times F⟩
  have c_first_apart : Cal P w K mg base 5 "first_apart" sp_apart := by
    obtain ⟨f, fd, F, m, b⟩ := D.first_apart.ex
    exact ⟨f, fd, _, fn_first_apart F B c_cg, m, F.kp, b⟩
  have k_first_apart : CalK P w K mg base 5 "first_apart" ["other", "one"] swapV sp_apart := by
    obtain ⟨f, fd, F, m, b⟩ := D.first_apart.ex
    exact ⟨f, fd, _, _, fn_first_apart F B c_cg, m, F.kp, kb_first_apart F⟩
  have c_draw : Cal P w K mg base _ "_law_draw" _ := ok_draw D.ldraw B
  have c_deck : Cal P w K mg base _ "_law_deck" _ := ok_deck D.ldeck B
  have c_in : Cal P w K mg base _ "_law_integer" _ := ok_integer D.linteger B c_draw
  have c_beg : Cal P w K mg base _ "_law_beginning" _ := ok_beginning D.lbeginning B c_draw c_in
  have c_com : Cal P w K mg base _ "_law_common" _ := ok_common D.lcommon B
  have c_red : Cal P w K mg base _ "_law_reduced" _ := ok_reduced D.lreduced B c_com
  have c_la : Cal P w K mg base _ "_law_added" _ := ok_ladded D.ladded B c_red
  have c_lm : Cal P w K mg base _ "_law_multiplied" _ := ok_lmul D.lmultiplied B c_red
  have c_lti : Cal P w K mg base _ "_law_times" _ := ok_ltimes D.ltimes c_red
  have c_ap : Cal P w K mg base _ "_law_apart" _ := ok_lapart D.lapart B
  have c_of : Cal P w K mg base _ "_law_other_form" _ := ok_form D.lother_form B
  have c_sh : Cal P w K mg base _ "_law_is_short" _ := ok_short D.lis_short B
  have c_gr : CalG P w K mg base 6 "_law_is_grouped" sp_grouped := by
    obtain ⟨f, fd, F, m, b⟩ := D.lis_grouped.ex
    exact ⟨f, fd, _, fn_grouped F B c_multiplied c_added c_sh, m, F.kp, b⟩
  exact fn_law F B c_deck c_draw c_beg c_in c_ap c_lti c_lm c_la c_first_apart c_times c_multiplied c_added k_first_apart k_times k_multiplied k_added c_ib c_of c_com c_ta c_sh c_gr
theorem walk {l : PySem.W.OpenLaw} {q : Program} {loose : List Str} {XP : (Str → Option Value) → Heap → Prop} {YP : World → Heap → Prop} {d : DefRec} {K : Params → PySem.W.Frag} (hn : l.most = some 63) (hdf : d.params.defaults = [])
    (hY : ∀ (w : World) (h : Heap), YP w h → (K w.params).In h)
    (F : ∀ (w : World) (mg : Str → Option Value) (fa : Addr) (h : Heap), (K w.params).In h → h.Ns mainGlobals mg → mg d.name = some (.ref fa) →
      ∃ fd : FuncData, (∀ (s : Shared) (u : Value), BindsTo s fd ⟨[u], []⟩ [("_law_script", u)]) ∧ ∀ base : Heap, (K w.params).In base → base.Ns mainGlobals mg → FnG l.prog w (K w.params) mg base 7 fa fd ["_law_script"] (sp_law (K w.params))) :
    PySem.W.WalkO q loose XP YP l.row.toRowW d [] (fun f vs => PySem.call f vs) :=
  walk_g (n := 63) (k := 7) (x := "_law_script") (sp := sp_law) hn (by decide) hdf ⟨rfl, by decide, by decide⟩ hY F (fun _ _ a ns hl hS => ⟨a, ns, rfl, hS, hl, fun _ => rfl⟩)
theorem law_at {l : PySem.W.OpenLaw} {w : World} {K : PySem.W.Frag} {mg : Str → Option Value} {h : Heap} {fa f : Addr} {oc kV doc pm cdv ct : Value} {od an : Option Addr} {osl : Array (Option Value)}  (X : K.In h) (G : h.Ns mainGlobals mg) (hfa : mg "law" = some (.ref fa))
    (a : PySem.W.nsIn K mainGlobals "law" = some (some (.ref f))) (lk : K.lookup f = some ⟨oc, od, .func (PySem.W.fnOf "law" "law" (defArgs s_law) (defBody s_law) (defScope s_law) .none kV doc pm an cdv ct), osl⟩) (c : PySem.W.codeIn K cdv "law" = true) (k : PySem.W.keepIn K (.ref f) = true)
    (D : Dfs K mg) (B : Bi mg) :
    ∃ fd : FuncData, (∀ (s : Shared) (u : Value), BindsTo s fd ⟨[u], []⟩ [("_law_script", u)]) ∧ ∀ base : Heap, K.In base → base.Ns mainGlobals mg → FnG l.prog w K mg base 7 fa fd ["_law_script"] (sp_law K) := by
  have e := hfa.symm.trans (PySem.W.mg_of X G a)
  cases e
  exact ⟨_, fun s u => .of_eq rfl, fun base _ _ => law_all  D B (fun_mk (st := s_law) lk c k)⟩
end Ft

open PySem PySem.W PyProof.Rows in
set_option maxRecDepth 100000 in
set_option maxHeartbeats 0 in
theorem PySem.Challenge.cw_firstterms_k10_sums_and_products_of_begi_holds : PySem.Challenge.rw_firstterms_k10_sums_and_products_of_begi.Holds := by
  w_on; o_law; k_head; (case hw => w_witness2)
  k_fill
  refine Ft.walk (l := PySem.Challenge.rw_firstterms_k10_sums_and_products_of_begi) rfl rfl (fun w h Y => PySem.W.kIn_of Y) ?F
  case F =>
    intro w mg fa h KX G hmg
    refine' Ft.law_at  KX G hmg ?a ?lk ?c ?k ?D ?B
    (case a => k_is); (case lk => k_is); (case c => k_is); (case k => k_is)
    case D =>
      refine ⟨?d0, ?d1, ?d2, ?d3, ?d4, ?d5, ?d6, ?d7, ?d8, ?d9, ?d10, ?d11, ?d12, ?d13, ?d14, ?d15, ?d16, ?d17, ?d18, ?d19, ?d20, ?d21, ?d22, ?d23, ?d24, ?d25, ?d26, ?d27, ?d28, ?d29, ?d30, ?d31⟩
      (case d0 => refine' Ft.df_mk KX G ?a0 ?l0 ?c0 ?k0 (Ft.b1 fun _ _ _ _ _ _ _ => rfl); (case a0 => k_is); (case l0 => k_is); (case c0 => k_is); (case k0 => k_is))
      (case d1 => refine' Ft.df_mk KX G ?a1 ?l1 ?c1 ?k1 (Ft.b2 fun _ _ _ _ _ _ _ _ => rfl); (case a1 => k_is); (case l1 => k_is); (case c1 => k_is); (case k1 => k_is))
      (case d2 => refine' Ft.df_mk KX G ?a2 ?l2 ?c2 ?k2 (Ft.b3 fun _ _ _ _ _ _ _ _ _ => rfl); (case a2 => k_is); (case l2 => k_is); (case c2 => k_is); (case k2 => k_is))
      (case d3 => refine' Ft.df_mk KX G ?a3 ?l3 ?c3 ?k3 (Ft.b2 fun _ _ _ _ _ _ _ _ => rfl); (case a3 => k_is); (case l3 => k_is); (case c3 => k_is); (case k3 => k_is))
      (case d4 => refine' Ft.df_mk KX G ?a4 ?l4 ?c4 ?k4 (Ft.b1 fun _ _ _ _ _ _ _ => rfl); (case a4 => k_is); (case l4 => k_is); (case c4 => k_is); (case k4 => k_is))
      (case d5 => refine' Ft.df_mk KX G ?a5 ?l5 ?c5 ?k5 (Ft.b1 fun _ _ _ _ _ _ _ => rfl); (case a5 => k_is); (case l5 => k_is); (case c5 => k_is); (case k5 => k_is))
      (case d6 => refine' Ft.df_mk KX G ?a6 ?l6 ?c6 ?k6 (Ft.b3 fun _ _ _ _ _ _ _ _ _ => rfl); (case a6 => k_is); (case l6 => k_is); (case c6 => k_is); (case k6 => k_is))
      (case d7 => refine' Ft.df_mk KX G ?a7 ?l7 ?c7 ?k7 (Ft.b1 fun _ _ _ _ _ _ _ => rfl); (case a7 => k_is); (case l7 => k_is); (case c7 => k_is); (case k7 => k_is))
      (case d8 => refine' Ft.df_mk KX G ?a8 ?l8 ?c8 ?k8 (Ft.b2 fun _ _ _ _ _ _ _ _ => rfl); (case a8 => k_is); (case l8 => k_is); (case c8 => k_is); (case k8 => k_is))
      (case d9 => refine' Ft.df_mk KX G ?a9 ?l9 ?c9 ?k9 (Ft.b1 fun _ _ _ _ _ _ _ => rfl); (case a9 => k_is); (case l9 => k_is); (case c9 => k_is); (case k9 => k_is))
      (case d10 => refine' Ft.df_mk KX G ?a10 ?l10 ?c10 ?k10 (Ft.b1 fun _ _ _ _ _ _ _ => rfl); (case a10 => k_is); (case l10 => k_is); (case c10 => k_is); (case k10 => k_is))
      (case d11 => refine' Ft.df_mk KX G ?a11 ?l11 ?c11 ?k11 (Ft.b2 fun _ _ _ _ _ _ _ _ => rfl); (case a11 => k_is); (case l11 => k_is); (case c11 => k_is); (case k11 => k_is))
      (case d12 => refine' Ft.df_mk KX G ?a12 ?l12 ?c12 ?k12 (Ft.b2 fun _ _ _ _ _ _ _ _ => rfl); (case a12 => k_is); (case l12 => k_is); (case c12 => k_is); (case k12 => k_is))
      (case d13 => refine' Ft.df_mk KX G ?a13 ?l13 ?c13 ?k13 (Ft.b2 fun _ _ _ _ _ _ _ _ => rfl); (case a13 => k_is); (case l13 => k_is); (case c13 => k_is); (case k13 => k_is))
      (case d14 => refine' Ft.df_mk KX G ?a14 ?l14 ?c14 ?k14 (Ft.b2 fun _ _ _ _ _ _ _ _ => rfl); (case a14 => k_is); (case l14 => k_is); (case c14 => k_is); (case k14 => k_is))
      (case d15 => refine' Ft.df_mk KX G ?a15 ?l15 ?c15 ?k15 (Ft.b2 fun _ _ _ _ _ _ _ _ => rfl); (case a15 => k_is); (case l15 => k_is); (case c15 => k_is); (case k15 => k_is))
      (case d16 => refine' Ft.df_mk KX G ?a16 ?l16 ?c16 ?k16 (Ft.b2 fun _ _ _ _ _ _ _ _ => rfl); (case a16 => k_is); (case l16 => k_is); (case c16 => k_is); (case k16 => k_is))
      (case d17 => refine' Ft.df_mk KX G ?a17 ?l17 ?c17 ?k17 (Ft.b2 fun _ _ _ _ _ _ _ _ => rfl); (case a17 => k_is); (case l17 => k_is); (case c17 => k_is); (case k17 => k_is))
      (case d18 => refine' Ft.df_mk KX G ?a18 ?l18 ?c18 ?k18 (Ft.b1 fun _ _ _ _ _ _ _ => rfl); (case a18 => k_is); (case l18 => k_is); (case c18 => k_is); (case k18 => k_is))
      (case d19 => refine' Ft.df_mk KX G ?a19 ?l19 ?c19 ?k19 (Ft.b2 fun _ _ _ _ _ _ _ _ => rfl); (case a19 => k_is); (case l19 => k_is); (case c19 => k_is); (case k19 => k_is))
      (case d20 => refine' Ft.df_mk KX G ?a20 ?l20 ?c20 ?k20 (Ft.b2 fun _ _ _ _ _ _ _ _ => rfl); (case a20 => k_is); (case l20 => k_is); (case c20 => k_is); (case k20 => k_is))
      (case d21 => refine' Ft.df_mk KX G ?a21 ?l21 ?c21 ?k21 (Ft.b2 fun _ _ _ _ _ _ _ _ => rfl); (case a21 => k_is); (case l21 => k_is); (case c21 => k_is); (case k21 => k_is))
      (case d22 => refine' Ft.df_mk KX G ?a22 ?l22 ?c22 ?k22 (Ft.b2 fun _ _ _ _ _ _ _ _ => rfl); (case a22 => k_is); (case l22 => k_is); (case c22 => k_is); (case k22 => k_is))
      (case d23 => refine' Ft.df_mk KX G ?a23 ?l23 ?c23 ?k23 (Ft.b2 fun _ _ _ _ _ _ _ _ => rfl); (case a23 => k_is); (case l23 => k_is); (case c23 => k_is); (case k23 => k_is))
      (case d24 => refine' Ft.df_mk KX G ?a24 ?l24 ?c24 ?k24 (Ft.b2 fun _ _ _ _ _ _ _ _ => rfl); (case a24 => k_is); (case l24 => k_is); (case c24 => k_is); (case k24 => k_is))
      (case d25 => refine' Ft.df_mk KX G ?a25 ?l25 ?c25 ?k25 (Ft.b2 fun _ _ _ _ _ _ _ _ => rfl); (case a25 => k_is); (case l25 => k_is); (case c25 => k_is); (case k25 => k_is))
      (case d26 => refine' Ft.df_mk KX G ?a26 ?l26 ?c26 ?k26 (Ft.b2 fun _ _ _ _ _ _ _ _ => rfl); (case a26 => k_is); (case l26 => k_is); (case c26 => k_is); (case k26 => k_is))
      (case d27 => refine' Ft.df_mk KX G ?a27 ?l27 ?c27 ?k27 (Ft.b2 fun _ _ _ _ _ _ _ _ => rfl); (case a27 => k_is); (case l27 => k_is); (case c27 => k_is); (case k27 => k_is))
      (case d28 => refine' Ft.df_mk KX G ?a28 ?l28 ?c28 ?k28 (Ft.b2 fun _ _ _ _ _ _ _ _ => rfl); (case a28 => k_is); (case l28 => k_is); (case c28 => k_is); (case k28 => k_is))
      (case d29 => refine' Ft.df_mk KX G ?a29 ?l29 ?c29 ?k29 (Ft.b1 fun _ _ _ _ _ _ _ => rfl); (case a29 => k_is); (case l29 => k_is); (case c29 => k_is); (case k29 => k_is))
      (case d30 => refine' Ft.df_mk KX G ?a30 ?l30 ?c30 ?k30 (Ft.b3 fun _ _ _ _ _ _ _ _ _ => rfl); (case a30 => k_is); (case l30 => k_is); (case c30 => k_is); (case k30 => k_is))
      (case d31 => refine' Ft.df_mk KX G ?a31 ?l31 ?c31 ?k31 (Ft.b1 fun _ _ _ _ _ _ _ => rfl); (case a31 => k_is); (case l31 => k_is); (case c31 => k_is); (case k31 => k_is))
    case B =>
      refine' ⟨PySem.W.mg_none_of KX G ?z0, PySem.W.mg_none_of KX G ?z1, PySem.W.mg_none_of KX G ?z2, PySem.W.mg_none_of KX G ?z3, PySem.W.mg_of KX G ?z4, PySem.W.mg_none_of KX G ?z5, PySem.W.mg_none_of KX G ?z6, PySem.W.mg_none_of KX G ?z7, PySem.W.mg_none_of KX G ?z8, PySem.W.mg_none_of KX G ?z9, PySem.W.mg_none_of KX G ?z10, PySem.W.mg_none_of KX G ?z11, PySem.W.mg_none_of KX G ?z12, PySem.W.mg_none_of KX G ?z13, PySem.W.mg_none_of KX G ?z14, PySem.W.mg_none_of KX G ?z15, PySem.W.mg_none_of KX G ?z16, PySem.W.mg_none_of KX G ?z17, PySem.W.mg_none_of KX G ?z18, PySem.W.mg_none_of KX G ?z19⟩
      (case z0 => k_is)
      (case z1 => k_is)
      (case z2 => k_is)
      (case z3 => k_is)
      (case z4 => k_is)
      (case z5 => k_is)
      (case z6 => k_is)
      (case z7 => k_is)
      (case z8 => k_is)
      (case z9 => k_is)
      (case z10 => k_is)
      (case z11 => k_is)
      (case z12 => k_is)
      (case z13 => k_is)
      (case z14 => k_is)
      (case z15 => k_is)
      (case z16 => k_is)
      (case z17 => k_is)
      (case z18 => k_is)
      (case z19 => k_is)

