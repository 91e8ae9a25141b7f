import PyProof.Rows.All
import Wide.All
import OpenK.AllK
import Wide.FinOn
import HandS.ForMost
import HandS.Flow
import HandS.Wide
import HandS.Gcd
import HandS.IsInst
import HandS.Zip
import HandS.Ends
import HandS.Walk
import KE.KMathGC
import HandS.Style
import Flt.RightSqrt
import KE.GoesMore
import KE.GoesEnum
import PyProof.Draws
import HandS.Iter
import KE.GoesZip
import PyProof.ReprBulk
import PyProof.Rows.StrJoinMade
import HandS.TupMul
import HandS.TupAny
import HandS.RaiseMore
import HandS.WideBits
import PySem.Challenge.RW_firstterms_k12_spread_cut_twisted_and_sh
set_option Elab.async false
set_option maxRecDepth 100000
namespace Ft
open PySem L2

/-! ### general: what a def may be called for -/
structure Cal (P : Program) (w : World) (K : PySem.W.Frag) (mg : Str → Option Value) (base : Heap) (k : Nat) (x : Str) (sp : Sp) : Prop where
  ex : ∃ (f : Addr) (fd : FuncData) (ps : List Str), FnOk P w K mg base CX0 k f fd ps sp ∧ mg x = some (.ref f) ∧ PySem.W.keepIn K (.ref f) = true ∧ Binds K fd ps []
/-- a def of the top: its text stands, its name leads to it, its arguments bind -/
structure Df (K : PySem.W.Frag) (mg : Str → Option Value) (x : Str) (st : Stmt) (ps : List Str) : Prop where
  ex : ∃ (f : Addr) (fd : FuncData), Fun K x x st f fd ∧ mg x = some (.ref f) ∧ Binds K fd ps []
section
variable {X : Cx} {k j : Nat} {x : Str} {sp : Sp} {p pos : Pos} {e : Expr} {es : List Expr} {t : TA}
theorem pe_c (c : Cal X.prog X.w X.K X.mg X.base k x sp) (hr : Room j X.A) (hk : k ≤ j) (hg : Gl X x) (ha : PA X (e :: es) t)
    (hdb : (x == ("__debug__" : Str)) = false := by decide) (he : starEach (e :: es) X.env = (false, eval e X.env) :: starEach es X.env := by rfl) (hpl : (backTo pos (starEach es X.env)).any (·.1) = false := by rfl) :
    PE X (.Call (.Name x p) (e :: es) [] pos) (tCall sp [] E0 t) := by
  obtain ⟨f, fd, ps, F, hm, kp, b⟩ := c.ex
  exact pe_call F (hr.mono hk) hg hm kp b .nil pass0 ha hdb he hpl
end
/-- what may be called for by keywords alone, in this order -/
structure CalK (P : Program) (w : World) (K : PySem.W.Frag) (mg : Str → Option Value) (base : Heap) (k : Nat) (x : Str) (ks : List Str) (gV : List V → List V → List V) (sp : Sp) : Prop where
  ex : ∃ (f : Addr) (fd : FuncData) (ps : List Str) (g : List Value → List Value → List Value), FnOk P w K mg base CX0 k f fd ps sp ∧ mg x = some (.ref f) ∧ PySem.W.keepIn K (.ref f) = true ∧ KBinds K fd ps ks g gV
section
variable {X : Cx} {k j : Nat} {x : Str} {ks : List Str} {gV : List V → List V → List V} {sp : Sp} {p pos : Pos} {kws : List Keyword} {tk : TA}
theorem pe_k0 (c : CalK X.prog X.w X.K X.mg X.base k x ks gV sp) (hr : Room j X.A) (hk : k ≤ j) (hg : Gl X x) (hkw : PK X kws tk)
    (hall : (backToKw pos (keywordEach kws X.env)).all (·.1.isSome) = true := by rfl) (hks : (backToKw pos (keywordEach kws X.env)).filterMap (·.1) = ks := by rfl) (hdb : (x == ("__debug__" : Str)) = false := by decide)
    (hpl : ((backTo pos (starEach [] X.env)).any (·.1) || (backToKw pos (keywordEach kws X.env)).any (·.1.isNone)) = false := by rfl) :
    PE X (.Call (.Name x p) [] kws pos) (tCallK sp gV E0 tNil tk) := by
  obtain ⟨f, fd, ps, g, F, hm, kp, b⟩ := c.ex
  refine ⟨fun pins s σ H Q I h => wpAny_Call_Name_kw (ld_glob I hg hm ?_ hdb)⟩
  refine PySem.W.callWith_KW0 (h₀ := X.base) I.ok.mod.kin kp hall (thn (hkw.run pos pins s σ H _ I h) fun ws s2 ⟨zs, H2, I2, rz, q2⟩ => ⟨I2.kIn, ?_⟩) hpl
  rw [hks]
  exact run_fnk F (hr.mono hk) b pass0 I2 .nil rz q2
end
section
variable {X : Cx}
theorem pe_ty {x : Str} {n : String} {pos : Pos} (hg : Gl X x) (hm : X.mg x = none) (hv : bootBuiltins x = some (.type n)) (hn : x ≠ "__name__" := by decide) (hd : (x == ("__debug__" : Str)) = false := by decide) : PE X (.Name x pos) (tC (.ty n)) := pe_bltn hg hm hv rfl hn hd
end
theorem kit_int_int {K : PySem.W.Frag} : PySem.W.kitOne K (.type "int") (.type "int") = some true := kit_ty (by decide +kernel)
theorem kit_int_bool {K : PySem.W.Frag} : PySem.W.kitOne K (.type "int") (.type "bool") = some false := kit_ty (by decide +kernel)
theorem ifD {c A B : Prop} [Decidable c] (h1 : c → A) (h2 : ¬ c → B) : if decide c = true then A else B := by
  by_cases h : c
  · rw [decide_eq_true h]; exact iteT (h1 h)
  · rw [decide_eq_false h]; exact iteF (h2 h)
theorem ifI {i j : Int} {A B : Prop} (h1 : i = j → A) (h2 : i ≠ j → B) : if decide (V.int i = V.int j) = true then A else B :=
  ifD (fun h => h1 (V.int.inj h)) fun h => h2 fun e => h (congrArg V.int e)
theorem ifN {c A B : Prop} [Decidable c] (h1 : ¬ c → A) (h2 : c → B) : if (!decide c) = true then A else B := by
  by_cases h : c
  · rw [decide_eq_true h]; exact iteF (h2 h)
  · rw [decide_eq_false h]; exact iteT (h1 h)
theorem ifNI {i j : Int} {A B : Prop} (h1 : i ≠ j → A) (h2 : i = j → B) : if (!decide (V.int i = V.int j)) = true then A else B :=
  ifN (fun h => h1 fun e => h (congrArg V.int e)) fun h => h2 (V.int.inj h)
/-- what follows, said once for all ways that lead there -/
theorem tSeq_join {a b : TS} {D : Ends} {σ : L2.St} {H : Hp} (J : L2.St → Hp → Prop) (h1 : ∀ N : L2.St → Hp → Prop, (∀ σ H, J σ H → N σ H) → a { D with nx := N } σ H) (h2 : ∀ σ H, J σ H → b D σ H) : tSeq a b D σ H := h1 (b D) h2
/-- while, by an invariant and a measure -/
theorem while_go {c : TT} {tb : TS} {D : Ends} {σ : L2.St} {H : Hp} (Pv : L2.St → Hp → Prop) (μ : L2.St → Hp → Nat) (h0 : Pv σ H)
    (hs : ∀ σ H, Pv σ H → c σ H fun b H1 => if b = true then ∃ N : L2.St → Hp → Prop, (∀ σ' H', N σ' H' → ∃ m', m' < μ σ H ∧ m' = μ σ' H' ∧ Pv σ' H') ∧ tb { D with nx := N, ct := N, bk := D.nx } σ H1 else D.nx σ H1) :
    tWhile c tb D σ H := by
  refine ⟨fun m σ H => m = μ σ H ∧ Pv σ H, ⟨_, rfl, h0⟩, ?_⟩
  rintro m σ H ⟨rfl, p⟩
  exact hs σ H p
/-- math.isqrt below 2 ^ 64 -/
def rIsqrt : List V → Hp → VK → Prop := fun vs H Q => ∃ a : Int, vs = [.int a] ∧ 0 ≤ a ∧ a < 2 ^ 64 ∧ Q (.int ((Float64.isqrt a.toNat : Nat) : Int)) H
theorem cr_isqrt {X : Cx} : CallR X (.builtin "math.isqrt") rIsqrt := by
  intro pins s σ H vs us Q I r h
  obtain ⟨a, rfl, h0, h1, q⟩ := h
  obtain ⟨u, rfl, t, rfl⟩ := vals1 r
  exact PySem.W.mg_isqrt h0 h1 ⟨.int _, H, I.tok _, ⟨_, rfl⟩, q⟩
/-- the built-ins of the text -/
structure Bi (mg : Str → Option Value) : Prop where
  abs : mg "abs" = none
  all : mg "all" = none
  bool : mg "bool" = none
  enumerate : mg "enumerate" = none
  gcd : mg "gcd" = some (.builtin "math.gcd")
  int : mg "int" = none
  int_ : mg "int" = none
  isinstance : mg "isinstance" = none
  isqrt : mg "isqrt" = some (.builtin "math.isqrt")
  len : mg "len" = none
  len_ : mg "len" = none
  list : mg "list" = none
  max : mg "max" = none
  max_ : mg "max" = none
  min : mg "min" = none
  min_ : mg "min" = none
  range : mg "range" = none
  repr : mg "repr" = none
  tuple : mg "tuple" = none
  zip : mg "zip" = none
/-- math.comb of ints from 0 to 18000 -/
def rComb : List V → Hp → VK → Prop := fun vs H Q => ∃ a b : Int, vs = [.int a, .int b] ∧ 0 ≤ a ∧ 0 ≤ b ∧ a ≤ 18000 ∧ Q (.int (PySem.W.mcComb a b)) H
theorem cr_comb {X : Cx} : CallR X (.builtin "math.comb") rComb := by
  intro pins s σ H vs us Q I r h
  obtain ⟨a, b, rfl, h0, h1, h2, q⟩ := h
  obtain ⟨t, u, rfl⟩ := Vals.int2 r
  exact PySem.W.mc_comb h0 h1 (by omega) (.inr h2) fun _ => ⟨.int _, H, I.tok _, ⟨_, rfl⟩, q⟩
end Ft

namespace Ft
open PySem L2
def top (i : Nat) : Stmt := PySem.Challenge.pw_firstterms_k12_spread_cut_twisted_and_sh.main.body.getD i (.Pass ⟨0, 0, 0, 0⟩)
abbrev s_is_integer : Stmt := top 7
abbrev N_is_integer : List Str := ["thing"]
theorem sc_is_integer : FnScope N_is_integer ["thing"] (defScope s_is_integer) := ⟨rfl, rfl, rfl, by decide +kernel, rfl, by decide +kernel, by decide +kernel⟩
abbrev s_is_from : Stmt := top 8
abbrev N_is_from : List Str := ["thing", "least"]
theorem sc_is_from : FnScope N_is_from ["thing", "least"] (defScope s_is_from) := ⟨rfl, rfl, rfl, by decide +kernel, rfl, by decide +kernel, by decide +kernel⟩
abbrev s_is_between : Stmt := top 9
abbrev N_is_between : List Str := ["thing", "least", "most"]
theorem sc_is_between : FnScope N_is_between ["thing", "least", "most"] (defScope s_is_between) := ⟨rfl, rfl, rfl, by decide +kernel, rfl, by decide +kernel, by decide +kernel⟩
abbrev s_check_from : Stmt := top 10
abbrev N_check_from : List Str := ["thing", "least"]
theorem sc_check_from : FnScope N_check_from ["thing", "least"] (defScope s_check_from) := ⟨rfl, rfl, rfl, by decide +kernel, rfl, by decide +kernel, by decide +kernel⟩
abbrev s_check_between : Stmt := top 11
abbrev N_check_between : List Str := ["thing", "least", "most"]
theorem sc_check_between : FnScope N_check_between ["thing", "least", "most"] (defScope s_check_between) := ⟨rfl, rfl, rfl, by decide +kernel, rfl, by decide +kernel, by decide +kernel⟩
abbrev s_is_sign : Stmt := top 13
abbrev N_is_sign : List Str := ["thing"]
theorem sc_is_sign : FnScope N_is_sign ["thing"] (defScope s_is_sign) := ⟨rfl, rfl, rfl, by decide +kernel, rfl, by decide +kernel, by decide +kernel⟩
abbrev s_check_sign : Stmt := top 14
abbrev N_check_sign : List Str := ["sign"]
theorem sc_check_sign : FnScope N_check_sign ["sign"] (defScope s_check_sign) := ⟨rfl, rfl, rfl, by decide +kernel, rfl, by decide +kernel, by decide +kernel⟩
abbrev s_value_at : Stmt := top 15
abbrev N_value_at : List Str := ["sign", "n", "rest", "value"]
theorem sc_value_at : FnScope N_value_at ["sign", "n"] (defScope s_value_at) := ⟨rfl, rfl, rfl, by decide +kernel, rfl, by decide +kernel, by decide +kernel⟩
abbrev s_value_at_two : Stmt := top 16
abbrev N_value_at_two : List Str := ["sign"]
theorem sc_value_at_two : FnScope N_value_at_two ["sign"] (defScope s_value_at_two) := ⟨rfl, rfl, rfl, by decide +kernel, rfl, by decide +kernel, by decide +kernel⟩
abbrev s_value_at_odd : Stmt := top 17
abbrev N_value_at_odd : List Str := ["top", "bottom", "value"]
theorem sc_value_at_odd : FnScope N_value_at_odd ["top", "bottom"] (defScope s_value_at_odd) := ⟨rfl, rfl, rfl, by decide +kernel, rfl, by decide +kernel, by decide +kernel⟩
abbrev s_any_sign_of : Stmt := top 18
abbrev N_any_sign_of : List Str := ["m", "bare"]
theorem sc_any_sign_of : FnScope N_any_sign_of ["m"] (defScope s_any_sign_of) := ⟨rfl, rfl, rfl, by decide +kernel, rfl, by decide +kernel, by decide +kernel⟩
abbrev s_without_squares : Stmt := top 19
abbrev N_without_squares : List Str := ["m", "rest", "bare", "p", "root"]
theorem sc_without_squares : FnScope N_without_squares ["m"] (defScope s_without_squares) := ⟨rfl, rfl, rfl, by decide +kernel, rfl, by decide +kernel, by decide +kernel⟩
abbrev s_is_beginning : Stmt := top 21
abbrev N_is_beginning : List Str := ["thing", "bottom", "tops", "top"]
theorem sc_is_beginning : FnScope N_is_beginning ["thing"] (defScope s_is_beginning) := ⟨rfl, rfl, rfl, by decide +kernel, rfl, by decide +kernel, by decide +kernel⟩
abbrev s_check_beginning : Stmt := top 22
abbrev N_check_beginning : List Str := ["beginning"]
theorem sc_check_beginning : FnScope N_check_beginning ["beginning"] (defScope s_check_beginning) := ⟨rfl, rfl, rfl, by decide +kernel, rfl, by decide +kernel, by decide +kernel⟩
abbrev s_lowered : Stmt := top 23
abbrev N_lowered : List Str := ["bottom", "tops", "common", "top"]
theorem sc_lowered : FnScope N_lowered ["bottom", "tops"] (defScope s_lowered) := ⟨rfl, rfl, rfl, by decide +kernel, rfl, by decide +kernel, by decide +kernel⟩
abbrev s_spread : Stmt := top 24
abbrev N_spread : List Str := ["beginning", "d", "bottom", "tops", "n"]
theorem sc_spread : FnScope N_spread ["beginning", "d"] (defScope s_spread) := ⟨rfl, rfl, rfl, by decide +kernel, rfl, by decide +kernel, by decide +kernel⟩
abbrev s_every : Stmt := top 25
abbrev N_every : List Str := ["beginning", "d", "bottom", "tops", "n"]
theorem sc_every : FnScope N_every ["beginning", "d"] (defScope s_every) := ⟨rfl, rfl, rfl, by decide +kernel, rfl, by decide +kernel, by decide +kernel⟩
abbrev s_twisted : Stmt := top 26
abbrev N_twisted : List Str := ["beginning", "sign", "bottom", "tops", "n", "top"]
theorem sc_twisted : FnScope N_twisted ["beginning", "sign"] (defScope s_twisted) := ⟨rfl, rfl, rfl, by decide +kernel, rfl, by decide +kernel, by decide +kernel⟩
abbrev s_shifted : Stmt := top 27
abbrev N_shifted : List Str := ["beginning", "s", "bottom", "tops"]
theorem sc_shifted : FnScope N_shifted ["beginning", "s"] (defScope s_shifted) := ⟨rfl, rfl, rfl, by decide +kernel, rfl, by decide +kernel, by decide +kernel⟩
abbrev s_first_apart : Stmt := top 28
abbrev N_first_apart : List Str := ["one", "other", "n"]
theorem sc_first_apart : FnScope N_first_apart ["one", "other"] (defScope s_first_apart) := ⟨rfl, rfl, rfl, by decide +kernel, rfl, by decide +kernel, by decide +kernel⟩
abbrev s__law_deck : Stmt := top 30
abbrev N__law_deck : List Str := ["_law_script", "_law_mixed", "_law_cell"]
theorem sc__law_deck : FnScope N__law_deck ["_law_script"] (defScope s__law_deck) := ⟨rfl, rfl, rfl, by decide +kernel, rfl, by decide +kernel, by decide +kernel⟩
abbrev s__law_draw : Stmt := top 31
abbrev N__law_draw : List Str := ["_law_deck_here", "_law_many", "_law_number", "_law_cell"]
theorem sc__law_draw : FnScope N__law_draw ["_law_deck_here", "_law_many"] (defScope s__law_draw) := ⟨rfl, rfl, rfl, by decide +kernel, rfl, by decide +kernel, by decide +kernel⟩
abbrev s__law_pick : Stmt := top 32
abbrev N__law_pick : List Str := ["_law_deck_here", "_law_some"]
theorem sc__law_pick : FnScope N__law_pick ["_law_deck_here", "_law_some"] (defScope s__law_pick) := ⟨rfl, rfl, rfl, by decide +kernel, rfl, by decide +kernel, by decide +kernel⟩
abbrev s__law_beginning : Stmt := top 33
abbrev N__law_beginning : List Str := ["_law_deck_here", "_law_many", "_law_way", "_law_factor", "_law_tops", "_law_at", "_law_top"]
theorem sc__law_beginning : FnScope N__law_beginning ["_law_deck_here", "_law_many"] (defScope s__law_beginning) := ⟨rfl, rfl, rfl, by decide +kernel, rfl, by decide +kernel, by decide +kernel⟩
abbrev s__law_is_sign : Stmt := top 34
abbrev N__law_is_sign : List Str := ["_law_number", "_law_m", "_law_k"]
theorem sc__law_is_sign : FnScope N__law_is_sign ["_law_number"] (defScope s__law_is_sign) := ⟨rfl, rfl, rfl, by decide +kernel, rfl, by decide +kernel, by decide +kernel⟩
abbrev s__law_sign : Stmt := top 35
abbrev N__law_sign : List Str := ["_law_deck_here", "_law_number", "_law_step"]
theorem sc__law_sign : FnScope N__law_sign ["_law_deck_here"] (defScope s__law_sign) := ⟨rfl, rfl, rfl, by decide +kernel, rfl, by decide +kernel, by decide +kernel⟩
abbrev s__law_at_prime : Stmt := top 36
abbrev N__law_at_prime : List Str := ["_law_sign_here", "_law_p", "_law_x"]
theorem sc__law_at_prime : FnScope N__law_at_prime ["_law_sign_here", "_law_p"] (defScope s__law_at_prime) := ⟨rfl, rfl, rfl, by decide +kernel, rfl, by decide +kernel, by decide +kernel⟩
abbrev s__law_values : Stmt := top 37
abbrev N__law_values : List Str := ["_law_sign_here", "_law_many", "_law_found", "_law_n", "_law_p", "_law_least"]
theorem sc__law_values : FnScope N__law_values ["_law_sign_here", "_law_many"] (defScope s__law_values) := ⟨rfl, rfl, rfl, by decide +kernel, rfl, by decide +kernel, by decide +kernel⟩
abbrev s__law_reduced : Stmt := top 38
abbrev N__law_reduced : List Str := ["_law_bottom", "_law_tops", "_law_common", "_law_top", "_law_one", "_law_other"]
theorem sc__law_reduced : FnScope N__law_reduced ["_law_bottom", "_law_tops"] (defScope s__law_reduced) := ⟨rfl, rfl, rfl, by decide +kernel, rfl, by decide +kernel, by decide +kernel⟩
abbrev s__law_spread : Stmt := top 39
abbrev N__law_spread : List Str := ["_law_one", "_law_d", "_law_n"]
theorem sc__law_spread : FnScope N__law_spread ["_law_one", "_law_d"] (defScope s__law_spread) := ⟨rfl, rfl, rfl, by decide +kernel, rfl, by decide +kernel, by decide +kernel⟩
abbrev s__law_every : Stmt := top 40
abbrev N__law_every : List Str := ["_law_one", "_law_d", "_law_n", "_law_x"]
theorem sc__law_every : FnScope N__law_every ["_law_one", "_law_d"] (defScope s__law_every) := ⟨rfl, rfl, rfl, by decide +kernel, rfl, by decide +kernel, by decide +kernel⟩
abbrev s__law_twisted : Stmt := top 41
abbrev N__law_twisted : List Str := ["_law_one", "_law_sign_here", "_law_x", "_law_value"]
theorem sc__law_twisted : FnScope N__law_twisted ["_law_one", "_law_sign_here"] (defScope s__law_twisted) := ⟨rfl, rfl, rfl, by decide +kernel, rfl, by decide +kernel, by decide +kernel⟩
abbrev s__law_is_right : Stmt := top 42
abbrev N__law_is_right : List Str := ["_law_one", "_law_d", "_law_sign_here", "_law_s", "_law_way", "_law_due", "_law_told"]
theorem sc__law_is_right : FnScope N__law_is_right ["_law_one", "_law_d", "_law_sign_here", "_law_s", "_law_way"] (defScope s__law_is_right) := ⟨rfl, rfl, rfl, by decide +kernel, rfl, by decide +kernel, by decide +kernel⟩
abbrev s__law_are_together : Stmt := top 43
abbrev N__law_are_together : List Str := ["_law_one", "_law_d", "_law_e", "_law_first", "_law_second", "_law_near", "_law_back", "_law_many", "_law_twice", "_law_values_here", "_law_x", "_law_value"]
theorem sc__law_are_together : FnScope N__law_are_together ["_law_one", "_law_d", "_law_e", "_law_first", "_law_second"] (defScope s__law_are_together) := ⟨rfl, rfl, rfl, by decide +kernel, rfl, by decide +kernel, by decide +kernel⟩
abbrev s_law : Stmt := top 44
abbrev N_law : List Str := ["_law_script", "_law_deck_here", "_law_many", "_law_turn", "_law_one", "_law_sign_here", "_law_other", "_law_d", "_law_s", "_law_n", "_law_x", "_law_zeros", "_law_some"]
theorem sc_law : FnScope N_law ["_law_script"] (defScope s_law) := ⟨rfl, rfl, rfl, by decide +kernel, rfl, by decide +kernel, by decide +kernel⟩
end Ft

/-! Defs that are called where no repr is under way (A.guards = some []): their texts may say repr of a list or a tuple. -/
namespace Ft
open PySem L2 PySem.Spec PyProof.Rows

structure FnG (P : Program) (w : World) (K : PySem.W.Frag) (mg : Str → Option Value) (base : Heap) (k : Nat) (f : Addr) (fd : FuncData) (ps : List Str) (sp : Sp) : Prop where
  len : ∀ vs H Q E, sp vs H Q E → vs.length = ps.length
  go : ∀ (A : Around) (outer : List Env) (s : Shared) (H : Hp) (args : Args) (us : List Value) (vs : List V) (Q : VK) (E : XK), A.guards = some [] → Room k A →
    Env0 P w K mg base A outer s H → BindsTo s fd args (ps.zip us) → Vals vs us → sp vs H Q E → codeAny (model P w) A (.call (.ref f) args) (CR CX0 outer P w H s Q E) s
theorem FnG.of {P : Program} {w : World} {K : PySem.W.Frag} {mg : Str → Option Value} {base : Heap} {k : Nat} {f : Addr} {fd : FuncData} {ps : List Str} {sp : Sp} (F : FnOk P w K mg base CX0 k f fd ps sp) : FnG P w K mg base k f fd ps sp :=
  ⟨F.len, fun A outer s H args us vs Q E _ => F.run A outer s H args us vs Q E⟩
/-- what may be called for, where no repr is under way -/
structure CalG (P : Program) (w : World) (K : PySem.W.Frag) (mg : Str → Option Value) (base : Heap) (k : Nat) (x : Str) (sp : Sp) : Prop where
  ex : ∃ (f : Addr) (fd : FuncData) (ps : List Str), FnG P w K mg base k f fd ps sp ∧ mg x = some (.ref f) ∧ PySem.W.keepIn K (.ref f) = true ∧ Binds K fd ps []
section
variable {X : Cx} {k j : Nat} {x : Str} {sp : Sp} {p pos : Pos} {e : Expr} {es : List Expr} {t : TA}
theorem pe_g (c : CalG X.prog X.w X.K X.mg X.base k x sp) (hgd : X.A.guards = some []) (hr : Room j X.A) (hk : k ≤ j) (hg : Gl X x) (ha : PA X (e :: es) t)
    (hdb : (x == ("__debug__" : Str)) = false := by decide) (he : starEach (e :: es) X.env = (false, eval e X.env) :: starEach es X.env := by rfl) (hpl : (backTo pos (starEach es X.env)).any (·.1) = false := by rfl) :
    PE X (.Call (.Name x p) (e :: es) [] pos) (tCall sp [] E0 t) := by
  obtain ⟨f, fd, ps, F, hm, kp, b⟩ := c.ex
  refine ⟨fun pins s σ H Q I h => wpAny_Call_Name_kw (ld_glob I hg hm ?_ hdb)⟩
  refine PySem.W.callWith_K (h₀ := X.base) I.ok.mod.kin kp (thn (ha.run pos pins s σ H _ I h) fun us s1 ⟨vs, H1, I1, rv, q1⟩ => ⟨I1.kIn, ?_⟩) he hpl
  have rv' : Vals (vs ++ []) us := by rw [List.append_nil]; exact rv
  have hl : us.length = ps.length := by
    have z := F.len _ _ _ _ q1
    rw [rv'.length] at z
    exact z
  have bd := b s1 us I1.kIn (by rw [List.append_nil]; exact hl)
  rw [List.append_nil] at bd
  refine wpAny_call (codeAny_mono (F.go X.A X.stack s1 H1 ⟨us, []⟩ us (vs ++ []) Q E0 hgd (hr.mono hk) I1.env0 bd rv' q1) fun r s2 hq => ?_)
  match r, hq with
  | .error _, hq => exact (hq : False).elim
  | .ok (.ret _), hq => exact I1.after hq
  | .ok .next, hq => exact (hq : False).elim
  | .ok .brk, hq => exact (hq : False).elim
  | .ok .cont, hq => exact (hq : False).elim
end
/-- a def by its body, where no repr is under way -/
theorem fun_g {P : Program} {w : World} {K : PySem.W.Frag} {mg : Str → Option Value} {base : Heap} {x qual : Str} {st : Stmt} {f : Addr} {fd : FuncData} {N ps : List Str} {k : Nat} {sp : Sp} (F : Fun K x qual st f fd) (S : FnScope N ps (defScope st))
    (len : ∀ vs H Q E, sp vs H Q E → vs.length = ps.length)
    (body : ∀ (cdv : Value) (A : Around) (outer : List Env) (s : Shared) (H : Hp) (vs : List V) (Q : VK) (E : XK), (A.deeper (envOfC qual (defScope st) s.heap.objs.size f cdv)).guards = some [] →
      Room k (A.deeper (envOfC qual (defScope st) s.heap.objs.size f cdv)) → sp vs H Q E →
      ∃ t, PSs (cxOf CX0 P w K mg base N qual (defScope st) f cdv A outer s H E).nox (defBody st) t ∧ t { nx := fun _ H' => Q .non H', rt := Q } (start N vs) H) : FnG P w K mg base (k + 1) f fd ps sp := by
  obtain ⟨oc, od, kV, doc, pm, an, cdv, ct, osl, rfl, lk, hcd⟩ := F.ex
  refine ⟨len, fun A outer s H args us vs Q E hgd hr e0 hb rv hsp => ?_⟩
  have inK : K.In s.heap := e0.mod.kin.keeps fun b o e => (e0.bs b o e).1
  have noL : s.heap.NoLimit := e0.mod.nolimit.keeps fun b o e => (e0.bs b o e).1
  have kinds : ∀ y ∈ ps.zip us, (defScope st).names.lookup y.1 = some .local ∨ ((defScope st).names.lookup y.1 = some .cell ∧ ((cellsFrom (s.heap.objs.size + 1) (defScope st).names []).lookup y.1).isSome = true) := by
    intro y hy
    rcases S.par y.1 (List.of_mem_zip hy).1 with q | q
    · exact .inl q
    · exact .inr ⟨q, PySem.W.cellsFrom_some _ _ _ (.inl q)⟩
  refine codeAny_call_function hr.depth (inK _ _ lk) rfl S.co S.gen rfl (PySem.W.codeRec_of inK hcd) (hb _ _ _ _ ?_)
  refine wpAny_newFunctionEnv_cells S.kind kinds fun env he s1 made => ?_
  subst he
  refine ⟨noL.keeps made.toInCall.keep, codeAny_func ?_⟩
  obtain ⟨t, ht, hq⟩ := body cdv A outer s H vs Q E hgd (hr.deeper _) hsp
  have J0 : Inv (cxOf CX0 P w K mg base N qual (defScope st) f cdv A outer s H E) [] (start N vs) H s1 := inv_start S hr.hd e0 (len _ _ _ _ hsp) rv made
  refine wpAny_mono (ht.nox.run [] s1 (start N vs) H _ J0 hq) (fun fl s' hs => ?_) fun _ _ hs => hs
  match fl, hs with
  | .ret u, hs =>
    obtain ⟨v, σ', H', J, rv', q⟩ := hs
    exact ⟨v, H', J.os, J.bare, J.base, J.hok, rv', q⟩
  | .next, hs =>
    obtain ⟨σ', H', J, q⟩ := hs
    exact ⟨V.non, H', J.os, J.bare, J.base, J.hok, rfl, q⟩
  | .brk, hs => exact (hs.choose_spec.choose_spec.2 : False).elim
  | .cont, hs => exact (hs.choose_spec.choose_spec.2 : False).elim
end Ft

/-! The law's call, from a promise that holds where no repr is under way. -/
namespace Ft
open PySem L2 PySem.Spec PyProof.Rows

/-- the heap behind the top, seen with the script tracked (or nothing) -/
theorem call_of {P : Program} {w : World} {K : PySem.W.Frag} {mg mb : Str → Option Value} {k : Nat} {fa a : Addr} {fd : FuncData} {x : Str} {sp : Sp} {s1 : Shared} {vs : List Value} {H : Hp}
    (inK : K.In s1.heap) (hns : s1.heap.Ns mainGlobals mg) (hb : s1.heap.Ns builtinsNs mb) (hbb : ∀ x : Str, x ≠ "__name__" → mb x = bootBuiltins x) (hlim : s1.heap.NoLimit) (hg : s1.gens = #[])
    (ha : s1.heap.get? a = some { cls := .type "list", data := .seq vs.toArray }) (hr : Room k callerA)
    (F : ∀ base : Heap, K.In base → base.Ns mainGlobals mg → FnG P w K mg base k fa fd [x] sp) (hbind : ∀ (s : Shared) (u : Value), BindsTo s fd ⟨[u], []⟩ [(x, u)])
    (hO : Only H) (hp : sp [.ref a] H (fun v _ => v = .bl true) fun _ _ _ => False) (hok : HOk P w H s1.heap) (only : ∀ b, H b ≠ none → b = a) (notK : H a ≠ none → K.lookup a = none) :
    codeAny (model P w) callerA (.call (.ref fa) ⟨[.ref a], []⟩) (fun r s2 => r = .ok (.ret (.bool true)) ∧ OldK s1.heap s2.heap ∧ s2.os = s1.os ∧ AllBare s2.gens) s1 := by
  have below : ∀ {b : Addr} {o : Obj}, s1.heap.get? b = some o → H b = none → (hidT s1.heap H).get? b = some o := fun e n => hidT_get e n
  have dictFree : ∀ {b : Addr} {o : Obj} {es : Array DictEntry} {ep : Nat}, s1.heap.get? b = some o → o.data = .dict es ep → H b = none := by
    intro b o es ep e d
    cases q : H b with
    | none => rfl
    | some z =>
      obtain rfl : b = a := only b (fun n => by rw [n] at q; cases q)
      rw [ha] at e
      cases e
      exact absurd (show Data.seq vs.toArray _ = Data.dict es ep from d) (fun z => by cases z)
  have spaces : ∀ {b : Addr} {m : Str → Option Value}, s1.heap.Ns b m → (hidT s1.heap H).Ns b m := fun {b m} ⟨o, es, ep, e, d, r⟩ => ⟨o, es, ep, below e (dictFree e d), d, r⟩
  have inB : K.In (hidT s1.heap H) := by
    intro b o e
    refine below (inK b o e) ?_
    cases q : H b with
    | none => rfl
    | some z =>
      have nz : H b ≠ none := fun n => by rw [n] at q; cases q
      obtain rfl : b = a := only b nz
      rw [notK nz] at e
      cases e
  have hM : Mod K mg (hidT s1.heap H) := ⟨inB, spaces hns, ⟨mb, spaces hb, hbb⟩, hlim.elim fun mc z => ⟨mc, spaces z.1, z.2⟩⟩
  have noFr : ∀ b ∈ frs ([] : List Env), H b = none := fun b z => absurd (show b ∈ ([] : List Addr) from z) List.not_mem_nil
  have e0 : Env0 P w K mg (hidT s1.heap H) callerA [] s1 H := ⟨rfl, hM, fun b o e => of_hidT e, Nat.le_of_eq (hidT_size _ _), trivial, noFr, hok, .of_eq hg⟩
  refine codeAny_mono ((F _ inB (spaces hns)).go callerA [] s1 H ⟨[.ref a], []⟩ [.ref a] [.ref a] _ _ rfl hr e0 (hbind s1 (.ref a)) (.cons rfl .nil) hp) fun r s2 h => ?_
  match r, h with
  | .error _, h => exact (h : False).elim
  | .ok .next, h => exact (h : False).elim
  | .ok .brk, h => exact (h : False).elim
  | .ok .cont, h => exact (h : False).elim
  | .ok (.ret u), h =>
    obtain ⟨v, H2, os, bare, un, hok2, rv, q⟩ := h
    obtain rfl : v = .bl true := q
    obtain rfl : u = Value.bool true := rv
    refine ⟨rfl, OldK.of_keep fun b o e => ?_, os, bare⟩
    cases q : H b with
    | none => exact un.keep b o e q (fun z => absurd (show b ∈ ([] : List Addr) from z) List.not_mem_nil) List.not_mem_nil
    | some z =>
      rcases hO b with n | ⟨ob, xs, y⟩
      · rw [q] at n; cases n
      · have k1 := (hok b _ y).1
        have k2 := (hok2 b _ (un.frzs b ob _ y)).1
        rw [e] at k1
        cases k1
        exact k2
/-- what k_head leaves, from the law's promise -/
theorem walk_g {l : PySem.W.OpenLaw} {n k : Nat} {q : Program} {loose : List Str} {XP : (Str → Option Value) → Heap → Prop} {YP : World → Heap → Prop} {d : DefRec} {K : Params → PySem.W.Frag} {sp : PySem.W.Frag → Sp} {x : Str}
    (hn : l.most = some n) (hn2 : n ≤ sizeLine) (hdf : d.params.defaults = []) (hr : Room k callerA)
    (hY : ∀ (w : World) (h : Heap), YP w h → (K w.params).In h)
    (F : ∀ (w : World) (mg : Str → Option Value) (fa : Addr) (h : Heap), (K w.params).In h → h.Ns mainGlobals mg → mg d.name = some (.ref fa) →
      ∃ fd : FuncData, (∀ (s : Shared) (u : Value), BindsTo s fd ⟨[u], []⟩ [(x, u)]) ∧
        ∀ base : Heap, (K w.params).In base → base.Ns mainGlobals mg → FnG l.prog w (K w.params) mg base k fa fd [x] (sp (K w.params)))
    (hsp : ∀ (K : PySem.W.Frag) (H : Hp) (a : Addr) (ns : List Int), ns.length ≤ n → SqL K H a (ns.map V.int) → sp K [.ref a] H (fun v _ => v = .bl true) fun _ _ _ => False) :
    PySem.W.WalkO q loose XP YP l.row.toRowW d [] (fun f vs => PySem.call f vs) := by
  refine Att.attach_call hn hdf fun w s0 s1 mg mb fa o pm cd doc a vs ns G Y ho hd hcd hmg hobj hints hlen hg => ?_
  have inK := hY w _ Y
  obtain ⟨fd, hb, hF⟩ := F w mg fa _ inK G.T.g hmg
  have rv := vals_ints hints
  have lv := hints.length
  have main := fun (H : Hp) (hO : Only H) (hS : SqL (K w.params) H a (ns.map V.int)) => call_of (H := H) inK G.T.g G.T.b G.T.builtins G.T.nolimit hg hobj hr hF hb hO (hsp (K w.params) H a ns hlen hS)
  cases hk : (K w.params).lookup a with
  | some ob =>
    have e := inK a ob hk
    rw [hobj] at e
    cases e
    have none_ : ∀ {b : Addr} {z : HO}, (fun _ => none : Hp) b = some z → False := fun z => by cases z
    exact main (fun _ => none) (fun _ => .inl rfl) (.inr ⟨_, vs.toArray, _, hk, rfl, rfl, rfl, by rw [List.size_toArray, lv]; exact Nat.le_trans hlen hn2, by simpa using rv⟩) (fun b z y => (none_ (b := b) y).elim) (fun b z => absurd rfl z) fun z => absurd rfl z
  | none =>
    let ob : Obj := { cls := .type "list", data := .seq vs.toArray }
    have at_a : ∀ {b : Addr}, b = a → (fun b => if b = a then some (HO.frz ob (.lst (ns.map V.int))) else none : Hp) b = some (.frz ob (.lst (ns.map V.int))) := fun h => if_pos h
    have off_a : ∀ {b : Addr}, ¬ b = a → (fun b => if b = a then some (HO.frz ob (.lst (ns.map V.int))) else none : Hp) b = none := fun h => if_neg h
    refine main (fun b => if b = a then some (.frz ob (.lst (ns.map V.int))) else none) (fun b => ?_) (.inl (.inr ⟨ob, at_a rfl⟩)) (fun b u z => ?_) (fun b z => ?_) fun _ => hk
    · exact (Decidable.em (b = a)).elim (fun h => .inr ⟨_, _, at_a h⟩) fun h => .inl (off_a h)
    · by_cases h : b = a
      · have y := (at_a h).symm.trans z
        cases y
        subst h
        exact ⟨hobj, by rw [List.length_map]; exact Nat.le_trans hlen hn2, vs, _, rv, hobj⟩
      · exact absurd ((off_a h).symm.trans z) (fun y => by cases y)
    · exact (Decidable.em (b = a)).elim id fun h => absurd (off_a h) z
end Ft

/-! repr of data; the deck of draws -/
namespace Ft
open PySem L2 PySem.Spec PyProof.Rows

def rRepr (K : PySem.W.Frag) : List V → Hp → VK → Prop := fun xs H Q => ∃ a d, xs = [.ref a] ∧ Dp K H (.ref a) d ∧ d.showable = true ∧ d.hasDict = false ∧ d.depth ≤ 64 ∧ d.shown.length ≤ sizeLine ∧ Q (.str d.shown) H
theorem call_repr {X : Cx} {k : Nat} (hgd : X.A.guards = some []) (hr : Room k X.A) : CallR X (.builtin "repr") (rRepr X.K) := by
  intro pins s σ H xs us Q I r h
  obtain ⟨a, d, rfl, hd, h1, h2, h3, h4, q⟩ := h
  obtain ⟨u, rfl, rx⟩ := vals1 r
  obtain ⟨as, rd⟩ := Dp.reads I d (.ref a) u hd rx
  obtain rfl : u = Value.ref a := rx
  exact repr_of_reads' rd h1 (fun z => by rw [h2] at z; cases z) hgd (by have := hr.un; omega) (fun _ _ e => e) (fun h' u tk kept => ⟨.str d.shown, H, I.kept kept, ⟨_, rfl⟩, q⟩) h4

/-! ### the deck -/
def kCells : Key := .inr "cells"
def kMixed : Key := .inr "mixed"
def kDraws : Key := .inr "draws"
theorem ncm : ¬ kCells = kMixed := by decide +kernel
theorem ncd : ¬ kCells = kDraws := by decide +kernel
theorem nmd : ¬ kMixed = kDraws := by decide +kernel
theorem nmc : ¬ kMixed = kCells := by decide +kernel
theorem ndc : ¬ kDraws = kCells := by decide +kernel
def deckL (l : Addr) (mx dr : Int) : List (Key × V) := [(kCells, .ref l), (kMixed, .int mx), (kDraws, .int dr)]
theorem deck_cells {l : Addr} {mx dr : Int} : valV (deckL l mx dr) kCells = some (.ref l) := valV_pos rfl
theorem deck_mixed {l : Addr} {mx dr : Int} : valV (deckL l mx dr) kMixed = some (.int mx) := by
  unfold deckL
  rw [valV_neg ncm]
  exact valV_pos rfl
theorem deck_draws {l : Addr} {mx dr : Int} : valV (deckL l mx dr) kDraws = some (.int dr) := by
  unfold deckL
  rw [valV_neg ncd, valV_neg nmd]
  exact valV_pos rfl
theorem deck_put {l : Addr} {mx dr z : Int} : putK (deckL l mx dr) kDraws (.int z) = deckL l mx z := by
  unfold putK deckL
  rw [if_pos (by simp)]
  simp only [List.map_cons, List.map_nil, if_neg ncd, if_neg nmd, if_true]
/-- a deck at d, its list at l -/
def DeckAt (H : Hp) (d l : Addr) : Prop := ∃ (mx dr : Int) (cs : List Int), H d = some (.dK (deckL l mx dr)) ∧ H l = some (.lst (cs.map V.int)) ∧ cs.length ≤ 63
/-- all that was tracked is as it was, but at d and l -/
def But (d l : Addr) (H H' : Hp) : Prop := ∀ b o, H b = some o → b ≠ d → b ≠ l → H' b = some o
theorem But.refl {d l : Addr} {H : Hp} : But d l H H := fun _ _ h _ _ => h
theorem But.trans {d l : Addr} {H H1 H2 : Hp} (a : But d l H H1) (b : But d l H1 H2) : But d l H H2 := fun c o h h1 h2 => b c o (a c o h h1 h2) h1 h2
theorem But.of {d l : Addr} {H H' : Hp} (s : Same H H') : But d l H H' := fun b o h _ _ => s b o h
theorem Same.upd_new {H : Hp} {p : Addr} {o : HO} (h : H p = none) : Same H (upd H p o) := fun b u e => by rw [upd_ne (ne_of_none e h)]; exact e
theorem DeckAt.same {H H' : Hp} {d l : Addr} (D : DeckAt H d l) (s : Same H H') : DeckAt H' d l := by
  obtain ⟨mx, dr, cs, h1, h2, h3⟩ := D
  exact ⟨mx, dr, cs, s _ _ h1, s _ _ h2, h3⟩
theorem DeckAt.ne {H : Hp} {d l : Addr} (D : DeckAt H d l) : d ≠ l := by
  obtain ⟨mx, dr, cs, h1, h2, h3⟩ := D
  exact ne_of h1 h2 (by intro z; cases z)
/-- a new address is neither -/
theorem DeckAt.new {H : Hp} {d l p : Addr} (D : DeckAt H d l) (h : H p = none) : p ≠ d ∧ p ≠ l := by
  obtain ⟨mx, dr, cs, h1, h2, h3⟩ := D
  exact ⟨fun e => (by rw [e, h1] at h; cases h), fun e => (by rw [e, h2] at h; cases h)⟩
/-- draws: from 0 to below many; the deck stays a deck, all else stays -/
def sp_draw : Sp := fun vs H Q _ => ∃ (d l : Addr) (n : Int), vs = [.ref d, .int n] ∧ DeckAt H d l ∧ 0 < n ∧ n < 2 ^ 64 ∧ ∀ (H' : Hp) (r : Int), DeckAt H' d l → But d l H H' → 0 ≤ r → r < n → Q (.int r) H'
theorem sp_draw_len : ∀ vs H Q E, sp_draw vs H Q E → vs.length = 2 := fun _ _ _ _ ⟨_, _, _, e, _⟩ => by rw [e]; rfl
theorem dp_ints {K : PySem.W.Frag} {H : Hp} : ∀ ns : List Int, DpAll K H (ns.map V.int) (ns.map PyData.int)
  | [] => .nil
  | n :: ns => .cons (.int n) (dp_ints ns)
theorem eqv_nil : ∀ ds : List PyData, PyData.eqv (.list ds) (.list []) = ds.isEmpty
  | [] => rfl
  | _ :: _ => rfl
theorem deck_merge {l : Addr} {mx dr : Int} : mergeK [] (deckL l mx dr) = deckL l mx dr := by
  unfold mergeK deckL
  simp only [List.foldl_cons, List.foldl_nil]
  have h1 : putK ([] : List (Key × V)) kCells (.ref l) = [(kCells, V.ref l)] := rfl
  rw [h1]
  have h2 : putK [(kCells, V.ref l)] kMixed (.int mx) = [(kCells, V.ref l), (kMixed, V.int mx)] := putK_new _ (by rw [valV_neg ncm]; rfl)
  rw [h2]
  exact putK_new _ (by rw [valV_neg ncd, valV_neg nmd]; rfl)
/-- a slice of ints is one -/
theorem cut_ints (ns : List Int) (lo hi : Option Int) : ∃ ms : List Int, cutV (ns.map V.int) lo hi = ms.map V.int ∧ ms.length ≤ ns.length := by
  have hl := cutV_length (ns.map V.int) lo hi
  rw [List.length_map] at hl
  have h : cutV (ns.map V.int) lo hi = ((ns.drop (HT.sIx (ns.map V.int).length 0 lo)).take (HT.sIx (ns.map V.int).length (ns.map V.int).length hi - HT.sIx (ns.map V.int).length 0 lo)).map V.int := by
    unfold cutV
    rw [List.map_take, List.map_drop]
  refine ⟨_, h, ?_⟩
  rw [h, List.length_map] at hl
  exact hl
theorem int_at {ns : List Int} {i : Nat} {v : V} (h : (ns.map V.int)[i]? = some v) : ∃ z, v = .int z ∧ ns[i]? = some z := by
  rw [List.getElem?_map] at h
  cases e : ns[i]? with
  | none => rw [e] at h; cases h
  | some z => rw [e] at h; exact ⟨z, (Option.some.inj h).symm, rfl⟩
def sp_deck (K : PySem.W.Frag) : Sp := fun vs H Q _ => ∃ (a : Addr) (ns : List Int), vs = [.ref a] ∧ SqL K H a (ns.map V.int) ∧ ns.length ≤ 63 ∧ ∀ (H' : Hp) (d l : Addr), DeckAt H' d l → Same H H' → H d = none → H l = none → Q (.ref d) H'
theorem sp_deck_len {K : PySem.W.Frag} : ∀ vs H Q E, sp_deck K vs H Q E → vs.length = 1 := fun _ _ _ _ ⟨_, _, e, _⟩ => by rw [e]; rfl
/-- an item of a list that stands -/
def sp_pick (K : PySem.W.Frag) : Sp := fun vs H Q _ => ∃ (d l p : Addr) (xs : List V), vs = [.ref d, .ref p] ∧ DeckAt H d l ∧ (H p = some (.lst xs) ∧ p ≠ l ∨ H p = some (.tup xs)) ∧ 0 < xs.length ∧ xs.length < 2 ^ 64 ∧
  ∀ (H' : Hp) (v : V), DeckAt H' d l → But d l H H' → v ∈ xs → Q v H'
theorem sp_pick_len {K : PySem.W.Frag} : ∀ vs H Q E, sp_pick K vs H Q E → vs.length = 2 := fun _ _ _ _ ⟨_, _, _, _, e, _⟩ => by rw [e]; rfl
end Ft

namespace Ft
open PySem L2

/-! ### the mirror of the program's defs -/
def valueTwo (s : Int) : Int := if s % 2 = 0 then 0 else if s % 8 = 1 then 1 else -1
/-- a sign as an int: true is 1 -/
def sg (v : Bool) : Int := if v = true then 1 else -1
def halve (b : Nat) : Nat → Nat → Bool → Nat × Bool
  | 0, t, v => (t, v)
  | f + 1, t, v => if t % 2 = 0 then halve b f (t / 2) (if b % 8 = 3 ∨ b % 8 = 5 then !v else v) else (t, v)
def jac : Nat → Nat → Nat → Bool → Nat × Bool
  | 0, _, b, v => (b, v)
  | f + 1, t, b, v => if t = 0 then (b, v) else
    let r := halve b t t v
    jac f (b % r.1) r.1 (if r.1 % 4 = 3 ∧ b % 4 = 3 then !r.2 else r.2)
def valueOdd (top : Int) (b : Nat) : Int :=
  let r := jac b (top % (b : Int)).toNat b true
  if r.1 = 1 then sg r.2 else 0
def twos (z : Int) : Nat → Nat → Int → Nat × Int
  | 0, r, v => (r, v)
  | f + 1, r, v => if r % 2 = 0 then twos z f (r / 2) (v * z) else (r, v)
def valueRest (s : Int) (r : Nat) : Int :=
  if r = 0 then (if s = 1 then 1 else 0) else
    let q := twos (valueTwo s) r r 1
    q.2 * valueOdd s q.1
def valueAt (s n : Int) : Int := valueRest s (n % (s.natAbs : Int)).toNat
def sqs (p : Nat) : Nat → Nat → Nat
  | 0, r => r
  | f + 1, r => if r % (p * p) = 0 then sqs p f (r / (p * p)) else r
def wsq : Nat → Nat → Int → Nat → Nat × Int
  | 0, r, b, _ => (r, b)
  | f + 1, r, b, p => if p * p * p ≤ r then
      let r1 := sqs p r r
      if r1 % p = 0 then wsq f (r1 / p) (b * p) (p + 1) else wsq f r1 b (p + 1)
    else (r, b)
def without (m : Int) : Int :=
  let q := wsq m.natAbs m.natAbs (if 0 < m then 1 else -1) 2
  if Float64.isqrt q.1 * Float64.isqrt q.1 = q.1 then q.2 else q.2 * q.1
def anySign (m : Int) : Int := if without m % 4 = 1 then without m else 4 * without m
def isSign (n : Int) : Bool := decide (-400 ≤ n) && (decide (n ≤ 400) && (decide (n ≠ 0) && decide (anySign n = n)))

/-! ### promises -/
def sp1 (C : Int → Prop) (g : Int → V) : Sp := fun vs H Q _ => ∃ n, vs = [.int n] ∧ C n ∧ Q (g n) H
def sp2 (C : Int → Int → Prop) (g : Int → Int → V) : Sp := fun vs H Q _ => ∃ m n, vs = [.int m, .int n] ∧ C m n ∧ Q (g m n) H
def sp3 (C : Int → Int → Int → Prop) (g : Int → Int → Int → V) : Sp := fun vs H Q _ => ∃ l m n, vs = [.int l, .int m, .int n] ∧ C l m n ∧ Q (g l m n) H
theorem sp1_len {C g} : ∀ vs H Q E, sp1 C g vs H Q E → vs.length = 1 := fun _ _ _ _ ⟨_, e, _⟩ => by rw [e]; rfl
theorem sp2_len {C g} : ∀ vs H Q E, sp2 C g vs H Q E → vs.length = 2 := fun _ _ _ _ ⟨_, _, e, _⟩ => by rw [e]; rfl
theorem sp3_len {C g} : ∀ vs H Q E, sp3 C g vs H Q E → vs.length = 3 := fun _ _ _ _ ⟨_, _, _, e, _⟩ => by rw [e]; rfl
def sp_is_integer : Sp := sp1 (fun _ => True) fun _ => .bl true
def sp_is_between : Sp := sp3 (fun _ _ _ => True) fun n a b => .bl (decide (a ≤ n) && decide (n ≤ b))
def sp_check_integer : Sp := sp1 (fun _ => True) fun _ => .non
def sp_is_sign : Sp := sp1 (fun _ => True) fun n => .bl (isSign n)
def sp_check_sign : Sp := sp1 (fun n => isSign n = true) fun _ => .non
def sp_value_at_two : Sp := sp1 (fun _ => True) fun n => .int (valueTwo n)
def sp_value_at_odd : Sp := sp2 (fun _ b => 0 < b) fun t b => .int (valueOdd t b.toNat)
def sp_value_at : Sp := sp2 (fun s _ => s ≠ 0) fun s n => .int (valueAt s n)
def sp_sign_at : Sp := sp2 (fun s _ => isSign s = true) fun s n => .int (valueAt s n)
def sp_without_squares : Sp := sp1 (fun m => m ≠ 0 ∧ m.natAbs ≤ 160000) fun m => .int (without m)
def sp_any_sign_of : Sp := sp1 (fun m => m ≠ 0 ∧ m.natAbs ≤ 160000) fun m => .int (anySign m)
def sp_joined_sign : Sp := sp2 (fun a b => isSign a = true ∧ isSign b = true) fun a b => .int (anySign (a * b))

section
variable {P : Program} {w : World} {K : PySem.W.Frag} {mg : Str → Option Value} {base : Heap}
theorem ok_is_integer (D : Df K mg "is_integer" s_is_integer ["thing"]) (B : Bi mg)  : Cal P w K mg base 1 "is_integer" sp_is_integer := by
  obtain ⟨f, fd, F, m, b⟩ := D.ex
  have sc := sc_is_integer
  refine ⟨f, fd, _, F.ok sc sp1_len (fun cdv A outer s H vs Q E hr h => ?_), m, F.kp, b⟩
  obtain ⟨n, rfl, _, q⟩ := h
  have hu := hu_of hr
  refine ⟨_, (pss_one (ps_ret (pe_and (pe_callB call_isi (by rfl) B.isinstance (by decide +kernel) (pa_cons (pv 0) (pa_cons (pe_ty (n := "int") (by rfl) B.int_ (by decide +kernel)) pa_nil))) (pe_one (pe_not (pe_callB call_isi (by rfl) B.isinstance (by decide +kernel) (pa_cons (pv 0) (pa_cons (pe_ty (n := "bool") (by rfl) B.bool (by decide +kernel)) pa_nil)))))))), ?_⟩
  refine ⟨_, rfl, _, _, _, _, true, rfl, .ty _, .base (.int n), kit_int_int, true, rfl, iteT ?_⟩
  refine ⟨_, rfl, _, _, _, _, false, rfl, .ty _, .base (.int n), kit_int_bool, false, rfl, ?_⟩
  exact q
theorem ok_is_between (D : Df K mg "is_between" s_is_between ["thing", "least", "most"]) (c_is_integer : Cal P w K mg base 1 "is_integer" sp_is_integer) : Cal P w K mg base 2 "is_between" sp_is_between := by
  obtain ⟨f, fd, F, m, b⟩ := D.ex
  have sc := sc_is_between
  refine ⟨f, fd, _, F.ok sc sp3_len (fun cdv A outer s H vs Q E hr h => ?_), m, F.kp, b⟩
  obtain ⟨n, lo, hi, rfl, _, q⟩ := h
  have hu := hu_of hr
  refine ⟨_, (pss_one (ps_ret (pe_and (pe_c c_is_integer hr (by decide) (by rfl) (pa_cons (pv 0) pa_nil)) (pe_one (pe_chain op_le op_le (pv 1) (pv 0) (pv 2)))))), ?_⟩
  refine ⟨_, rfl, n, rfl, trivial, true, rfl, iteT ?_⟩
  refine ⟨_, rfl, _, rfl, lo, n, rfl, rfl, _, rfl, ?_⟩
  refine ifD (fun h => ?_) fun h => ?_
  · refine ⟨_, rfl, n, hi, rfl, rfl, ?_⟩
    simp only [decide_eq_true h, Bool.true_and] at q
    exact q
  · simp only [decide_eq_false h, Bool.false_and] at q
    exact q
theorem ok_value_at_two (D : Df K mg "value_at_two" s_value_at_two ["sign"]) : Cal P w K mg base 1 "value_at_two" sp_value_at_two := by
  obtain ⟨f, fd, F, m, b⟩ := D.ex
  have sc := sc_value_at_two
  refine ⟨f, fd, _, F.ok sc sp1_len (fun cdv A outer s H vs Q E hr h => ?_), m, F.kp, b⟩
  obtain ⟨n, rfl, _, q⟩ := h
  refine ⟨_, (pss_cons (ps_if (pt_cmpR op_eq (pe_op op_mod (pv 0) pe_int) pe_int (nomark _))
      (pss_one (ps_ret pe_int))
      pss_nil)
      (pss_one (ps_ret (pe_ifExp (pt_cmpR op_eq (pe_op op_mod (pv 0) pe_int) pe_int (nomark _)) pe_int (pe_un un_neg pe_int))))), ?_⟩
  replace q : Q (.int (valueTwo n)) H := q
  unfold valueTwo at q
  refine ⟨_, rfl, _, _, rfl, rfl, (by show (0 : Int) < 2; decide), rfl, _, rfl, ifI (fun e => ?_) fun e => ?_⟩
  · rw [if_pos e] at q; exact q
  · rw [if_neg e] at q
    refine ⟨_, rfl, _, _, rfl, rfl, (by show (0 : Int) < 8; decide), rfl, _, rfl, ifI (fun e2 => ?_) fun e2 => ?_⟩
    · rw [if_pos e2] at q; exact q
    · rw [if_neg e2] at q; exact ⟨_, rfl, q⟩
end
end Ft

namespace Ft
open PySem L2
theorem sg_not (v : Bool) : -(sg v) = sg (!v) := by cases v <;> decide
theorem sg_true : sg true = 1 := by decide
/-- the int in slot i, as a measure -/
def m0 (i : Nat) (σ : L2.St) : Nat := match σ[i]? with
  | some (some (.int z)) => z.toNat
  | _ => 0
theorem st3 {a b c a' b' c' : Int} (h1 : a = a') (h2 : b = b') (h3 : c = c') : [some (V.int a), some (V.int b), some (V.int c)] = [some (V.int a'), some (V.int b'), some (V.int c')] := by rw [h1, h2, h3]
theorem halve_go {b f t : Nat} {v : Bool} (h : t % 2 = 0) : halve b (f + 1) t v = halve b f (t / 2) (if b % 8 = 3 ∨ b % 8 = 5 then !v else v) := by
  show (if t % 2 = 0 then _ else _) = _
  rw [if_pos h]
theorem halve_stop {b f t : Nat} {v : Bool} (h : ¬ t % 2 = 0) : halve b f t v = (t, v) := by
  cases f with
  | zero => rfl
  | succ f => show (if t % 2 = 0 then _ else _) = _; rw [if_neg h]
theorem jac_stop {b f : Nat} {v : Bool} : jac f 0 b v = (b, v) := by
  cases f with
  | zero => rfl
  | succ f => show (if (0:Nat) = 0 then _ else _) = _; rw [if_pos rfl]
theorem jac_go {b f t t' : Nat} {v v' : Bool} (h : t ≠ 0) (e : halve b t t v = (t', v')) : jac (f + 1) t b v = jac f (b % t') t' (if t' % 4 = 3 ∧ b % 4 = 3 then !v' else v') := by
  show (if t = 0 then _ else _) = _
  rw [if_neg h]
  dsimp only
  rw [e]

section
variable {P : Program} {w : World} {K : PySem.W.Frag} {mg : Str → Option Value} {base : Heap}
theorem ok_value_at_odd (D : Df K mg "value_at_odd" s_value_at_odd ["top", "bottom"]) : Cal P w K mg base 1 "value_at_odd" sp_value_at_odd := by
  obtain ⟨f, fd, F, m, b⟩ := D.ex
  have sc := sc_value_at_odd
  refine ⟨f, fd, _, F.ok sc sp2_len (fun cdv A outer s H vs Q E hr h => ?_), m, F.kp, b⟩
  obtain ⟨t, b0, rfl, hb, q⟩ := h
  replace hb : 0 < b0 := hb
  replace q : Q (.int (valueOdd t b0.toNat)) H := q
  refine ⟨_, (pss_cons (ps_set (i := 2) sc.nd rfl (Or.inl rfl) pe_int)
      (pss_cons (ps_set (i := 0) sc.nd rfl (Or.inl rfl) (pe_op op_mod (pv 0) (pv 1)))
      (pss_cons (ps_while PassesOwn.never (pt_cmpR op_ne (pv 0) pe_int (nomark _))
      (pss_cons (ps_while PassesOwn.never (pt_cmpR op_eq (pe_op op_mod (pv 0) pe_int) pe_int (nomark _))
        (pss_cons (ps_set (i := 0) sc.nd rfl (Or.inl rfl) (pe_op op_fdivW (pv 0) pe_int))
          (pss_one (ps_if (PW.pt (pw_or (pt_cmpR op_eq (pe_op op_mod (pv 1) pe_int) pe_int (nomark _)) (pw_or1 (pt_cmpR op_eq (pe_op op_mod (pv 1) pe_int) pe_int (nomark _)))))
          (pss_one (ps_set (i := 2) sc.nd rfl (Or.inl rfl) (pe_un un_neg (pv 2))))
          pss_nil))))
        (pss_cons (ps_if (PW.pt (pw_and (pt_cmpR op_eq (pe_op op_mod (pv 0) pe_int) pe_int (nomark _)) (pw_and1 (pt_cmpR op_eq (pe_op op_mod (pv 1) pe_int) pe_int (nomark _)))))
        (pss_one (ps_set (i := 2) sc.nd rfl (Or.inl rfl) (pe_un un_neg (pv 2))))
        pss_nil)
        (pss_one (ps_par (i := 0) (j := 1) (by rfl) sc.nd rfl rfl (by decide) rfl rfl (pa_cons (pe_op op_mod (pv 1) (pv 0)) (pa_cons (pv 0) pa_nil)) (by rfl))))))
      (pss_one (ps_ret (pe_ifExp (pt_cmpR op_eq (pv 1) pe_int (nomark _)) (pv 2) pe_int)))))), ?_⟩
  obtain ⟨n0, rfl⟩ : ∃ n : Nat, b0 = n := ⟨b0.toNat, by omega⟩
  have hn : 0 < n0 := by omega
  have hm := Int.emod_nonneg t (b := (n0 : Int)) (by omega)
  have hl := Int.emod_lt_of_pos t hb
  obtain ⟨t0, ht0⟩ : ∃ n : Nat, t % (n0 : Int) = n := ⟨(t % (n0 : Int)).toNat, by omega⟩
  have qe : valueOdd t n0 = if (jac n0 t0 n0 true).1 = 1 then sg (jac n0 t0 n0 true).2 else 0 := by
    unfold valueOdd
    rw [ht0]
    rfl
  rw [Int.toNat_natCast, qe] at q
  refine ⟨_, rfl, _, rfl, _, _, rfl, rfl, hb, ?_⟩
  refine while_go (fun σ H' => H = H' ∧ ∃ (f tn bn : Nat) (v : Bool), σ = [some (.int (tn : Nat)), some (.int (bn : Nat)), some (.int (sg v))] ∧ 0 < bn ∧ tn ≤ f ∧ jac f tn bn v = jac n0 t0 n0 true) (fun σ _ => m0 0 σ)
    ⟨rfl, n0, t0, n0, true, st3 ht0 rfl rfl, hn, by omega, rfl⟩ ?_
  rintro σ _ ⟨rfl, f, tn, bn, v, rfl, hbn, hf, hj⟩
  refine ⟨_, rfl, rfl, _, rfl, ifNI (fun hne => ?_) fun he => ?_⟩
  · have htn : tn ≠ 0 := by omega
    obtain ⟨f', rfl⟩ : ∃ n, f = n + 1 := ⟨f - 1, by omega⟩
    refine ⟨fun σ' H' => H = H' ∧ ∃ (f tn' bn : Nat) (v : Bool), σ' = [some (.int (tn' : Nat)), some (.int (bn : Nat)), some (.int (sg v))] ∧ 0 < bn ∧ tn' ≤ f ∧ jac f tn' bn v = jac n0 t0 n0 true ∧ tn' < tn, ?_, ?_⟩
    · rintro σ' _ ⟨rfl, f2, tn', bn', v', rfl, h1, h2, h3, h4⟩
      exact ⟨_, (by show ((tn' : Int)).toNat < ((tn : Int)).toNat; omega), rfl, rfl, f2, tn', bn', v', rfl, h1, h2, h3⟩
    refine while_go (fun σ H' => H = H' ∧ ∃ (g tm : Nat) (u : Bool), σ = [some (.int (tm : Nat)), some (.int (bn : Nat)), some (.int (sg u))] ∧ 0 < tm ∧ tm ≤ g ∧ tm ≤ tn ∧ halve bn g tm u = halve bn tn tn v) (fun σ _ => m0 0 σ)
      ⟨rfl, tn, tn, v, rfl, by omega, Nat.le_refl _, Nat.le_refl _, rfl⟩ ?_
    rintro σ _ ⟨rfl, g, tm, u, rfl, h1, h2, h2b, h3⟩
    refine ⟨_, rfl, _, _, rfl, rfl, (by show (0 : Int) < 2; decide), rfl, _, rfl, ifI (fun e => ?_) fun e => ?_⟩
    · have e' : tm % 2 = 0 := by omega
      obtain ⟨g', rfl⟩ : ∃ n, g = n + 1 := ⟨g - 1, by omega⟩
      rw [halve_go e'] at h3
      refine ⟨fun σ' H' => H = H' ∧ ∃ (g tm' : Nat) (u : Bool), σ' = [some (.int (tm' : Nat)), some (.int (bn : Nat)), some (.int (sg u))] ∧ 0 < tm' ∧ tm' ≤ g ∧ tm' ≤ tn ∧ halve bn g tm' u = halve bn tn tn v ∧ tm' < tm, ?_, ?_⟩
      · rintro σ' _ ⟨rfl, f2, tn', v', rfl, h1, h2, h2b, h3, h4⟩
        exact ⟨_, (by show ((tn' : Int)).toNat < ((tm : Int)).toNat; omega), rfl, rfl, f2, tn', v', rfl, h1, h2, h2b, h3⟩
      refine ⟨_, rfl, _, _, rfl, rfl, ⟨by decide, by decide⟩, ?_⟩
      have ed : (tm : Int) / 2 = ((tm / 2 : Nat) : Int) := by omega
      refine ⟨_, rfl, _, _, rfl, rfl, (by show (0 : Int) < 8; decide), rfl, _, rfl, ifI (fun e3 => ?_) fun e3 => ?_⟩
      · have c : bn % 8 = 3 ∨ bn % 8 = 5 := by omega
        rw [if_pos c] at h3
        refine iteT ?_
        refine ⟨_, rfl, _, rfl, ?_⟩
        exact ⟨rfl, g', tm / 2, !u, st3 ed rfl (sg_not u), by omega, by omega, by omega, h3, by omega⟩
      · refine ⟨_, rfl, _, _, rfl, rfl, (by show (0 : Int) < 8; decide), rfl, _, rfl, ifI (fun e5 => ?_) fun e5 => ?_⟩
        · have c : bn % 8 = 3 ∨ bn % 8 = 5 := by omega
          rw [if_pos c] at h3
          refine ⟨_, rfl, _, rfl, ?_⟩
          exact ⟨rfl, g', tm / 2, !u, st3 ed rfl (sg_not u), by omega, by omega, by omega, h3, by omega⟩
        · have c : ¬ (bn % 8 = 3 ∨ bn % 8 = 5) := by omega
          rw [if_neg c] at h3
          exact ⟨rfl, g', tm / 2, u, st3 ed rfl rfl, by omega, by omega, by omega, h3, by omega⟩
    · have e' : ¬ tm % 2 = 0 := by omega
      rw [halve_stop e'] at h3
      have hg := jac_go (f := f') (b := bn) htn h3.symm
      rw [hj] at hg
      have hmod : bn % tm < tm := Nat.mod_lt _ h1
      have em : (bn : Int) % (tm : Int) = ((bn % tm : Nat) : Int) := by omega
      refine ⟨_, rfl, _, _, rfl, rfl, (by show (0 : Int) < 4; decide), rfl, _, rfl, ifI (fun e3 => ?_) fun e3 => ?_⟩
      · refine ⟨_, rfl, _, _, rfl, rfl, (by show (0 : Int) < 4; decide), rfl, _, rfl, ifI (fun e4 => ?_) fun e4 => ?_⟩
        · have c : tm % 4 = 3 ∧ bn % 4 = 3 := by omega
          rw [if_pos c] at hg
          refine ⟨_, rfl, _, rfl, ?_⟩
          refine ⟨_, rfl, _, rfl, _, _, rfl, rfl, (by show (0 : Int) < (tm : Int); omega), _, rfl, _, _, rfl, ?_⟩
          exact ⟨rfl, f', _, tm, !u, st3 em rfl (sg_not u), h1, by omega, hg.symm, by omega⟩
        · have c : ¬ (tm % 4 = 3 ∧ bn % 4 = 3) := by omega
          rw [if_neg c] at hg
          refine ⟨_, rfl, _, rfl, _, _, rfl, rfl, (by show (0 : Int) < (tm : Int); omega), _, rfl, _, _, rfl, ?_⟩
          exact ⟨rfl, f', _, tm, u, st3 em rfl rfl, h1, by omega, hg.symm, by omega⟩
      · have c : ¬ (tm % 4 = 3 ∧ bn % 4 = 3) := by omega
        rw [if_neg c] at hg
        refine iteF ?_
        refine ⟨_, rfl, _, rfl, _, _, rfl, rfl, (by show (0 : Int) < (tm : Int); omega), _, rfl, _, _, rfl, ?_⟩
        exact ⟨rfl, f', _, tm, u, st3 em rfl rfl, h1, by omega, hg.symm, by omega⟩
  · have htn : tn = 0 := by omega
    subst htn
    rw [jac_stop] at hj
    rw [← hj] at q
    dsimp only at q
    refine ⟨_, rfl, rfl, _, rfl, ifI (fun e => ?_) fun e => ?_⟩
    · rw [if_pos (by omega)] at q
      exact ⟨_, rfl, q⟩
    · rw [if_neg (by omega)] at q
      exact q
end
end Ft

namespace Ft
open PySem L2
theorem st4 {a b c d a' b' c' d' : Int} (h1 : a = a') (h2 : b = b') (h3 : c = c') (h4 : d = d') : [some (V.int a), some (V.int b), some (V.int c), some (V.int d)] = [some (V.int a'), some (V.int b'), some (V.int c'), some (V.int d')] := by rw [h1, h2, h3, h4]
theorem cdivN {i : Int} {n : Nat} (h0 : 0 < n) (h : n < 2 ^ 64) : CDivW i (n : Int) := wide_div (b := 64) (by omega) (by omega) (by decide) (by decide)
theorem cmulL {i : Int} {n : Nat} (h : n < 2 ^ 64) : CMul (n : Int) i := .inl ⟨by omega, by omega⟩
theorem cmulR {i : Int} {n : Nat} (h : n < 2 ^ 64) : CMul i (n : Int) := .inr ⟨by omega, by omega⟩
theorem twos_go {z : Int} {f r : Nat} {v : Int} (h : r % 2 = 0) : twos z (f + 1) r v = twos z f (r / 2) (v * z) := by
  show (if r % 2 = 0 then _ else _) = _
  rw [if_pos h]
theorem twos_stop {z : Int} {f r : Nat} {v : Int} (h : ¬ r % 2 = 0) : twos z f r v = (r, v) := by
  cases f with
  | zero => rfl
  | succ f => show (if r % 2 = 0 then _ else _) = _; rw [if_neg h]
theorem valueTwo_le (s : Int) : -1 ≤ valueTwo s ∧ valueTwo s ≤ 1 := by
  unfold valueTwo
  split
  · omega
  · split <;> omega
theorem sqs_go {p f r : Nat} (h : r % (p * p) = 0) : sqs p (f + 1) r = sqs p f (r / (p * p)) := by
  show (if r % (p * p) = 0 then _ else _) = _
  rw [if_pos h]
theorem sqs_stop {p f r : Nat} (h : ¬ r % (p * p) = 0) : sqs p f r = r := by
  cases f with
  | zero => rfl
  | succ f => show (if r % (p * p) = 0 then _ else _) = _; rw [if_neg h]
theorem wsq_stop {f r p : Nat} {b : Int} (h : ¬ p * p * p ≤ r) : wsq f r b p = (r, b) := by
  cases f with
  | zero => rfl
  | succ f => show (if p * p * p ≤ r then _ else _) = _; rw [if_neg h]
theorem wsq_go1 {f r p r1 : Nat} {b : Int} (h : p * p * p ≤ r) (e : sqs p r r = r1) (h1 : r1 % p = 0) : wsq (f + 1) r b p = wsq f (r1 / p) (b * p) (p + 1) := by
  show (if p * p * p ≤ r then _ else _) = _
  rw [if_pos h]
  dsimp only
  rw [e, if_pos h1]
theorem wsq_go2 {f r p r1 : Nat} {b : Int} (h : p * p * p ≤ r) (e : sqs p r r = r1) (h1 : ¬ r1 % p = 0) : wsq (f + 1) r b p = wsq f r1 b (p + 1) := by
  show (if p * p * p ≤ r then _ else _) = _
  rw [if_pos h]
  dsimp only
  rw [e, if_neg h1]
theorem cube_le {p r : Nat} (h : p * p * p ≤ r) (hp : 2 ≤ p) : p < r := by
  have h1 : 2 * p ≤ p * p := Nat.mul_le_mul_right p hp
  have h2 : p * p * 2 ≤ p * p * p := Nat.mul_le_mul_left (p * p) hp
  omega
theorem div_small {r q : Nat} (h : r % q = 0) (hr : 0 < r) (hq : 2 ≤ q) : 0 < r / q ∧ r / q < r := by
  refine ⟨?_, Nat.div_lt_self hr hq⟩
  have e := Nat.div_add_mod r q
  rw [h, Nat.add_zero] at e
  refine Nat.pos_of_ne_zero fun z => ?_
  rw [z, Nat.mul_zero] at e
  omega
theorem sq_small {p : Nat} (h : p ≤ 160001) : p * p < 2 ^ 64 := Nat.lt_of_le_of_lt (Nat.mul_le_mul h h) (by decide)
theorem isqrt_le (n : Nat) : Float64.isqrt n ≤ n := by
  have h := (Float64.isqrt_spec n).1
  rcases Nat.eq_zero_or_pos (Float64.isqrt n) with z | z
  · omega
  · exact Nat.le_trans (Nat.le_mul_of_pos_left _ z) h

section
variable {P : Program} {w : World} {K : PySem.W.Frag} {mg : Str → Option Value} {base : Heap}
theorem ok_value_at (D : Df K mg "value_at" s_value_at ["sign", "n"]) (B : Bi mg) (c_value_at_two : Cal P w K mg base 1 "value_at_two" sp_value_at_two) (c_value_at_odd : Cal P w K mg base 1 "value_at_odd" sp_value_at_odd) : Cal P w K mg base 2 "value_at" sp_value_at := by
  obtain ⟨f, fd, F, m, b⟩ := D.ex
  have sc := sc_value_at
  refine ⟨f, fd, _, F.ok sc sp2_len (fun cdv A outer s H vs Q E hr h => ?_), m, F.kp, b⟩
  obtain ⟨z, n, rfl, hz, q⟩ := h
  replace q : Q (.int (valueAt z n)) H := q
  replace hz : z ≠ 0 := hz
  refine ⟨_, (pss_cons (ps_set (i := 2) sc.nd rfl (Or.inl rfl) (pe_op op_mod (pv 1) (pe_callB call_abs (by rfl) B.abs (by decide +kernel) (pa_cons (pv 0) pa_nil))))
      (pss_cons (ps_if (pt_cmpR op_eq (pv 2) pe_int (nomark _))
      (pss_one (ps_ret (pe_ifExp (pt_cmpR op_eq (pv 0) pe_int (nomark _)) pe_int pe_int)))
      pss_nil)
      (pss_cons (ps_set (i := 3) sc.nd rfl (Or.inl rfl) pe_int)
      (pss_cons (ps_while PassesOwn.never (pt_cmpR op_eq (pe_op op_mod (pv 2) pe_int) pe_int (nomark _))
      (pss_cons (ps_set (i := 2) sc.nd rfl (Or.inl rfl) (pe_op op_fdivW (pv 2) pe_int))
        (pss_one (ps_set (i := 3) sc.nd rfl (Or.inl rfl) (pe_op op_mul (pv 3) (pe_c c_value_at_two hr (by decide) (by rfl) (pa_cons (pv 0) pa_nil)))))))
      (pss_one (ps_ret (pe_op op_mul (pv 3) (pe_c c_value_at_odd hr (by decide) (by rfl) (pa_cons (pv 0) (pa_cons (pv 2) pa_nil)))))))))), ?_⟩
  have ea : (if z < 0 then -z else z) = (z.natAbs : Int) := by split <;> omega
  have hp : (0 : Int) < (z.natAbs : Int) := by omega
  have hm := Int.emod_nonneg n (b := (z.natAbs : Int)) (by omega)
  obtain ⟨r, hrr⟩ : ∃ r : Nat, n % (z.natAbs : Int) = r := ⟨(n % (z.natAbs : Int)).toNat, by omega⟩
  unfold valueAt at q
  rw [hrr, Int.toNat_natCast] at q
  unfold valueRest at q
  refine ⟨_, rfl, _, rfl, z, rfl, n, _, rfl, rfl, (by show 0 < (if z < 0 then -z else z); rw [ea]; exact hp), ?_⟩
  have es : n % (if z < 0 then -z else z) = (r : Int) := by rw [ea]; exact hrr
  refine ⟨_, rfl, rfl, _, rfl, ifI (fun e => ?_) fun e => ?_⟩
  · have r0 : r = 0 := by rw [es] at e; omega
    rw [if_pos r0] at q
    refine ⟨_, rfl, rfl, _, rfl, ifI (fun e2 => ?_) fun e2 => ?_⟩
    · rw [if_pos e2] at q; exact q
    · rw [if_neg e2] at q; exact q
  · have r0 : r ≠ 0 := by rw [es] at e; omega
    rw [if_neg r0] at q
    dsimp only at q
    refine while_go (fun σ H' => H = H' ∧ ∃ (g t : Nat) (v : Int), σ = [some (.int z), some (.int n), some (.int (t : Nat)), some (.int v)] ∧ 0 < t ∧ t ≤ g ∧ -1 ≤ v ∧ v ≤ 1 ∧ twos (valueTwo z) g t v = twos (valueTwo z) r r 1) (fun σ _ => m0 2 σ)
      ⟨rfl, r, r, 1, st4 rfl rfl es rfl, by omega, Nat.le_refl _, by decide, by decide, rfl⟩ ?_
    rintro σ _ ⟨rfl, g, t, v, rfl, h1, h2, h3, h4, h5⟩
    refine ⟨_, rfl, _, _, rfl, rfl, (by show (0 : Int) < 2; decide), rfl, _, rfl, ifI (fun e => ?_) fun e => ?_⟩
    · have e' : t % 2 = 0 := by omega
      obtain ⟨g', rfl⟩ : ∃ n, g = n + 1 := ⟨g - 1, by omega⟩
      rw [twos_go e'] at h5
      refine ⟨fun σ' H' => H = H' ∧ ∃ (g t' : Nat) (v : Int), σ' = [some (.int z), some (.int n), some (.int (t' : Nat)), some (.int v)] ∧ 0 < t' ∧ t' ≤ g ∧ -1 ≤ v ∧ v ≤ 1 ∧ twos (valueTwo z) g t' v = twos (valueTwo z) r r 1 ∧ t' < t, ?_, ?_⟩
      · rintro σ' _ ⟨rfl, g2, t', v', rfl, k1, k2, k3, k4, k5, k6⟩
        exact ⟨_, (by show ((t' : Int)).toNat < ((t : Int)).toNat; omega), rfl, rfl, g2, t', v', rfl, k1, k2, k3, k4, k5⟩
      refine ⟨_, rfl, _, _, rfl, rfl, ⟨by decide, by decide⟩, ?_⟩
      have vt := valueTwo_le z
      have hv : -1 ≤ v * valueTwo z ∧ v * valueTwo z ≤ 1 := by
        obtain h | h | h : v = -1 ∨ v = 0 ∨ v = 1 := by omega
        all_goals (rw [h]; omega)
      refine ⟨_, rfl, _, rfl, z, rfl, trivial, _, _, rfl, rfl, .inl ⟨by omega, by omega⟩, ?_⟩
      exact ⟨rfl, g', t / 2, _, rfl, by omega, by omega, hv.1, hv.2, h5, by omega⟩
    · rw [twos_stop (by omega)] at h5
      rw [← h5] at q
      dsimp only at q
      refine ⟨_, rfl, _, rfl, _, rfl, z, _, rfl, (by show (0 : Int) < (t : Int); omega), _, _, rfl, rfl, .inl ⟨by omega, by omega⟩, ?_⟩
      exact q
theorem ok_without_squares (D : Df K mg "without_squares" s_without_squares ["m"]) (B : Bi mg)  : Cal P w K mg base 1 "without_squares" sp_without_squares := by
  obtain ⟨f, fd, F, m, b⟩ := D.ex
  have sc := sc_without_squares
  refine ⟨f, fd, _, F.ok sc sp1_len (fun cdv A outer s H vs Q E hr h => ?_), m, F.kp, b⟩
  obtain ⟨z, rfl, ⟨hz, hz2⟩, q⟩ := h
  replace q : Q (.int (without z)) H := q
  refine ⟨_, (pss_cons (ps_set (i := 1) sc.nd rfl (Or.inl rfl) (pe_callB call_abs (by rfl) B.abs (by decide +kernel) (pa_cons (pv 0) pa_nil)))
      (pss_cons (ps_set (i := 2) sc.nd rfl (Or.inl rfl) (pe_ifExp (pt_cmpR op_gt (pv 0) pe_int (nomark _)) pe_int (pe_un un_neg pe_int)))
      (pss_cons (ps_set (i := 3) sc.nd rfl (Or.inl rfl) pe_int)
      (pss_cons (ps_while PassesOwn.never (pt_cmpR op_le (pe_op op_mul (pe_op op_mul (pv 3) (pv 3)) (pv 3)) (pv 1) (nomark _))
      (pss_cons (ps_while PassesOwn.never (pt_cmpR op_eq (pe_op op_mod (pv 1) (pe_op op_mul (pv 3) (pv 3))) pe_int (nomark _))
        (pss_one (ps_set (i := 1) sc.nd rfl (Or.inl rfl) (pe_op op_fdivW (pv 1) (pe_op op_mul (pv 3) (pv 3))))))
        (pss_cons (ps_if (pt_cmpR op_eq (pe_op op_mod (pv 1) (pv 3)) pe_int (nomark _))
        (pss_cons (ps_set (i := 1) sc.nd rfl (Or.inl rfl) (pe_op op_fdivW (pv 1) (pv 3)))
          (pss_one (ps_set (i := 2) sc.nd rfl (Or.inl rfl) (pe_op op_mul (pv 2) (pv 3)))))
        pss_nil)
        (pss_one (ps_aug (i := 3) sc.nd rfl (Or.inl rfl) pe_int ip_add)))))
      (pss_cons (ps_set (i := 4) sc.nd rfl (Or.inl rfl) (pe_callBfun cr_isqrt (by rfl) B.isqrt (pa_cons (pv 1) pa_nil)))
      (pss_one (ps_ret (pe_ifExp (pt_cmpR op_eq (pe_op op_mul (pv 4) (pv 4)) (pv 1) (nomark _)) (pv 2) (pe_op op_mul (pv 2) (pv 1)))))))))), ?_⟩
  have ea : (if z < 0 then -z else z) = (z.natAbs : Int) := by split <;> omega
  have st5 : ∀ {b2 c2 d2 b' c' d' : Int} {x : Option V}, b2 = b' → c2 = c' → d2 = d' → [some (V.int z), some (V.int b2), some (V.int c2), some (V.int d2), x] = [some (V.int z), some (V.int b'), some (V.int c'), some (V.int d'), x] := fun h1 h2 h3 => by rw [h1, h2, h3]
  have st5r : ∀ {b2 c2 d2 b' : Int} {x : Option V}, b2 = b' → [some (V.int z), some (V.int b2), some (V.int c2), some (V.int d2), x] = [some (V.int z), some (V.int b'), some (V.int c2), some (V.int d2), x] := fun h1 => by rw [h1]
  unfold without at q
  refine ⟨_, rfl, z, rfl, ?_⟩
  refine ⟨_, rfl, _, _, rfl, rfl, _, rfl, ifD (fun e => ?_) fun e => ⟨_, rfl, ?_⟩⟩
  · rw [if_pos e] at q
    generalize hR : wsq z.natAbs z.natAbs 1 2 = R at q
    dsimp only at q
    refine while_go (fun σ H' => H = H' ∧ ∃ (f r p : Nat) (b : Int), σ = [some (.int z), some (.int (r : Nat)), some (.int b), some (.int (p : Nat)), none] ∧ 0 < r ∧ r ≤ 160000 ∧ 2 ≤ p ∧ p ≤ 160001 ∧ r < f + p ∧ wsq f r b p = R) (fun σ _ => m0 1 σ + 160002 - m0 3 σ)
      ⟨rfl, z.natAbs, z.natAbs, 2, _, st5 ea rfl rfl, by omega, by omega, by decide, by decide, by omega, hR⟩ ?_
    rintro σ _ ⟨rfl, f, r, p, b, rfl, r0, r1, p2, p3, hf, hw⟩
    have hpp := sq_small p3
    have hpl : p < 2 ^ 64 := by omega
    refine ⟨_, rfl, _, rfl, _, _, rfl, rfl, cmulL hpl, _, rfl, _, _, rfl, rfl, cmulR hpl, _, rfl, _, _, rfl, rfl, _, rfl, ifD (fun e => ?_) fun e => ?_⟩
    · have e' : p * p * p ≤ r := Int.ofNat_le.mp e
      have pr := cube_le e' p2
      have pp0 : 0 < p * p := Nat.mul_pos (by omega) (by omega)
      have pp2 : 2 ≤ p * p := Nat.le_trans p2 (Nat.le_mul_of_pos_left _ (by omega))
      obtain ⟨f', rfl⟩ : ∃ n, f = n + 1 := ⟨f - 1, by omega⟩
      refine ⟨fun σ' H' => H = H' ∧ ∃ (f r' p' : Nat) (b : Int), σ' = [some (.int z), some (.int (r' : Nat)), some (.int b), some (.int (p' : Nat)), none] ∧ 0 < r' ∧ r' ≤ 160000 ∧ 2 ≤ p' ∧ p' ≤ 160001 ∧ r' < f + p' ∧ wsq f r' b p' = R ∧ r' ≤ r ∧ p' = p + 1, ?_, ?_⟩
      · rintro σ' _ ⟨rfl, f2, r', p', b', rfl, k1, k2, k3, k4, k5, k6, k7, k8⟩
        exact ⟨_, (by show ((r' : Int)).toNat + 160002 - ((p' : Int)).toNat < ((r : Int)).toNat + 160002 - ((p : Int)).toNat; omega), rfl, rfl, f2, r', p', b', rfl, k1, k2, k3, k4, k5, k6⟩
      refine while_go (fun σ H' => H = H' ∧ ∃ (g t : Nat), σ = [some (.int z), some (.int (t : Nat)), some (.int b), some (.int (p : Nat)), none] ∧ 0 < t ∧ t ≤ g ∧ t ≤ r ∧ sqs p g t = sqs p r r) (fun σ _ => m0 1 σ)
        ⟨rfl, r, r, rfl, r0, Nat.le_refl _, Nat.le_refl _, rfl⟩ ?_
      rintro σ _ ⟨rfl, g, t, rfl, h1, h2, h3, h4⟩
      refine ⟨_, rfl, _, rfl, _, rfl, _, _, rfl, rfl, cmulL hpl, _, _, rfl, rfl, (by show (0 : Int) < ((p * p : Nat) : Int); omega), rfl, _, rfl, ifI (fun em => ?_) fun em => ?_⟩
      · have em' : t % (p * p) = 0 := Int.ofNat.inj em
        obtain ⟨g', rfl⟩ : ∃ n, g = n + 1 := ⟨g - 1, by omega⟩
        rw [sqs_go em'] at h4
        have ds := div_small em' h1 pp2
        refine ⟨fun σ' H' => H = H' ∧ ∃ (g t' : Nat), σ' = [some (.int z), some (.int (t' : Nat)), some (.int b), some (.int (p : Nat)), none] ∧ 0 < t' ∧ t' ≤ g ∧ t' ≤ r ∧ sqs p g t' = sqs p r r ∧ t' < t, ?_, ?_⟩
        · rintro σ' _ ⟨rfl, g2, t', rfl, k1, k2, k3, k4, k5⟩
          exact ⟨_, (by show ((t' : Int)).toNat < ((t : Int)).toNat; omega), rfl, rfl, g2, t', rfl, k1, k2, k3, k4⟩
        refine ⟨_, rfl, _, rfl, _, rfl, _, _, rfl, rfl, cmulL hpl, _, _, rfl, rfl, cdivN pp0 hpp, ?_⟩
        exact ⟨rfl, g', t / (p * p), rfl, ds.1, by omega, by omega, h4, ds.2⟩
      · have em' : ¬ t % (p * p) = 0 := fun z => em (congrArg Int.ofNat z)
        rw [sqs_stop em'] at h4
        refine ⟨_, rfl, _, rfl, _, _, rfl, rfl, (by show (0 : Int) < (p : Int); omega), rfl, _, rfl, ifI (fun ep => ?_) fun ep => ?_⟩
        · have ep' : t % p = 0 := Int.ofNat.inj ep
          have hg := wsq_go1 (f := f') (b := b) e' h4.symm ep'
          rw [hw] at hg
          have ds := div_small ep' h1 p2
          refine ⟨_, rfl, _, rfl, _, _, rfl, rfl, cdivN (by omega) hpl, ?_⟩
          refine ⟨_, rfl, _, rfl, _, _, rfl, rfl, cmulR hpl, ?_⟩
          refine ⟨_, rfl, _, _, rfl, rfl, ?_⟩
          exact ⟨rfl, f', t / p, p + 1, b * p, rfl, ds.1, by omega, by omega, by omega, by omega, hg.symm, by omega, rfl⟩
        · have ep' : ¬ t % p = 0 := fun z => ep (congrArg Int.ofNat z)
          have hg := wsq_go2 (f := f') (b := b) e' h4.symm ep'
          rw [hw] at hg
          refine ⟨_, rfl, _, _, rfl, rfl, ?_⟩
          exact ⟨rfl, f', t, p + 1, b, rfl, h1, by omega, by omega, by omega, by omega, hg.symm, by omega, rfl⟩
    · have e' : ¬ p * p * p ≤ r := fun z => e (Int.ofNat_le.mpr z)
      rw [wsq_stop e'] at hw
      subst hw
      dsimp only at q
      have hi := isqrt_le r
      refine ⟨_, rfl, _, rfl, by omega, by omega, ?_⟩
      refine ⟨_, rfl, _, rfl, _, _, rfl, rfl, cmulL (n := Float64.isqrt r) (by omega), _, rfl, rfl, _, rfl, ifI (fun er => ?_) fun er => ?_⟩
      · rw [if_pos (show Float64.isqrt r * Float64.isqrt r = r from Int.ofNat.inj er)] at q
        exact ⟨_, rfl, q⟩
      · rw [if_neg (show ¬ Float64.isqrt r * Float64.isqrt r = r from fun z => er (congrArg Int.ofNat z))] at q
        exact ⟨_, rfl, _, rfl, _, _, rfl, rfl, cmulR (by omega), q⟩
  · rw [if_neg e] at q
    generalize hR : wsq z.natAbs z.natAbs (-1) 2 = R at q
    dsimp only at q
    refine while_go (fun σ H' => H = H' ∧ ∃ (f r p : Nat) (b : Int), σ = [some (.int z), some (.int (r : Nat)), some (.int b), some (.int (p : Nat)), none] ∧ 0 < r ∧ r ≤ 160000 ∧ 2 ≤ p ∧ p ≤ 160001 ∧ r < f + p ∧ wsq f r b p = R) (fun σ _ => m0 1 σ + 160002 - m0 3 σ)
      ⟨rfl, z.natAbs, z.natAbs, 2, _, st5 ea rfl rfl, by omega, by omega, by decide, by decide, by omega, hR⟩ ?_
    rintro σ _ ⟨rfl, f, r, p, b, rfl, r0, r1, p2, p3, hf, hw⟩
    have hpp := sq_small p3
    have hpl : p < 2 ^ 64 := by omega
    refine ⟨_, rfl, _, rfl, _, _, rfl, rfl, cmulL hpl, _, rfl, _, _, rfl, rfl, cmulR hpl, _, rfl, _, _, rfl, rfl, _, rfl, ifD (fun e => ?_) fun e => ?_⟩
    · have e' : p * p * p ≤ r := Int.ofNat_le.mp e
      have pr := cube_le e' p2
      have pp0 : 0 < p * p := Nat.mul_pos (by omega) (by omega)
      have pp2 : 2 ≤ p * p := Nat.le_trans p2 (Nat.le_mul_of_pos_left _ (by omega))
      obtain ⟨f', rfl⟩ : ∃ n, f = n + 1 := ⟨f - 1, by omega⟩
      refine ⟨fun σ' H' => H = H' ∧ ∃ (f r' p' : Nat) (b : Int), σ' = [some (.int z), some (.int (r' : Nat)), some (.int b), some (.int (p' : Nat)), none] ∧ 0 < r' ∧ r' ≤ 160000 ∧ 2 ≤ p' ∧ p' ≤ 160001 ∧ r' < f + p' ∧ wsq f r' b p' = R ∧ r' ≤ r ∧ p' = p + 1, ?_, ?_⟩
      · rintro σ' _ ⟨rfl, f2, r', p', b', rfl, k1, k2, k3, k4, k5, k6, k7, k8⟩
        exact ⟨_, (by show ((r' : Int)).toNat + 160002 - ((p' : Int)).toNat < ((r : Int)).toNat + 160002 - ((p : Int)).toNat; omega), rfl, rfl, f2, r', p', b', rfl, k1, k2, k3, k4, k5, k6⟩
      refine while_go (fun σ H' => H = H' ∧ ∃ (g t : Nat), σ = [some (.int z), some (.int (t : Nat)), some (.int b), some (.int (p : Nat)), none] ∧ 0 < t ∧ t ≤ g ∧ t ≤ r ∧ sqs p g t = sqs p r r) (fun σ _ => m0 1 σ)
        ⟨rfl, r, r, rfl, r0, Nat.le_refl _, Nat.le_refl _, rfl⟩ ?_
      rintro σ _ ⟨rfl, g, t, rfl, h1, h2, h3, h4⟩
      refine ⟨_, rfl, _, rfl, _, rfl, _, _, rfl, rfl, cmulL hpl, _, _, rfl, rfl, (by show (0 : Int) < ((p * p : Nat) : Int); omega), rfl, _, rfl, ifI (fun em => ?_) fun em => ?_⟩
      · have em' : t % (p * p) = 0 := Int.ofNat.inj em
        obtain ⟨g', rfl⟩ : ∃ n, g = n + 1 := ⟨g - 1, by omega⟩
        rw [sqs_go em'] at h4
        have ds := div_small em' h1 pp2
        refine ⟨fun σ' H' => H = H' ∧ ∃ (g t' : Nat), σ' = [some (.int z), some (.int (t' : Nat)), some (.int b), some (.int (p : Nat)), none] ∧ 0 < t' ∧ t' ≤ g ∧ t' ≤ r ∧ sqs p g t' = sqs p r r ∧ t' < t, ?_, ?_⟩
        · rintro σ' _ ⟨rfl, g2, t', rfl, k1, k2, k3, k4, k5⟩
          exact ⟨_, (by show ((t' : Int)).toNat < ((t : Int)).toNat; omega), rfl, rfl, g2, t', rfl, k1, k2, k3, k4⟩
        refine ⟨_, rfl, _, rfl, _, rfl, _, _, rfl, rfl, cmulL hpl, _, _, rfl, rfl, cdivN pp0 hpp, ?_⟩
        exact ⟨rfl, g', t / (p * p), rfl, ds.1, by omega, by omega, h4, ds.2⟩
      · have em' : ¬ t % (p * p) = 0 := fun z => em (congrArg Int.ofNat z)
        rw [sqs_stop em'] at h4
        refine ⟨_, rfl, _, rfl, _, _, rfl, rfl, (by show (0 : Int) < (p : Int); omega), rfl, _, rfl, ifI (fun ep => ?_) fun ep => ?_⟩
        · have ep' : t % p = 0 := Int.ofNat.inj ep
          have hg := wsq_go1 (f := f') (b := b) e' h4.symm ep'
          rw [hw] at hg
          have ds := div_small ep' h1 p2
          refine ⟨_, rfl, _, rfl, _, _, rfl, rfl, cdivN (by omega) hpl, ?_⟩
          refine ⟨_, rfl, _, rfl, _, _, rfl, rfl, cmulR hpl, ?_⟩
          refine ⟨_, rfl, _, _, rfl, rfl, ?_⟩
          exact ⟨rfl, f', t / p, p + 1, b * p, rfl, ds.1, by omega, by omega, by omega, by omega, hg.symm, by omega, rfl⟩
        · have ep' : ¬ t % p = 0 := fun z => ep (congrArg Int.ofNat z)
          have hg := wsq_go2 (f := f') (b := b) e' h4.symm ep'
          rw [hw] at hg
          refine ⟨_, rfl, _, _, rfl, rfl, ?_⟩
          exact ⟨rfl, f', t, p + 1, b, rfl, h1, by omega, by omega, by omega, by omega, hg.symm, by omega, rfl⟩
    · have e' : ¬ p * p * p ≤ r := fun z => e (Int.ofNat_le.mpr z)
      rw [wsq_stop e'] at hw
      subst hw
      dsimp only at q
      have hi := isqrt_le r
      refine ⟨_, rfl, _, rfl, by omega, by omega, ?_⟩
      refine ⟨_, rfl, _, rfl, _, _, rfl, rfl, cmulL (n := Float64.isqrt r) (by omega), _, rfl, rfl, _, rfl, ifI (fun er => ?_) fun er => ?_⟩
      · rw [if_pos (show Float64.isqrt r * Float64.isqrt r = r from Int.ofNat.inj er)] at q
        exact ⟨_, rfl, q⟩
      · rw [if_neg (show ¬ Float64.isqrt r * Float64.isqrt r = r from fun z => er (congrArg Int.ofNat z))] at q
        exact ⟨_, rfl, _, rfl, _, _, rfl, rfl, cmulR (by omega), q⟩
theorem ok_any_sign_of (D : Df K mg "any_sign_of" s_any_sign_of ["m"]) (c_without_squares : Cal P w K mg base 1 "without_squares" sp_without_squares) : Cal P w K mg base 2 "any_sign_of" sp_any_sign_of := by
  obtain ⟨f, fd, F, m, b⟩ := D.ex
  have sc := sc_any_sign_of
  refine ⟨f, fd, _, F.ok sc sp1_len (fun cdv A outer s H vs Q E hr h => ?_), m, F.kp, b⟩
  obtain ⟨z, rfl, hz, q⟩ := h
  replace q : Q (.int (anySign z)) H := q
  refine ⟨_, (pss_cons (ps_set (i := 1) sc.nd rfl (Or.inl rfl) (pe_c c_without_squares hr (by decide) (by rfl) (pa_cons (pv 0) pa_nil)))
      (pss_one (ps_ret (pe_ifExp (pt_cmpR op_eq (pe_op op_mod (pv 1) pe_int) pe_int (nomark _)) (pv 1) (pe_op op_mul pe_int (pv 1)))))), ?_⟩
  unfold anySign at q
  refine ⟨_, rfl, z, rfl, hz, ?_⟩
  refine ⟨_, rfl, _, _, rfl, rfl, (by show (0 : Int) < 4; decide), rfl, _, rfl, ifI (fun e => ?_) fun e => ?_⟩
  · rw [if_pos e] at q; exact ⟨_, rfl, q⟩
  · rw [if_neg e] at q; exact ⟨_, rfl, _, _, rfl, rfl, .inl ⟨by decide, by decide⟩, q⟩
theorem ok_is_sign (D : Df K mg "is_sign" s_is_sign ["thing"]) (c_any_sign_of : Cal P w K mg base 2 "any_sign_of" sp_any_sign_of) (c_is_between : Cal P w K mg base 2 "is_between" sp_is_between) : Cal P w K mg base 3 "is_sign" sp_is_sign := by
  obtain ⟨f, fd, F, m, b⟩ := D.ex
  have sc := sc_is_sign
  refine ⟨f, fd, _, F.ok sc sp1_len (fun cdv A outer s H vs Q E hr h => ?_), m, F.kp, b⟩
  obtain ⟨z, rfl, _, q⟩ := h
  replace q : Q (.bl (isSign z)) H := q
  refine ⟨_, (pss_one (ps_ret (pe_and (pe_c c_is_between hr (by decide) (by rfl) (pa_cons (pv 0) (pa_cons (pe_un un_neg pe_int) (pa_cons pe_int pa_nil)))) (pe_and (pe_cmpR op_ne (pv 0) pe_int (nomark _)) (pe_one (pe_cmpR op_eq (pe_c c_any_sign_of hr (by decide) (by rfl) (pa_cons (pv 0) pa_nil)) (pv 0) (nomark _))))))), ?_⟩
  unfold isSign at q
  refine ⟨_, rfl, _, rfl, z, -400, 400, rfl, trivial, _, rfl, ?_⟩
  cases e1 : decide (-400 ≤ z)
  · rw [e1] at q; exact iteF q
  · cases e2 : decide (z ≤ 400)
    · rw [e1, e2] at q; exact iteF q
    · rw [e1, e2] at q
      refine iteT ?_
      refine ⟨_, rfl, rfl, _, rfl, ifNI (fun e => ?_) fun e => ?_⟩
      · rw [decide_eq_true e] at q
        have k1 := of_decide_eq_true e1
        have k2 := of_decide_eq_true e2
        refine ⟨_, rfl, z, rfl, ⟨e, by omega⟩, _, rfl, rfl, ?_⟩
        have ee : decide (V.int (anySign z) = V.int z) = decide (anySign z = z) := by
          by_cases h : anySign z = z
          · rw [decide_eq_true h, h]; exact decide_eq_true rfl
          · rw [decide_eq_false h]; exact decide_eq_false fun k => h (V.int.inj k)
        show Q (.bl (decide (V.int (anySign z) = V.int z))) H
        rw [ee]
        exact q
      · rw [show decide (z ≠ 0) = false from decide_eq_false fun k => k e] at q
        exact q
theorem ok_check_sign (D : Df K mg "check_sign" s_check_sign ["sign"]) (c_is_sign : Cal P w K mg base 3 "is_sign" sp_is_sign) : Cal P w K mg base 4 "check_sign" sp_check_sign := by
  obtain ⟨f, fd, F, m, b⟩ := D.ex
  have sc := sc_check_sign
  refine ⟨f, fd, _, F.ok sc sp1_len (fun cdv A outer s H vs Q E hr h => ?_), m, F.kp, b⟩
  obtain ⟨z, rfl, hs, q⟩ := h
  refine ⟨_, (pss_one (ps_if (pt_not (pt_val (pe_c c_is_sign hr (by decide) (by rfl) (pa_cons (pv 0) pa_nil))))
      (pss_one ps_never)
      pss_nil)), ?_⟩
  refine ⟨_, rfl, z, rfl, trivial, _, rfl, ?_⟩
  rw [show isSign z = true from hs]
  exact iteF q
theorem isSign_le {z : Int} (h : isSign z = true) : z.natAbs ≤ 400 ∧ z ≠ 0 ∧ anySign z = z := by
  unfold isSign at h
  simp only [Bool.and_eq_true, decide_eq_true_eq] at h
  omega
theorem mul_le_160000 {a b : Int} (ha : a.natAbs ≤ 400) (hb : b.natAbs ≤ 400) : (a * b).natAbs ≤ 160000 := by
  rw [Int.natAbs_mul]
  exact Nat.mul_le_mul ha hb
end
end Ft

namespace Ft
open PySem L2
theorem canLay_ints : ∀ ns : List Int, PyData.canLayAll0 (ns.map PyData.int) = true
  | [] => rfl
  | n :: ns => by
    show (true && PyData.canLayAll0 (ns.map PyData.int)) = true
    rw [canLay_ints ns]
    rfl
theorem depth_ints : ∀ ns : List Int, PyData.depthAll (ns.map PyData.int) = 0
  | [] => rfl
  | n :: ns => by
    show max 0 (PyData.depthAll (ns.map PyData.int)) = 0
    rw [depth_ints ns]
    rfl
theorem shaped_ints (ns : List Int) : SeqAt.shaped (.list (ns.map PyData.int)) = true := by
  unfold SeqAt.shaped
  rw [show PyData.canLay0 (.list (ns.map PyData.int)) = true from canLay_ints ns, show PyData.depth (.list (ns.map PyData.int)) = 0 + 1 from by rw [← depth_ints ns]; rfl]
  rfl
section
variable {P : Program} {w : World} {K : PySem.W.Frag} {mg : Str → Option Value} {base : Heap}
theorem ok_draw (D : Df K mg "_law_draw" s__law_draw ["_law_deck_here", "_law_many"]) (B : Bi mg) : Cal P w K mg base 1 "_law_draw" sp_draw := by
  obtain ⟨f, fd, F, m, b⟩ := D.ex
  have sc := sc__law_draw
  refine ⟨f, fd, _, F.ok sc sp_draw_len (fun cdv A outer s H vs Q E hr h => ?_), m, F.kp, b⟩
  obtain ⟨d, l, n, rfl, DK, hn0, hn1, q⟩ := h
  have hu := hu_of hr
  have h64 : (A.deeper (PyProof.Rows.envOfC "_law_draw" (defScope s__law_draw) s.heap.objs.size f cdv)).units + 64 < cLine := by have := hr.un; omega
  refine ⟨_, (pss_cons (ps_dput hu (pv 0) pe_str (pe_op op_add (pe_dget hu (pv 0) pe_str (fun _ _ => rfl)) pe_int) rfl)
      (pss_cons (ps_set (i := 2) sc.nd rfl (Or.inl rfl) (pe_op op_add (pe_dget hu (pv 0) pe_str (fun _ _ => rfl)) (pe_op op_mul pe_int (pe_dget hu (pv 0) pe_str (fun _ _ => rfl)))))
      (pss_cons (ps_if (pt_cmpR (op_neD h64) (pe_dget hu (pv 0) pe_str (fun _ _ => rfl)) (pe_lst pa_nil) (nomark _))
      (pss_cons (ps_set (i := 3) sc.nd rfl (Or.inl rfl) (pe_bm0 PySem.F.plainAttrs_list PySem.F.slot_list_pop PySem.F.type_list_pop mt_pop (pe_dget hu (pv 0) pe_str (fun _ _ => rfl))))
        (pss_cons (ps_if (pt_cmpR op_ge (pv 3) (pe_op op_pow pe_int pe_int) (nomark _))
        (pss_cons (ps_expr (pe_bm PySem.F.plainAttrs_list PySem.F.slot_list_append PySem.F.type_list_append mt_append (pe_dget hu (pv 0) pe_str (fun _ _ => rfl)) (pa_cons (pe_op op_fdivW (pv 3) (pe_callB (call_max2 rfl) (by rfl) B.max_ (by decide +kernel) (pa_cons pe_int (pa_cons (pv 1) pa_nil)))) pa_nil)))
          (pss_one (ps_ret (pe_op op_mod (pe_callTy call_int1 (by rfl) B.int_ (by decide +kernel) (pa_cons (pv 3) pa_nil)) (pv 1)))))
        pss_nil)
        (pss_one (ps_set (i := 2) sc.nd rfl (Or.inl rfl) (pe_op op_add (pv 2) (pe_op op_mod (pe_callTy call_int1 (by rfl) B.int_ (by decide +kernel) (pa_cons (pv 3) pa_nil)) pe_int))))))
      pss_nil)
      (pss_cons (ps_set (i := 2) sc.nd rfl (Or.inl rfl) (pe_op op_mod (pe_callTy call_int1 (by rfl) B.int_ (by decide +kernel) (pa_cons (pe_op op_add (pe_op op_mul (pv 2) pe_int) pe_int) pa_nil)) pe_int))
      (pss_cons (ps_set (i := 2) sc.nd rfl (Or.inl rfl) (pe_op op_mod (pe_callTy call_int1 (by rfl) B.int_ (by decide +kernel) (pa_cons (pe_op op_add (pe_op op_add (pe_op op_mul (pv 2) (pv 2)) (pe_op op_mul pe_int (pe_dget hu (pv 0) pe_str (fun _ _ => rfl)))) pe_int) pa_nil)) pe_int))
      (pss_cons (ps_set (i := 2) sc.nd rfl (Or.inl rfl) (pe_op op_mod (pe_callTy call_int1 (by rfl) B.int_ (by decide +kernel) (pa_cons (pe_op op_mul (pv 2) pe_int) pa_nil)) pe_int))
      (pss_one (ps_ret (pe_op op_mod (pe_callTy call_int1 (by rfl) B.int_ (by decide +kernel) (pa_cons (pe_op op_fdivW (pv 2) pe_int) pa_nil)) (pv 1)))))))))), ?_⟩
  have dl := DK.ne
  obtain ⟨mx, dr, cs, hd, hl, hcs⟩ := DK
  -- draws + 1
  have gd := DGet.k (k := kDraws) hd
  rw [deck_draws] at gd
  have pd := DPut.k (k := kDraws) (v := .int (dr + 1)) hd (Nat.lt_of_le_of_lt (Nat.le_of_eq rfl : (deckL l mx dr).length ≤ 3) (by decide))
  rw [deck_put] at pd
  refine ⟨_, rfl, d, _, rfl, gd, _, _, rfl, rfl, _, rfl, d, _, rfl, pd, ?_⟩
  generalize hH1 : upd H d (.dK (deckL l mx (dr + 1))) = H1
  have hd1 : H1 d = some (.dK (deckL l mx (dr + 1))) := by rw [← hH1]; exact upd_same
  have hl1 : H1 l = some (.lst (cs.map V.int)) := by rw [← hH1, upd_ne dl.symm]; exact hl
  have b1 : But d l H H1 := fun b o e h1 h2 => by rw [← hH1, upd_ne h1]; exact e
  have gd1 := DGet.k (k := kDraws) hd1
  rw [deck_draws] at gd1
  have gm1 := DGet.k (k := kMixed) hd1
  rw [deck_mixed] at gm1
  have gc1 := DGet.k (k := kCells) hd1
  rw [deck_cells] at gc1
  refine ⟨_, rfl, d, _, rfl, gm1, _, rfl, d, _, rfl, gd1, _, _, rfl, rfl, .inl ⟨by decide, by decide⟩, _, _, rfl, rfl, ?_⟩
  dsimp only [gName]
  refine tSeq_join (fun σ H2 => ∃ (z : Int) (o : Option V), σ = [some (.ref d), some (.int n), some (.int z), o] ∧ DeckAt H2 d l ∧ But d l H H2) (fun N hN => ?_) ?_
  · -- if cells != []
    refine ⟨_, rfl, d, _, rfl, gc1, Nat.zero_le _, fun p hp => ?_⟩
    have s2 : Same H1 (upd H1 p (.lst [])) := Same.upd_new hp
    generalize hH2 : upd H1 p (.lst []) = H2 at s2
    have hd2 := s2 _ _ hd1
    have hl2 := s2 _ _ hl1
    have hp2 : H2 p = some (.lst []) := by rw [← hH2]; exact upd_same
    have b2 : But d l H H2 := b1.trans (But.of s2)
    have gc2 := DGet.k (k := kCells) hd2
    rw [deck_cells] at gc2
    refine ⟨_, _, .lst (SqL.of hl2) (dp_ints cs), .lst (SqL.of hp2) .nil, shaped_ints cs, by decide, _, rfl, ?_⟩
    rw [eqv_nil]
    cases hcc : cs with
    | nil =>
      refine iteF ?_
      exact hN _ _ ⟨_, none, rfl, ⟨mx, dr + 1, [], hd2, by rw [hcc] at hl2; exact hl2, by decide⟩, b2⟩
    | cons c0 cr =>
      refine iteT ?_
      -- cell = cells.pop()
      have hlast : ∃ c, (cs.map V.int)[(cs.map V.int).length - 1]? = some (V.int c) := by
        have hn : cs.length - 1 < cs.length := by rw [hcc]; exact Nat.sub_lt (Nat.succ_pos _) (by decide)
        exact ⟨cs[cs.length - 1], by rw [List.length_map, List.getElem?_map, List.getElem?_eq_getElem hn]; rfl⟩
      obtain ⟨c, hlast⟩ := hlast
      have hdrop : (cs.map V.int).dropLast = cs.dropLast.map V.int := by rw [List.map_dropLast]
      have ldrop : cs.dropLast.length ≤ 62 := by rw [List.length_dropLast]; omega
      have hne : l ≠ d := dl.symm
      refine ⟨_, rfl, d, _, rfl, gc2, .inl ⟨rfl, _, SqL.of hl2⟩, l, _, _, rfl, rfl, hl2, hlast, ?_⟩
      rw [hdrop]
      generalize hH3 : upd H2 l (.lst (cs.dropLast.map V.int)) = H3
      have hl3 : H3 l = some (.lst (cs.dropLast.map V.int)) := by rw [← hH3]; exact upd_same
      have hd3 : H3 d = some (.dK (deckL l mx (dr + 1))) := by rw [← hH3, upd_ne dl]; exact hd2
      have b3 : But d l H H3 := b2.trans fun b o e _ h2 => by rw [← hH3, upd_ne h2]; exact e
      have gc3 := DGet.k (k := kCells) hd3
      rw [deck_cells] at gc3
      refine ⟨_, rfl, _, _, rfl, rfl, ⟨by decide, by decide, by decide⟩, _, _, rfl, rfl, _, rfl, ifD (fun hbig => ?_) fun hbig => ?_⟩
      · -- cells.append(cell // max(2, many)); return int(cell) % many
        have hmx : (if n > 2 then n else 2) = max 2 n := by by_cases h : n > 2 <;> simp only [h, if_true, if_false] <;> omega
        refine ⟨_, rfl, d, _, rfl, gc3, .inl ⟨rfl, _, SqL.of hl3⟩, _, rfl, _, rfl, 2, n, rfl, _, _, rfl, rfl, ?_, ?_⟩
        · show CDivW c (if n > 2 then n else 2)
          exact wide_div (b := 64) (by split <;> omega) (by split <;> omega) (by decide) (by decide)
        refine ⟨l, _, _, rfl, rfl, hl3, Nat.lt_of_le_of_lt (by rw [List.length_map]; exact ldrop) (by decide : (62 : Nat) < sizeLine), ?_⟩
        have happ : cs.dropLast.map V.int ++ [V.int (c / (if n > 2 then n else 2))] = (cs.dropLast ++ [c / (if n > 2 then n else 2)]).map V.int := by rw [List.map_append]; rfl
        refine ⟨_, rfl, .inl ⟨c, rfl, ?_⟩⟩
        refine ⟨_, rfl, _, _, rfl, rfl, hn0, ?_⟩
        refine q _ _ ⟨mx, dr + 1, cs.dropLast ++ [c / (if n > 2 then n else 2)], by rw [upd_ne dl]; exact hd3, by rw [upd_same]; exact congrArg (fun z => some (HO.lst z)) happ, by rw [List.length_append]; exact Nat.add_le_add ldrop (Nat.le_refl 1)⟩ (b3.trans fun b o e _ h2 => by rw [upd_ne h2]; exact e) (Int.emod_nonneg _ (by omega)) (Int.emod_lt_of_pos _ hn0)
      · refine ⟨_, rfl, _, rfl, .inl ⟨c, rfl, ?_⟩⟩
        refine ⟨_, _, rfl, rfl, (by show (0 : Int) < 2147483629; decide), _, _, rfl, rfl, ?_⟩
        exact hN _ _ ⟨_, _, rfl, ⟨mx, dr + 1, cs.dropLast, hd3, hl3, Nat.le_trans ldrop (by decide)⟩, b3⟩
  · rintro _ H4 ⟨z, o, rfl, DK4, b4⟩
    obtain ⟨mx, dr, cs, hd4, hl4, hcs4⟩ := id DK4
    have gd4 := DGet.k (k := kDraws) hd4
    rw [deck_draws] at gd4
    refine ⟨_, rfl, _, _, rfl, rfl, .inr ⟨by decide, by decide⟩, _, _, rfl, rfl, .inl ⟨_, rfl, _, _, rfl, rfl, (by show (0 : Int) < 2147483647; decide), ?_⟩⟩
    have y0 := Int.emod_nonneg (z * 39373 + 67) (b := 2147483647) (by decide)
    have y1 := Int.emod_lt_of_pos (z * 39373 + 67) (b := 2147483647) (by decide)
    refine ⟨_, rfl, _, rfl, _, _, rfl, rfl, .inl ⟨by omega, by omega⟩, _, rfl, d, _, rfl, gd4, _, _, rfl, rfl, .inl ⟨by decide, by decide⟩, _, _, rfl, rfl, _, _, rfl, rfl, .inl ⟨_, rfl, _, _, rfl, rfl, (by show (0 : Int) < 2147483587; decide), ?_⟩⟩
    refine ⟨_, rfl, _, _, rfl, rfl, .inr ⟨by decide, by decide⟩, .inl ⟨_, rfl, _, _, rfl, rfl, (by show (0 : Int) < 2147483563; decide), ?_⟩⟩
    refine ⟨_, rfl, _, _, rfl, rfl, ⟨by decide, by decide⟩, .inl ⟨_, rfl, _, rfl, _, _, rfl, rfl, hn0, ?_⟩⟩
    exact q _ _ DK4 b4 (Int.emod_nonneg _ (by omega)) (Int.emod_lt_of_pos _ hn0)
end
end Ft

namespace Ft
open PySem L2
section
variable {P : Program} {w : World} {K : PySem.W.Frag} {mg : Str → Option Value} {base : Heap}
theorem ok_pick (D : Df K mg "_law_pick" s__law_pick ["_law_deck_here", "_law_some"]) (B : Bi mg) (c__law_draw : Cal P w K mg base 1 "_law_draw" sp_draw) : Cal P w K mg base 2 "_law_pick" (sp_pick K) := by
  obtain ⟨f, fd, F, m, b⟩ := D.ex
  have sc := sc__law_pick
  refine ⟨f, fd, _, F.ok sc sp_pick_len (fun cdv A outer s H vs Q E hr h => ?_), m, F.kp, b⟩
  obtain ⟨d, l, p, xs, rfl, DK, hp, h0, h1, q⟩ := h
  refine ⟨_, (pss_one (ps_ret (pe_ix ix_seq (pv 1) (pe_c c__law_draw hr (by decide) (by rfl) (pa_cons (pv 0) (pa_cons (pe_callB call_len_seq (by rfl) B.len_ (by decide +kernel) (pa_cons (pv 1) pa_nil)) pa_nil))) (fun _ _ => rfl)))), ?_⟩
  have hs : SqL K H p xs ∨ SqT K H p xs := hp.imp (fun z => SqL.of z.1) SqT.of
  refine ⟨_, rfl, _, rfl, _, rfl, p, xs, rfl, hs, d, l, _, rfl, DK, by omega, by omega, fun H1 r DK1 b1 r0 r1 => ?_⟩
  obtain ⟨n, rfl⟩ : ∃ n : Nat, r = n := ⟨r.toNat, by omega⟩
  have hn : n < xs.length := by omega
  obtain ⟨mx, dr, cs, hd, hl, _⟩ := DK
  rcases hp with ⟨hp, hpl⟩ | hp
  · have hp1 := b1 _ _ hp (ne_of hp hd (by intro z; cases z)) hpl
    exact .inl ⟨p, xs, _, _, rfl, rfl, SqL.of hp1, atI_nat (List.getElem?_eq_getElem hn), q _ _ DK1 b1 (List.getElem_mem hn)⟩
  · have hp1 := b1 _ _ hp (ne_of hp hd (by intro z; cases z)) (ne_of hp hl (by intro z; cases z))
    exact .inr (.inl ⟨p, xs, _, _, rfl, rfl, SqT.of hp1, atI_nat (List.getElem?_eq_getElem hn), q _ _ DK1 b1 (List.getElem_mem hn)⟩)
theorem ok_deck (D : Df K mg "_law_deck" s__law_deck ["_law_script"]) (B : Bi mg)  : Cal P w K mg base 1 "_law_deck" (sp_deck K) := by
  obtain ⟨f, fd, F, m, b⟩ := D.ex
  have sc := sc__law_deck
  refine ⟨f, fd, _, F.ok sc sp_deck_len (fun cdv A outer s H vs Q E hr h => ?_), m, F.kp, b⟩
  obtain ⟨a, ns, rfl, hS, hlen, q⟩ := h
  have hu := hu_of hr
  refine ⟨_, (pss_cons (ps_set (i := 1) sc.nd rfl (Or.inl rfl) pe_int)
      (pss_cons (ps_for PassesOwn.never rfl (pi_list (pe_slice sl_list (pv 0) po_none (po_some pe_int))) (pg_name (i := 2) sc.nd rfl (Or.inl rfl))
      (pss_one (ps_set (i := 1) sc.nd rfl (Or.inl rfl) (pe_op op_mod (pe_callTy call_int1 (by rfl) B.int_ (by decide +kernel) (pa_cons (pe_op op_add (pe_op op_add (pe_op op_mul (pv 1) pe_int) (pe_op op_mod (pe_callTy call_int1 (by rfl) B.int_ (by decide +kernel) (pa_cons (pv 2) pa_nil)) pe_int)) pe_int) pa_nil)) pe_int))))
      (pss_one (ps_ret (pe_disp (pps_cons pe_str (pe_revL (pe_callTy call_list_of (by rfl) B.list (by decide +kernel) (pa_cons (pe_slice sl_list (pv 0) po_none (po_some pe_int)) pa_nil))) (pps_cons pe_str (pv 1) (pps_cons pe_str pe_int pps_nil))) (by rfl) (by rfl) (fun z => by cases z) (by decide)))))), ?_⟩
  refine ⟨_, rfl, _, rfl, a, _, rfl, hS, fun p hp => ?_⟩
  obtain ⟨ms, hms, lms⟩ := cut_ints ns none (some 63)
  rw [hms]
  have s1 : Same H (upd H p (.lst (ms.map V.int))) := Same.upd_new hp
  generalize hH1 : upd H p (.lst (ms.map V.int)) = H1 at s1
  have hp1 : H1 p = some (.lst (ms.map V.int)) := by rw [← hH1]; exact upd_same
  refine ⟨p, rfl, ⟨_, SqL.of hp1⟩, for_list (K := K) (a := p) (xs := ms.map V.int) (fun i σ H2 => H1 = H2 ∧ ∃ (z : Int) (o : Option V), σ = [some (.ref a), some (.int z), o]) ⟨rfl, _, none, rfl⟩ (fun i σ H2 _ ⟨e, _⟩ => by rw [← e]; exact SqL.of hp1) ?_ ?_⟩
  · rintro i x σ _ hi ⟨rfl, z, o, rfl⟩
    obtain ⟨c, rfl, _⟩ := int_at hi
    refine ⟨_, rfl, _, _, rfl, rfl, .inr ⟨by decide, by decide⟩, _, rfl, .inl ⟨c, rfl, _, _, rfl, rfl, (by show (0 : Int) < 2147483629; decide), _, _, rfl, rfl, _, _, rfl, rfl, .inl ⟨_, rfl, _, _, rfl, rfl, (by show (0 : Int) < 2147483587; decide), ?_⟩⟩⟩
    exact ⟨rfl, _, _, rfl⟩
  · rintro σ _ ⟨rfl, z, o, rfl⟩
    intro d hd
    have s2 : Same H1 (upd H1 d (.dK [])) := Same.upd_new hd
    generalize hH2 : upd H1 d (.dK []) = H2 at s2
    have hd2 : H2 d = some (.dK []) := by rw [← hH2]; exact upd_same
    refine ⟨_, rfl, _, rfl, a, _, rfl, s2.seq (s1.seq hS), fun p2 hp2 => ?_⟩
    rw [hms]
    have s3 : Same H2 (upd H2 p2 (.lst (ms.map V.int))) := Same.upd_new hp2
    generalize hH3 : upd H2 p2 (.lst (ms.map V.int)) = H3 at s3
    have h3 : H3 p2 = some (.lst (ms.map V.int)) := by rw [← hH3]; exact upd_same
    refine ⟨p2, _, rfl, .inl (SqL.of h3), fun p3 hp3 => ?_⟩
    have s4 : Same H3 (upd H3 p3 (.lst (ms.map V.int))) := Same.upd_new hp3
    generalize hH4 : upd H3 p3 (.lst (ms.map V.int)) = H4 at s4
    have h4 : H4 p3 = some (.lst (ms.map V.int)) := by rw [← hH4]; exact upd_same
    refine ⟨p3, _, rfl, SqL.of h4, fun l hl => ?_⟩
    have s5 : Same H4 (upd H4 l (.lst (ms.map V.int).reverse)) := Same.upd_new hl
    generalize hH5 : upd H4 l (.lst (ms.map V.int).reverse) = H5 at s5
    have h5 : H5 l = some (.lst (ms.reverse.map V.int)) := by rw [← hH5, List.map_reverse]; exact upd_same
    have sA := s1.trans (s2.trans (s3.trans (s4.trans s5)))
    have hd5 : H5 d = some (.dK []) := s5 _ _ (s4 _ _ (s3 _ _ hd2))
    have dl : d ≠ l := ne_of hd5 h5 (by intro z; cases z)
    refine ⟨_, rfl, hd5, deckL l z 0, rfl, (by show (3 : Nat) ≤ 15; decide), ?_⟩
    rw [deck_merge]
    have hd0 : H d = none := s1.free hd
    have hl0 : H l = none := s1.free (s2.free (s3.free (s4.free hl)))
    refine q _ d l ⟨z, 0, ms.reverse, upd_same, by rw [upd_ne dl.symm]; exact h5, by rw [List.length_reverse]; omega⟩ (fun b u e => ?_) hd0 hl0
    rw [upd_ne (ne_of_none e hd0)]
    exact sA _ _ e
end
end Ft

namespace Ft
open PySem L2
/-- two keywords, in the other order -/
def swapV : List V → List V → List V := fun us zs => match us, zs with
  | [], [a, b] => [b, a]
  | _, _ => []
def swapU : List Value → List Value → List Value := fun us zs => match us, zs with
  | [], [a, b] => [b, a]
  | _, _ => []
theorem swap_rel : ∀ {vs : List V} {us : List Value} {zs : List V} {ws : List Value}, Vals vs us → Vals zs ws → Vals (swapV vs zs) (swapU us ws)
  | _, _, _, _, .nil, .nil => .nil
  | _, _, _, _, .nil, .cons _ .nil => .nil
  | _, _, _, _, .nil, .cons a (.cons b .nil) => .cons b (.cons a .nil)
  | _, _, _, _, .nil, .cons _ (.cons _ (.cons _ _)) => .nil
  | _, _, _, _, .cons _ _, _ => .nil
end Ft

set_option exponentiation.threshold 9000
namespace Ft
open PySem L2
/-! ### beginnings: a number and a tuple of numbers -/
theorem kit_tup_tup {K : PySem.W.Frag} : PySem.W.kitOne K (.type "tuple") (.type "tuple") = some true := kit_ty (by decide +kernel)
theorem kit_int_int' {K : PySem.W.Frag} : PySem.W.kitOne K (.type "int") (.type "int") = some true := kit_ty (by decide +kernel)
def Bg (H : Hp) (v : V) (b : Int) (ts : List Int) : Prop := ∃ p q, v = .ref p ∧ H p = some (.tup [.int b, .ref q]) ∧ H q = some (.tup (ts.map V.int))
theorem Bg.same {H H' : Hp} {v : V} {b : Int} {ts : List Int} (h : Bg H v b ts) (s : Same H H') : Bg H' v b ts := by
  obtain ⟨p, q, e, h1, h2⟩ := h
  exact ⟨p, q, e, s _ _ h1, s _ _ h2⟩
/-- what the document calls a beginning -/
def BgOk (b : Int) (ts : List Int) : Prop := 1 ≤ b ∧ 1 ≤ ts.length ∧ ts.length ≤ 400
def gcdL (g : Nat) (ts : List Int) : Nat := ts.foldl (fun g t => Nat.gcd g t.natAbs) g
def lowB (b : Int) (ts : List Int) : Int := b / ((gcdL b.natAbs ts : Nat) : Int)
def lowT (b : Int) (ts : List Int) : List Int := ts.map fun t => t / ((gcdL b.natAbs ts : Nat) : Int)
theorem gcdL_one : ∀ ts : List Int, gcdL 1 ts = 1
  | [] => rfl
  | t :: ts => by
    show gcdL (Nat.gcd 1 t.natAbs) ts = 1
    rw [Nat.gcd_one_left]
    exact gcdL_one ts
theorem gcdL_dvd : ∀ (ts : List Int) (g : Nat), gcdL g ts ∣ g
  | [], g => Nat.dvd_refl g
  | t :: ts, g => Nat.dvd_trans (gcdL_dvd ts (Nat.gcd g t.natAbs)) (Nat.gcd_dvd_left _ _)
theorem gcdL_drop {ts : List Int} {i : Nat} {z : Int} (h : ts[i]? = some z) (g : Nat) : gcdL g (ts.drop i) = gcdL (Nat.gcd g z.natAbs) (ts.drop (i + 1)) := by
  obtain ⟨hi, rfl⟩ := List.getElem?_eq_some_iff.mp h
  rw [List.drop_eq_getElem_cons hi]
  rfl
theorem take_snoc {ts : List Int} {i : Nat} {z : Int} (h : ts[i]? = some z) : ts.take (i + 1) = ts.take i ++ [z] := by
  rw [List.take_add_one, h]
  rfl
theorem all_true : ∀ n : Nat, (List.replicate n true).all id = true
  | 0 => rfl
  | n + 1 => by rw [List.replicate_succ, List.all_cons, all_true n]; rfl
def sp_from : Sp := fun vs H Q _ => ∃ n a : Int, vs = [.int n, .int a] ∧ Q (.bl (decide (a ≤ n))) H
def sp_checkFrom : Sp := fun vs H Q _ => ∃ n a : Int, vs = [.int n, .int a] ∧ a ≤ n ∧ Q .non H
def sp_isBeg : Sp := fun vs H Q _ => ∃ v b ts, vs = [v] ∧ Bg H v b ts ∧ BgOk b ts ∧ ∀ H', Same H H' → Q (.bl true) H'
def sp_checkBeg : Sp := fun vs H Q _ => ∃ v b ts, vs = [v] ∧ Bg H v b ts ∧ BgOk b ts ∧ ∀ H', Same H H' → Q .non H'
def sp_lowered : Sp := fun vs H Q _ => ∃ (b : Int) (p : Addr) (ts : List Int), vs = [.int b, .ref p] ∧ H p = some (.lst (ts.map V.int)) ∧ 0 < b ∧ b.natAbs < 2 ^ 8000 ∧ ts.length ≤ 1000 ∧ ∀ H' v, Same H H' → Bg H' v (lowB b ts) (lowT b ts) → Q v H'
section
variable {P : Program} {w : World} {K : PySem.W.Frag} {mg : Str → Option Value} {base : Heap}
theorem ok_check_between (D : Df K mg "check_between" s_check_between ["thing", "least", "most"]) (c_is_between : Cal P w K mg base 2 "is_between" sp_is_between) : Cal P w K mg base 3 "check_between" (sp3 (fun n a b => a ≤ n ∧ n ≤ b) fun _ _ _ => .non) := by
  obtain ⟨f, fd, F, m, b⟩ := D.ex
  have sc := sc_check_between
  refine ⟨f, fd, _, F.ok sc sp3_len (fun cdv A outer s H vs Q E hr h => ?_), m, F.kp, b⟩
  obtain ⟨n, lo, hi, rfl, hb, q⟩ := h
  refine ⟨_, (pss_one (ps_if (pt_not (pt_val (pe_c c_is_between hr (by decide) (by rfl) (pa_cons (pv 0) (pa_cons (pv 1) (pa_cons (pv 2) pa_nil))))))
      (pss_one ps_never)
      pss_nil)), ?_⟩
  refine ⟨_, rfl, _, rfl, _, rfl, n, lo, hi, rfl, trivial, _, rfl, ?_⟩
  rw [decide_eq_true hb.1, decide_eq_true hb.2]
  exact iteF q
theorem ok_is_from (D : Df K mg "is_from" s_is_from ["thing", "least"]) (c_is_integer : Cal P w K mg base 1 "is_integer" sp_is_integer) : Cal P w K mg base 2 "is_from" sp_from := by
  obtain ⟨f, fd, F, m, b⟩ := D.ex
  have sc := sc_is_from
  refine ⟨f, fd, _, F.ok sc (fun _ _ _ _ ⟨_, _, e, _⟩ => by rw [e]; rfl) (fun cdv A outer s H vs Q E hr h => ?_), m, F.kp, b⟩
  obtain ⟨n, a, rfl, q⟩ := h
  refine ⟨_, (pss_one (ps_ret (pe_and (pe_c c_is_integer hr (by decide) (by rfl) (pa_cons (pv 0) pa_nil)) (pe_one (pe_cmpR op_ge (pv 0) (pv 1) (nomark _)))))), ?_⟩
  refine ⟨_, rfl, n, rfl, trivial, true, rfl, iteT ?_⟩
  exact ⟨_, rfl, _, rfl, _, _, rfl, rfl, q⟩
theorem ok_check_from (D : Df K mg "check_from" s_check_from ["thing", "least"]) (c_is_from : Cal P w K mg base 2 "is_from" sp_from) : Cal P w K mg base 3 "check_from" sp_checkFrom := by
  obtain ⟨f, fd, F, m, b⟩ := D.ex
  have sc := sc_check_from
  refine ⟨f, fd, _, F.ok sc (fun _ _ _ _ ⟨_, _, e, _⟩ => by rw [e]; rfl) (fun cdv A outer s H vs Q E hr h => ?_), m, F.kp, b⟩
  obtain ⟨n, a, rfl, ha, q⟩ := h
  refine ⟨_, (pss_one (ps_if (pt_not (pt_val (pe_c c_is_from hr (by decide) (by rfl) (pa_cons (pv 0) (pa_cons (pv 1) pa_nil)))))
      (pss_one ps_never)
      pss_nil)), ?_⟩
  refine ⟨_, rfl, _, rfl, n, a, rfl, _, rfl, ?_⟩
  rw [decide_eq_true ha]
  exact iteF q
theorem ok_is_beginning (D : Df K mg "is_beginning" s_is_beginning ["thing"]) (B : Bi mg) (c_is_from : Cal P w K mg base 2 "is_from" sp_from) (c_is_integer : Cal P w K mg base 1 "is_integer" sp_is_integer) : Cal P w K mg base 3 "is_beginning" sp_isBeg := by
  obtain ⟨f, fd, F, m, b⟩ := D.ex
  have sc := sc_is_beginning
  refine ⟨f, fd, _, F.ok sc (fun _ _ _ _ ⟨_, _, _, e, _⟩ => by rw [e]; rfl) (fun cdv A outer s H vs Q E hr h => ?_), m, F.kp, b⟩
  obtain ⟨v, b, ts, rfl, ⟨p, r, rfl, hp, hr2⟩, hb, q⟩ := h
  refine ⟨_, (pss_cons (ps_if (PW.pt (pw_or (pt_not (pt_val (pe_callB (id := "isinstance") (r := rIsi K) call_isi (by rfl) B.isinstance (by decide +kernel) (pa_cons (pv 0) (pa_cons (pe_ty (n := "tuple") (by rfl) B.tuple (by decide +kernel)) pa_nil))))) (pw_or1 (pt_cmpR op_ne (pe_callB call_len_seq (by rfl) B.len_ (by decide +kernel) (pa_cons (pv 0) pa_nil)) pe_int (nomark _)))))
      (pss_one (ps_ret pe_bl))
      pss_nil)
      (pss_cons (ps_asg (pv 0) (pg_tup rfl (pgs_cons (pg_name (i := 1) sc.nd rfl (Or.inl rfl)) (pgs_cons (pg_name (i := 2) sc.nd rfl (Or.inl rfl)) pgs_nil))))
      (pss_cons (ps_if (PW.pt (pw_or (pt_not (pt_val (pe_c c_is_from hr (by decide) (by rfl) (pa_cons (pv 1) (pa_cons pe_int pa_nil))))) (pw_or1 (pt_not (pt_val (pe_callB (id := "isinstance") (r := rIsi K) call_isi (by rfl) B.isinstance (by decide +kernel) (pa_cons (pv 2) (pa_cons (pe_ty (n := "tuple") (by rfl) B.tuple (by decide +kernel)) pa_nil))))))))
      (pss_one (ps_ret pe_bl))
      pss_nil)
      (pss_one (ps_ret (pe_and (pe_chain op_le op_le pe_int (pe_callB call_len_seq (by rfl) B.len_ (by decide +kernel) (pa_cons (pv 2) pa_nil)) pe_int) (pe_one (pe_callB (cr_all rfl) (by rfl) B.all (by decide +kernel) (pa_cons (pe_lc (own := [("top", 3)]) (g := gName 3) (tt := tYes) (by rfl) sc.nd (pi_tup (pv 2)) (blkOk_by (own := [("top", 3)]) (N := N_is_beginning) (sc := defScope s_is_beginning) (by decide +kernel)) (fun _ _ _ _ _ => (pg_name (i := 3) sc.nd rfl (Or.inl rfl))) (fun _ _ _ _ _ => pts_nil) (fun _ _ _ _ _ => (pe_c c_is_integer hr (by decide) (by rfl) (pa_cons (pv 3) pa_nil)))) pa_nil))))))))), ?_⟩
  have l1 := hb.2.1
  have l2 := hb.2.2
  refine ⟨_, rfl, _, _, _, _, true, rfl, .ty _, .base (.tup hp), kit_tup_tup, true, rfl, iteF ?_⟩
  refine ⟨_, rfl, p, _, rfl, .inr (SqT.of hp), rfl, _, rfl, ifNI (fun e => absurd rfl e) fun _ => ?_⟩
  dsimp only [tNext]
  refine ⟨_, rfl, p, _, rfl, SqT.of hp, rfl, ?_⟩
  refine ⟨_, _, rfl, _, _, rfl, rfl, ?_⟩
  refine ⟨_, rfl, b, 1, rfl, _, rfl, ?_⟩
  rw [decide_eq_true hb.1]
  refine iteF ?_
  refine ⟨_, rfl, _, _, _, _, true, rfl, .ty _, .base (.tup hr2), kit_tup_tup, true, rfl, iteF ?_⟩
  dsimp only [tNext]
  have ll : (ts.map V.int).length = ts.length := List.length_map ..
  refine ⟨_, rfl, r, _, rfl, .inr (SqT.of hr2), 1, _, rfl, rfl, _, rfl, ifD (fun _ => ?_) fun h => absurd (by rw [ll]; omega) h⟩
  refine ⟨_, _, rfl, rfl, _, rfl, ifD (fun _ => ?_) fun h => absurd (by rw [ll]; omega) h⟩
  refine ⟨_, rfl, r, rfl, ⟨_, SqT.of hr2⟩, fun D1 hD1 => ?_⟩
  refine lc_it (walk_tup (xs := ts.map V.int)) (fun i H' => Same H H' ∧ H' D1 = some (.lst ((List.replicate i true).map V.bl))) ⟨Same.upd_new hD1, upd_same⟩ (fun i H' _ ⟨s2, _⟩ => SqT.of (s2 _ _ hr2)) ?_ ?_
  · rintro i u H2 H3 hi ⟨s2, h2⟩ ⟨rfl, hu⟩
    obtain ⟨z, rfl, _⟩ := int_at hu
    refine ⟨rfl, ?_⟩
    refine ⟨_, rfl, z, rfl, trivial, _, h2, ?_, fun b o e => ?_, ?_⟩
    · rw [List.length_map, List.length_replicate]
      exact Nat.lt_of_le_of_lt (by omega : i ≤ 400) (by decide)
    · rw [upd_ne (ne_of_none e hD1)]
      exact s2 _ _ e
    · rw [upd_same, List.replicate_succ', List.map_append]
      rfl
  · rintro H2 ⟨s2, h2⟩
    refine ⟨D1, _, rfl, SqL.of h2, ?_⟩
    rw [all_true]
    exact q H2 s2
theorem ok_check_beginning (D : Df K mg "check_beginning" s_check_beginning ["beginning"]) (c_is_beginning : Cal P w K mg base 3 "is_beginning" sp_isBeg) : Cal P w K mg base 4 "check_beginning" sp_checkBeg := by
  obtain ⟨f, fd, F, m, b⟩ := D.ex
  have sc := sc_check_beginning
  refine ⟨f, fd, _, F.ok sc (fun _ _ _ _ ⟨_, _, _, e, _⟩ => by rw [e]; rfl) (fun cdv A outer s H vs Q E hr h => ?_), m, F.kp, b⟩
  obtain ⟨v, b, ts, rfl, hv, hb, q⟩ := h
  refine ⟨_, (pss_one (ps_if (pt_not (pt_val (pe_c c_is_beginning hr (by decide) (by rfl) (pa_cons (pv 0) pa_nil))))
      (pss_one ps_never)
      pss_nil)), ?_⟩
  refine ⟨_, rfl, v, b, ts, rfl, hv, hb, fun H1 s1 => ⟨_, rfl, iteF ?_⟩⟩
  exact q H1 s1
theorem ok_lowered (D : Df K mg "lowered" s_lowered ["bottom", "tops"]) (B : Bi mg)  : Cal P w K mg base 1 "lowered" sp_lowered := by
  obtain ⟨f, fd, F, m, b⟩ := D.ex
  have sc := sc_lowered
  refine ⟨f, fd, _, F.ok sc (fun _ _ _ _ ⟨_, _, _, e, _⟩ => by rw [e]; rfl) (fun cdv A outer s H vs Q E hr h => ?_), m, F.kp, b⟩
  obtain ⟨b, p, ts, rfl, hp, b0, b1, tl, q⟩ := h
  refine ⟨_, (pss_cons (ps_set (i := 2) sc.nd rfl (Or.inr rfl) (pe_callB call_abs (by rfl) B.abs (by decide +kernel) (pa_cons (pv 0) pa_nil)))
      (pss_cons (ps_for PassesOwn.never rfl (pi_list (pv 1)) (pg_name (i := 3) sc.nd rfl (Or.inl rfl))
      (pss_cons (ps_if (pt_cmpR op_eq (pv 2) pe_int (nomark _))
        (pss_one ps_break)
        pss_nil)
        (pss_one (ps_set (i := 2) sc.nd rfl (Or.inr rfl) (pe_callBfun cr_gcd (by rfl) B.gcd (pa_cons (pv 2) (pa_cons (pv 3) pa_nil)))))))
      (pss_cons (ps_if (pt_cmpR op_lt (pv 0) pe_int (nomark _))
      (pss_one (ps_set (i := 2) sc.nd rfl (Or.inr rfl) (pe_un un_neg (pv 2))))
      pss_nil)
      (pss_one (ps_ret (pe_tup (pa_cons (pe_op op_fdivW (pv 0) (pv 2)) (pa_cons (pe_callTy call_tuple_of (by rfl) B.tuple (by decide +kernel) (pa_cons (pe_lc (own := [("top", 3)]) (g := gName 3) (tt := tYes) (by rfl) sc.nd (pi_list (pv 1)) (blkOk_by (own := [("top", 3)]) (N := N_lowered) (sc := defScope s_lowered) (by decide +kernel)) (fun _ _ _ _ _ => (pg_name (i := 3) sc.nd rfl (Or.inl rfl))) (fun _ _ _ _ _ => pts_nil) (fun _ _ _ _ _ => (pe_op op_fdivW (pv 3) (pv 2)))) pa_nil)) pa_nil)))))))), ?_⟩
  have ea : (if b < 0 then -b else b) = (b.natAbs : Int) := by split <;> omega
  refine ⟨_, rfl, b, rfl, ?_⟩
  rw [ea]
  dsimp only [gName]
  refine tSeq_join (fun σ H' => H = H' ∧ ∃ o : Option V, σ = [some (.int b), some (.ref p), some (.int ((gcdL b.natAbs ts : Nat) : Int)), o]) (fun N hN => ?_) ?_
  · refine ⟨_, rfl, p, rfl, ⟨_, SqL.of hp⟩, for_list (K := K) (a := p) (xs := ts.map V.int) (fun i σ H' => H = H' ∧ ∃ (g : Nat) (o : Option V), σ = [some (.int b), some (.ref p), some (.int (g : Int)), o] ∧ gcdL g (ts.drop i) = gcdL b.natAbs ts) ⟨rfl, _, none, rfl, rfl⟩ (fun i σ H2 _ ⟨e, _⟩ => by rw [← e]; exact SqL.of hp) ?_ ?_⟩
    · rintro i x σ _ hi ⟨rfl, g, o, rfl, hg⟩
      obtain ⟨z, rfl, hz⟩ := int_at hi
      rw [gcdL_drop hz] at hg
      refine ⟨_, rfl, rfl, _, rfl, ifI (fun e => ?_) fun e => ?_⟩
      · have e' : g = 1 := by omega
        subst e'
        rw [Nat.gcd_one_left, gcdL_one] at hg
        exact hN _ _ ⟨rfl, _, by rw [← hg]; rfl⟩
      · refine ⟨_, rfl, _, rfl, _, _, rfl, ?_⟩
        exact ⟨rfl, _, _, rfl, hg⟩
    · rintro σ _ ⟨rfl, g, o, rfl, hg⟩
      rw [List.length_map, List.drop_length] at hg
      exact hN _ _ ⟨rfl, o, by rw [← hg]; rfl⟩
  rintro _ _ ⟨rfl, o, rfl⟩
  have gd := gcdL_dvd ts b.natAbs
  have bp : 0 < b.natAbs := by omega
  have gl := Nat.le_of_dvd bp gd
  have gp := Nat.pos_of_dvd_of_pos gd bp
  generalize hG : gcdL b.natAbs ts = G at gl gp
  have cd : ∀ i : Int, CDivW i (G : Int) := fun i => wide_div (b := 8000) (by omega) (Nat.lt_of_le_of_lt gl b1) (by decide) (by decide)
  refine ⟨_, rfl, _, _, rfl, rfl, _, rfl, ifD (fun e => absurd e (by omega)) fun _ => ?_⟩
  dsimp only [tNext]
  refine ⟨_, rfl, _, rfl, _, _, rfl, rfl, cd b, ?_⟩
  refine ⟨_, rfl, p, rfl, ⟨_, SqL.of hp⟩, fun D1 hD1 => ?_⟩
  refine lc_list (K := K) (a := p) (xs := ts.map V.int) (fun i H' => Same H H' ∧ H' D1 = some (.lst ((ts.take i).map fun t => V.int (t / (G : Int))))) ⟨Same.upd_new hD1, upd_same⟩ (fun i H' _ ⟨s2, _⟩ => SqL.of (s2 _ _ hp)) ?_ ?_
  · rintro i x H2 hx ⟨s2, h2⟩
    obtain ⟨z, rfl, hz⟩ := int_at hx
    have hi := (List.getElem?_eq_some_iff.mp hz).1
    refine ⟨rfl, ?_⟩
    refine ⟨_, rfl, _, rfl, _, _, rfl, rfl, cd z, _, h2, ?_, fun b o e => ?_, ?_⟩
    · rw [List.length_map, List.length_take]
      exact Nat.lt_of_le_of_lt (Nat.le_trans (Nat.min_le_right _ _) tl) (by decide)
    · rw [upd_ne (ne_of_none e hD1)]
      exact s2 _ _ e
    · rw [upd_same, take_snoc hz, List.map_append]
      rfl
  · rintro H2 ⟨s2, h2⟩
    have e1 : (ts.take (ts.map V.int).length).map (fun t => V.int (t / (G : Int))) = (lowT b ts).map V.int := by
      unfold lowT
      rw [hG, List.length_map, List.take_length, List.map_map]
      rfl
    rw [e1] at h2
    refine ⟨D1, _, rfl, .inl ⟨SqL.of h2, fun T1 hT1 => ?_⟩⟩
    have s3 : Same H2 (upd H2 T1 (.tup ((lowT b ts).map V.int))) := Same.upd_new hT1
    have h3 : (upd H2 T1 (.tup ((lowT b ts).map V.int))) T1 = some (.tup ((lowT b ts).map V.int)) := upd_same
    generalize hH3 : upd H2 T1 (.tup ((lowT b ts).map V.int)) = H3 at s3 h3
    refine ⟨(by show (2 : Nat) ≤ sizeLine; decide), fun T2 hT2 => ?_⟩
    have s4 : Same H3 (upd H3 T2 (.tup [V.int (b / (G : Int)), V.ref T1])) := Same.upd_new hT2
    refine q _ _ (s2.trans (s3.trans s4)) ⟨T2, T1, rfl, ?_, s4 _ _ h3⟩
    unfold lowB
    rw [hG]
    exact upd_same
end
end Ft

set_option exponentiation.threshold 9000
namespace Ft
open PySem L2
def sprL (ts : List Int) (d : Nat) : List Int := (List.range ts.length).map fun n => if n % d = 0 then ts.getD (n / d) 0 else 0
def eveL (ts : List Int) (d : Nat) : List Int := ((List.range ts.length).filter fun n => decide (n % d = 0)).map fun n => ts.getD n 0
def shfL (ts : List Int) (s : Nat) : List Int := List.replicate s 0 ++ ts
def sp_deed (f : List Int → Nat → List Int) (C : Nat → Prop) : Sp := fun vs H Q _ => ∃ v b ts d, vs = [v, .int ((d : Nat) : Int)] ∧ Bg H v b ts ∧ BgOk b ts ∧ b.natAbs < 2 ^ 8000 ∧ C d ∧ ∀ H' u, Same H H' → Bg H' u (lowB b (f ts d)) (lowT b (f ts d)) → Q u H'
theorem filter_succ (f : Nat → Bool) (j : Nat) : (List.range (j + 1)).filter f = (List.range j).filter f ++ if f j = true then [j] else [] := by
  rw [List.range_succ, List.filter_append]
  congr 1
  cases h : f j <;> simp [h]
theorem filter_len (f : Nat → Bool) (j : Nat) : ((List.range j).filter f).length ≤ j := by
  have := List.length_filter_le f (List.range j)
  rw [List.length_range] at this
  exact this
theorem getD_at {l : List Int} {i : Nat} (h : i < l.length) : (l.map V.int)[i]? = some (V.int (l.getD i 0)) := by
  rw [List.getElem?_map, List.getElem?_eq_getElem h, List.getD_eq_getElem?_getD, List.getElem?_eq_getElem h]
  rfl
section
variable {P : Program} {w : World} {K : PySem.W.Frag} {mg : Str → Option Value} {base : Heap}
theorem fn_spread {f : Addr} {fd : FuncData} (F : Fun K "spread" "spread" s_spread f fd) (B : Bi mg) (c_check_beginning : Cal P w K mg base 4 "check_beginning" sp_checkBeg) (c_check_from : Cal P w K mg base 3 "check_from" sp_checkFrom) (c_lowered : Cal P w K mg base 1 "lowered" sp_lowered) : FnOk P w K mg base CX0 5 f fd ["beginning", "d"] (sp_deed sprL fun d => 1 ≤ d ∧ d < 2 ^ 8000) := by
  have sc := sc_spread
  refine F.ok sc (fun _ _ _ _ ⟨_, _, _, _, e, _⟩ => by rw [e]; rfl) (fun cdv A outer s H vs Q E hr h => ?_)
  obtain ⟨v, b, ts, d, rfl, hv, hb, hbs, ⟨d1, d2⟩, q⟩ := h
  refine ⟨_, (pss_cons (ps_expr (pe_c c_check_beginning hr (by decide) (by rfl) (pa_cons (pv 0) pa_nil)))
      (pss_cons (ps_expr (pe_c c_check_from hr (by decide) (by rfl) (pa_cons (pv 1) (pa_cons pe_int pa_nil))))
      (pss_cons (ps_asg (pv 0) (pg_tup rfl (pgs_cons (pg_name (i := 2) sc.nd rfl (Or.inl rfl)) (pgs_cons (pg_name (i := 3) sc.nd rfl (Or.inr rfl)) pgs_nil))))
      (pss_one (ps_ret (pe_c c_lowered hr (by decide) (by rfl) (pa_cons (pv 2) (pa_cons (pe_lc (own := [("n", 4)]) (g := gName 4) (tt := tYes) (by rfl) sc.nd (pi_range1 rfl B.range (pa_cons (pe_callB call_len_seq (by rfl) B.len_ (by decide +kernel) (pa_cons (pv 3) pa_nil)) pa_nil)) (blkOk_by (own := [("n", 4)]) (N := N_spread) (sc := defScope s_spread) (by decide +kernel)) (fun _ _ _ _ _ => (pg_name (i := 4) sc.nd rfl (Or.inl rfl))) (fun _ _ _ _ _ => pts_nil) (fun _ _ _ _ _ => (pe_ifExp (pt_cmpR op_eq (pe_op op_mod (pv 4) (pv 1)) pe_int (nomark _)) (pe_ix (show IxR _ (rIx K) from ix_seq) (pv 3) (pe_op op_fdivW (pv 4) (pv 1)) (fun _ _ => rfl)) pe_int))) pa_nil)))))))), ?_⟩
  have l1 := hb.2.1
  have l2 := hb.2.2
  have b1 := hb.1
  refine ⟨_, rfl, v, b, ts, rfl, hv, hb, fun H1 s1 => ?_⟩
  refine ⟨_, rfl, _, 1, rfl, (by omega), ?_⟩
  obtain ⟨p, r, rfl, hp, hrt⟩ := hv.same s1
  refine ⟨_, rfl, p, _, rfl, SqT.of hp, rfl, ?_⟩
  refine ⟨_, _, rfl, _, _, rfl, rfl, ?_⟩
  refine ⟨_, rfl, _, rfl, r, _, rfl, .inr (SqT.of hrt), _, rfl, ?_⟩
  have ll : (ts.map V.int).length = ts.length := List.length_map ..
  have dp : (0 : Int) < (d : Int) := by omega
  refine ⟨(by rw [ll]; omega), (by rw [ll]; omega), fun D1 hD1 => ?_⟩
  refine lc_range (lo := 0) (n := (((ts.map V.int).length : Nat) : Int).toNat) (fun i H' => Same H1 H' ∧ H' D1 = some (.lst ((List.range i).map fun n => V.int (if n % d = 0 then ts.getD (n / d) 0 else 0)))) ⟨Same.upd_new hD1, upd_same⟩ ?_ ?_
  · rintro i H2 hi ⟨s2, h2⟩
    rw [Int.toNat_natCast, ll] at hi
    refine ⟨rfl, ?_⟩
    have fin : ∀ y : Int, y = (if i % d = 0 then ts.getD (i / d) 0 else 0) → ∃ acc, H2 D1 = some (HO.lst acc) ∧ acc.length < sizeLine ∧ Same H1 (upd H2 D1 (.lst (acc ++ [V.int y]))) ∧ (upd H2 D1 (.lst (acc ++ [V.int y]))) D1 = some (.lst ((List.range (i + 1)).map fun n => V.int (if n % d = 0 then ts.getD (n / d) 0 else 0))) := by
      rintro y rfl
      refine ⟨_, h2, ?_, fun b o e => ?_, ?_⟩
      · rw [List.length_map, List.length_range]
        exact Nat.lt_of_le_of_lt (by omega : i ≤ 400) (by decide)
      · rw [upd_ne (ne_of_none e hD1)]
        exact s2 _ _ e
      · rw [upd_same, List.range_succ, List.map_append]
        rfl
    refine ⟨_, rfl, _, rfl, _, _, rfl, rfl, dp, rfl, _, rfl, ifI (fun e => ?_) fun e => ?_⟩
    · rw [Int.zero_add] at e
      have e' : i % d = 0 := Int.ofNat.inj e
      have hq : i / d < ts.length := Nat.lt_of_le_of_lt (Nat.div_le_self _ _) hi
      have ha : atI (ts.map V.int) ((0 + (i : Int)) / (d : Int)) = some (V.int (ts.getD (i / d) 0)) := by
        rw [Int.zero_add]
        exact atI_nat (j := i / d) (getD_at hq)
      refine ⟨_, rfl, _, rfl, _, rfl, _, _, rfl, rfl, wide_div (b := 8000) dp d2 (by decide) (by decide), .inr (.inl ⟨r, _, _, _, rfl, rfl, SqT.of (s2 _ _ hrt), ha, ?_⟩)⟩
      exact fin _ (by rw [if_pos e'])
    · rw [Int.zero_add] at e
      have e' : ¬ i % d = 0 := fun z => e (congrArg Int.ofNat z)
      exact fin 0 (by rw [if_neg e'])
  · rintro H2 ⟨s2, h2⟩
    rw [Int.toNat_natCast, ll] at h2
    refine ⟨b, D1, sprL ts d, rfl, ?_, by omega, hbs, ?_, fun H3 u s3 hu => ?_⟩
    · rw [h2]
      unfold sprL
      rw [List.map_map]
      rfl
    · unfold sprL
      rw [List.length_map, List.length_range]
      omega
    · exact q _ _ (s1.trans (s2.trans s3)) hu
theorem fn_every {f : Addr} {fd : FuncData} (F : Fun K "every" "every" s_every f fd) (B : Bi mg) (c_check_beginning : Cal P w K mg base 4 "check_beginning" sp_checkBeg) (c_check_from : Cal P w K mg base 3 "check_from" sp_checkFrom) (c_lowered : Cal P w K mg base 1 "lowered" sp_lowered) : FnOk P w K mg base CX0 5 f fd ["beginning", "d"] (sp_deed eveL fun d => 1 ≤ d) := by
  have sc := sc_every
  refine F.ok sc (fun _ _ _ _ ⟨_, _, _, _, e, _⟩ => by rw [e]; rfl) (fun cdv A outer s H vs Q E hr h => ?_)
  obtain ⟨v, b, ts, d, rfl, hv, hb, hbs, d1, q⟩ := h
  refine ⟨_, (pss_cons (ps_expr (pe_c c_check_beginning hr (by decide) (by rfl) (pa_cons (pv 0) pa_nil)))
      (pss_cons (ps_expr (pe_c c_check_from hr (by decide) (by rfl) (pa_cons (pv 1) (pa_cons pe_int pa_nil))))
      (pss_cons (ps_asg (pv 0) (pg_tup rfl (pgs_cons (pg_name (i := 2) sc.nd rfl (Or.inl rfl)) (pgs_cons (pg_name (i := 3) sc.nd rfl (Or.inr rfl)) pgs_nil))))
      (pss_one (ps_ret (pe_c c_lowered hr (by decide) (by rfl) (pa_cons (pv 2) (pa_cons (pe_lc (own := [("n", 4)]) (g := gName 4)  (by rfl) sc.nd (pi_range1 rfl B.range (pa_cons (pe_callB call_len_seq (by rfl) B.len_ (by decide +kernel) (pa_cons (pv 3) pa_nil)) pa_nil)) (blkOk_by (own := [("n", 4)]) (N := N_every) (sc := defScope s_every) (by decide +kernel)) (fun _ _ _ _ _ => (pg_name (i := 4) sc.nd rfl (Or.inl rfl))) (fun _ _ _ _ _ => (pts_one (pt_cmpR op_eq (pe_op op_mod (pv 4) (pv 1)) pe_int (nomark _)))) (fun _ _ _ _ _ => (pe_ix (show IxR _ (rIx K) from ix_seq) (pv 3) (pv 4) (fun _ _ => rfl)))) pa_nil)))))))), ?_⟩
  have l1 := hb.2.1
  have l2 := hb.2.2
  have b1 := hb.1
  refine ⟨_, rfl, v, b, ts, rfl, hv, hb, fun H1 s1 => ?_⟩
  refine ⟨_, rfl, _, 1, rfl, (by omega), ?_⟩
  obtain ⟨p, r, rfl, hp, hrt⟩ := hv.same s1
  refine ⟨_, rfl, p, _, rfl, SqT.of hp, rfl, ?_⟩
  refine ⟨_, _, rfl, _, _, rfl, rfl, ?_⟩
  refine ⟨_, rfl, _, rfl, r, _, rfl, .inr (SqT.of hrt), _, rfl, ?_⟩
  have ll : (ts.map V.int).length = ts.length := List.length_map ..
  have dp : (0 : Int) < (d : Int) := by omega
  refine ⟨(by rw [ll]; omega), (by rw [ll]; omega), fun D1 hD1 => ?_⟩
  refine lc_range (lo := 0) (n := (((ts.map V.int).length : Nat) : Int).toNat) (fun i H' => Same H1 H' ∧ H' D1 = some (.lst (((List.range i).filter fun n => decide (n % d = 0)).map fun n => V.int (ts.getD n 0)))) ⟨Same.upd_new hD1, upd_same⟩ ?_ ?_
  · rintro i H2 hi ⟨s2, h2⟩
    rw [Int.toNat_natCast, ll] at hi
    refine ⟨rfl, ?_⟩
    refine ⟨_, rfl, _, rfl, _, _, rfl, rfl, dp, rfl, _, rfl, ifI (fun e => ?_) fun e => ?_⟩
    · rw [Int.zero_add] at e
      have e' : i % d = 0 := Int.ofNat.inj e
      have ha : atI (ts.map V.int) (0 + (i : Int)) = some (V.int (ts.getD i 0)) := by
        rw [Int.zero_add]
        exact atI_nat (j := i) (getD_at hi)
      refine ⟨_, rfl, _, rfl, .inr (.inl ⟨r, _, _, _, rfl, rfl, SqT.of (s2 _ _ hrt), ha, _, h2, ?_, fun b o e => ?_, ?_⟩)⟩
      · rw [List.length_map]
        exact Nat.lt_of_le_of_lt (Nat.le_trans (filter_len _ _) (by omega : i ≤ 400)) (by decide)
      · rw [upd_ne (ne_of_none e hD1)]
        exact s2 _ _ e
      · rw [upd_same, filter_succ, if_pos (decide_eq_true e'), List.map_append]
        rfl
    · rw [Int.zero_add] at e
      have e' : ¬ i % d = 0 := fun z => e (congrArg Int.ofNat z)
      refine ⟨s2, ?_⟩
      rw [h2, filter_succ, if_neg (by rw [decide_eq_false e']; decide), List.append_nil]
  · rintro H2 ⟨s2, h2⟩
    rw [Int.toNat_natCast, ll] at h2
    refine ⟨b, D1, eveL ts d, rfl, ?_, by omega, hbs, ?_, fun H3 u s3 hu => ?_⟩
    · rw [h2]
      unfold eveL
      rw [List.map_map]
      rfl
    · unfold eveL
      rw [List.length_map]
      exact Nat.le_trans (filter_len _ _) (by omega)
    · exact q _ _ (s1.trans (s2.trans s3)) hu
end
end Ft

set_option exponentiation.threshold 9000
namespace Ft
open PySem L2
theorem flat_one {α : Type} (x : α) : ∀ n : Nat, (List.replicate n [x]).flatten = List.replicate n x
  | 0 => rfl
  | n + 1 => by rw [List.replicate_succ, List.flatten_cons, flat_one x n, List.replicate_succ]; rfl
/-- the first place where two rows part -/
def apartGo (b1 b2 : Int) (t1 t2 : List Int) : Nat → Nat → Option Nat
  | 0, _ => none
  | f + 1, i => if t1.getD i 0 * b2 = t2.getD i 0 * b1 then apartGo b1 b2 t1 t2 f (i + 1) else some i
def apart (b1 b2 : Int) (t1 t2 : List Int) : Option Nat := apartGo b1 b2 t1 t2 (min t1.length t2.length) 0
def optV : Option Nat → V
  | none => .non
  | some n => .int (n : Int)
def sp_apart : Sp := fun vs H Q _ => ∃ u v b1 b2 t1 t2, vs = [u, v] ∧ Bg H u b1 t1 ∧ Bg H v b2 t2 ∧ BgOk b1 t1 ∧ BgOk b2 t2 ∧ b1.natAbs < 2 ^ 8000 ∧ b2.natAbs < 2 ^ 8000 ∧ (∀ x ∈ t1, x.natAbs < 2 ^ 8000) ∧ (∀ x ∈ t2, x.natAbs < 2 ^ 8000) ∧ ∀ H', Same H H' → Q (optV (apart b1 b2 t1 t2)) H'
theorem mul8 {i j : Int} (h1 : i.natAbs < 2 ^ 8000) (h2 : j.natAbs < 2 ^ 8000) : CMulW i j := wide_mul h1 h2 (by decide) (by decide) (by decide)
theorem getD_mem {l : List Int} {i : Nat} (h : i < l.length) : l.getD i 0 ∈ l := by
  rw [List.getD_eq_getElem?_getD, List.getElem?_eq_getElem h]
  exact List.getElem_mem h
section
variable {P : Program} {w : World} {K : PySem.W.Frag} {mg : Str → Option Value} {base : Heap}
theorem fn_shifted {f : Addr} {fd : FuncData} (F : Fun K "shifted" "shifted" s_shifted f fd) (B : Bi mg) (c_check_beginning : Cal P w K mg base 4 "check_beginning" sp_checkBeg) (c_check_between : Cal P w K mg base 3 "check_between" (sp3 (fun n a b => a ≤ n ∧ n ≤ b) fun _ _ _ => .non)) (c_lowered : Cal P w K mg base 1 "lowered" sp_lowered) : FnOk P w K mg base CX0 5 f fd ["beginning", "s"] (sp_deed shfL fun d => d ≤ 280) := by
  have sc := sc_shifted
  refine F.ok sc (fun _ _ _ _ ⟨_, _, _, _, e, _⟩ => by rw [e]; rfl) (fun cdv A outer s H vs Q E hr h => ?_)
  obtain ⟨v, b, ts, d, rfl, hv, hb, hbs, d1, q⟩ := h
  refine ⟨_, (pss_cons (ps_expr (pe_c c_check_beginning hr (by decide) (by rfl) (pa_cons (pv 0) pa_nil)))
      (pss_cons (ps_expr (pe_c c_check_between hr (by decide) (by rfl) (pa_cons (pv 1) (pa_cons pe_int (pa_cons pe_int pa_nil)))))
      (pss_cons (ps_asg (pv 0) (pg_tup rfl (pgs_cons (pg_name (i := 2) sc.nd rfl (Or.inl rfl)) (pgs_cons (pg_name (i := 3) sc.nd rfl (Or.inl rfl)) pgs_nil))))
      (pss_one (ps_ret (pe_c c_lowered hr (by decide) (by rfl) (pa_cons (pv 2) (pa_cons (pe_op op_cat (pe_op op_rep (pe_lst (pa_cons pe_int pa_nil)) (pv 1)) (pe_callTy call_list_of (by rfl) B.list (by decide +kernel) (pa_cons (pv 3) pa_nil))) pa_nil)))))))), ?_⟩
  have l1 := hb.2.1
  have l2 := hb.2.2
  have b1 := hb.1
  refine ⟨_, rfl, v, b, ts, rfl, hv, hb, fun H1 s1 => ?_⟩
  refine ⟨_, rfl, _, _, _, rfl, ⟨by omega, by omega⟩, ?_⟩
  obtain ⟨p, r, rfl, hp, hrt⟩ := hv.same s1
  refine ⟨_, rfl, p, _, rfl, SqT.of hp, rfl, ?_⟩
  refine ⟨_, _, rfl, _, _, rfl, rfl, ?_⟩
  have ll : (ts.map V.int).length = ts.length := List.length_map ..
  refine ⟨_, rfl, (by show (1 : Nat) ≤ sizeLine; decide), fun p1 hp1 => ?_⟩
  have s2 : Same H1 (upd H1 p1 (.lst [V.int 0])) := Same.upd_new hp1
  have h2 : (upd H1 p1 (.lst [V.int 0])) p1 = some (.lst [V.int 0]) := upd_same
  generalize hH2 : upd H1 p1 (.lst [V.int 0]) = H2 at s2 h2
  refine ⟨_, rfl, p1, _, _, rfl, rfl, h2, by omega, by omega, ?_, fun p3 hp3 => ?_⟩
  · rw [Int.toNat_natCast]
    exact Nat.le_trans (by show 1 * d ≤ 280; omega) (by decide)
  rw [Int.toNat_natCast, flat_one]
  have s3 : Same H2 (upd H2 p3 (.lst (List.replicate d (V.int 0)))) := Same.upd_new hp3
  have h3 : (upd H2 p3 (.lst (List.replicate d (V.int 0)))) p3 = some (.lst (List.replicate d (V.int 0))) := upd_same
  generalize hH3 : upd H2 p3 (.lst (List.replicate d (V.int 0))) = H3 at s3 h3
  refine ⟨_, rfl, r, _, rfl, .inr (SqT.of (s3 _ _ (s2 _ _ hrt))), fun p4 hp4 => ?_⟩
  have s4 : Same H3 (upd H3 p4 (.lst (ts.map V.int))) := Same.upd_new hp4
  have h4 : (upd H3 p4 (.lst (ts.map V.int))) p4 = some (.lst (ts.map V.int)) := upd_same
  generalize hH4 : upd H3 p4 (.lst (ts.map V.int)) = H4 at s4 h4
  refine ⟨p3, p4, _, _, rfl, rfl, s4 _ _ h3, h4, ?_, fun p5 hp5 => ?_⟩
  · rw [ll, List.length_replicate]
    exact Nat.le_trans (by omega : d + ts.length ≤ 680) (by decide)
  have s5 : Same H4 (upd H4 p5 (.lst (List.replicate d (V.int 0) ++ ts.map V.int))) := Same.upd_new hp5
  have h5 : (upd H4 p5 (.lst (List.replicate d (V.int 0) ++ ts.map V.int))) p5 = some (.lst ((shfL ts d).map V.int)) := by
    rw [upd_same]
    unfold shfL
    rw [List.map_append, List.map_replicate]
  generalize hH5 : upd H4 p5 (.lst (List.replicate d (V.int 0) ++ ts.map V.int)) = H5 at s5 h5
  refine ⟨b, p5, shfL ts d, rfl, h5, by omega, hbs, ?_, fun H6 u s6 hu => q _ _ (s1.trans (s2.trans (s3.trans (s4.trans (s5.trans s6))))) hu⟩
  unfold shfL
  rw [List.length_append, List.length_replicate]
  omega
theorem ok_first_apart (D : Df K mg "first_apart" s_first_apart ["one", "other"]) (B : Bi mg) (c_check_beginning : Cal P w K mg base 4 "check_beginning" sp_checkBeg) : Cal P w K mg base 5 "first_apart" sp_apart := by
  obtain ⟨f, fd, F, m, b⟩ := D.ex
  have sc := sc_first_apart
  refine ⟨f, fd, _, F.ok sc (fun _ _ _ _ ⟨_, _, _, _, _, _, e, _⟩ => by rw [e]; rfl) (fun cdv A outer s H vs Q E hr h => ?_), m, F.kp, b⟩
  obtain ⟨u, v, b1, b2, t1, t2, rfl, hu, hv, o1, o2, z1, z2, y1, y2, q⟩ := h
  refine ⟨_, (pss_cons (ps_expr (pe_c c_check_beginning hr (by decide) (by rfl) (pa_cons (pv 0) pa_nil)))
      (pss_cons (ps_expr (pe_c c_check_beginning hr (by decide) (by rfl) (pa_cons (pv 1) pa_nil)))
      (pss_cons (ps_for PassesOwn.never rfl (pi_range1 rfl B.range (pa_cons (pe_callB (call_min2 rfl) (by rfl) B.min_ (by decide +kernel) (pa_cons (pe_callB call_len_seq (by rfl) B.len_ (by decide +kernel) (pa_cons (pe_ix (show IxR _ (rIx K) from ix_seq) (pv 0) pe_int (fun _ _ => rfl)) pa_nil)) (pa_cons (pe_callB call_len_seq (by rfl) B.len_ (by decide +kernel) (pa_cons (pe_ix (show IxR _ (rIx K) from ix_seq) (pv 1) pe_int (fun _ _ => rfl)) pa_nil)) pa_nil))) pa_nil)) (pg_name (i := 2) sc.nd rfl (Or.inl rfl))
      (pss_one (ps_if (pt_cmpR op_ne (pe_op op_mulW (pe_ix (show IxR _ (rIx K) from ix_seq) (pe_ix (show IxR _ (rIx K) from ix_seq) (pv 0) pe_int (fun _ _ => rfl)) (pv 2) (fun _ _ => rfl)) (pe_ix (show IxR _ (rIx K) from ix_seq) (pv 1) pe_int (fun _ _ => rfl))) (pe_op op_mulW (pe_ix (show IxR _ (rIx K) from ix_seq) (pe_ix (show IxR _ (rIx K) from ix_seq) (pv 1) pe_int (fun _ _ => rfl)) (pv 2) (fun _ _ => rfl)) (pe_ix (show IxR _ (rIx K) from ix_seq) (pv 0) pe_int (fun _ _ => rfl))) (nomark _))
        (pss_one (ps_ret (pv 2)))
        pss_nil)))
      (pss_one (ps_ret pe_non))))), ?_⟩
  refine ⟨_, rfl, u, b1, t1, rfl, hu, o1, fun H1 s1 => ?_⟩
  refine ⟨_, rfl, v, b2, t2, rfl, hv.same s1, o2, fun H2 s2 => ?_⟩
  have s12 := s1.trans s2
  obtain ⟨p, r, rfl, hp, hr'⟩ := hu.same s12
  obtain ⟨p', r', rfl, hp', hr''⟩ := hv.same s12
  have ll1 : (t1.map V.int).length = t1.length := List.length_map ..
  have ll2 : (t2.map V.int).length = t2.length := List.length_map ..
  have k1 := o1.2.2
  have k2 := o2.2.2
  have fu : Bg H2 (.ref p) b1 t1 := ⟨p, r, rfl, hp, hr'⟩
  have fv : Bg H2 (.ref p') b2 t2 := ⟨p', r', rfl, hp', hr''⟩
  have a0 : ∀ {a c : V}, atI [a, c] 0 = some a := fun {a c} => atI_nat (j := 0) rfl
  have a1 : ∀ {a c : V}, atI [a, c] 1 = some c := fun {a c} => atI_nat (j := 1) rfl
  refine ⟨_, rfl, .inr (.inl ⟨p, _, 1, _, rfl, rfl, SqT.of hp, a1, ?_⟩)⟩
  refine ⟨r, _, rfl, .inr (SqT.of hr'), ?_⟩
  refine ⟨_, rfl, .inr (.inl ⟨p', _, 1, _, rfl, rfl, SqT.of hp', a1, ?_⟩)⟩
  refine ⟨r', _, rfl, .inr (SqT.of hr''), ?_⟩
  obtain ⟨N, hN, hN1, hN2⟩ : ∃ N : Nat, (if (((t2.map V.int).length : Nat) : Int) < (((t1.map V.int).length : Nat) : Int) then (((t2.map V.int).length : Nat) : Int) else (((t1.map V.int).length : Nat) : Int)) = (N : Int) ∧ N = min t1.length t2.length ∧ N ≤ 400 := by
    rw [ll1, ll2]
    refine ⟨min t1.length t2.length, ?_, rfl, by omega⟩
    split <;> omega
  refine ⟨_, _, rfl, ?_⟩
  rw [hN]
  have qq := q H2 s12
  unfold apart at qq
  rw [← hN1] at qq
  refine ⟨(N : Int), rfl, by omega, by omega, for_range (lo := 0) (n := ((N : Int)).toNat) (fun i σ H' => H2 = H' ∧ i ≤ N ∧ ∃ o : Option V, σ = [some (.ref p), some (.ref p'), o] ∧ apartGo b1 b2 t1 t2 (N - i) i = apartGo b1 b2 t1 t2 N 0) ⟨rfl, Nat.zero_le _, none, rfl, rfl⟩ ?_ ?_⟩
  · rintro i σ _ hi ⟨rfl, _, o, rfl, hg⟩
    have hiN : i < N := by omega
    have e3 : N - i = (N - (i + 1)) + 1 := by omega
    rw [e3] at hg
    have h1 : i < t1.length := by omega
    have h2 : i < t2.length := by omega
    have c1 : atI (t1.map V.int) (0 + (i : Int)) = some (V.int (t1.getD i 0)) := by rw [Int.zero_add]; exact atI_nat (getD_at h1)
    have c2 : atI (t2.map V.int) (0 + (i : Int)) = some (V.int (t2.getD i 0)) := by rw [Int.zero_add]; exact atI_nat (getD_at h2)
    have m1 := mul8 (y1 _ (getD_mem h1)) z2
    have m2 := mul8 (y2 _ (getD_mem h2)) z1
    refine ⟨_, rfl, .inr (.inl ⟨p, _, 1, _, rfl, rfl, SqT.of hp, a1, _, rfl, .inr (.inl ⟨r, _, _, _, rfl, rfl, SqT.of hr', c1, ?_⟩)⟩)⟩
    refine ⟨_, rfl, .inr (.inl ⟨p', _, 0, _, rfl, rfl, SqT.of hp', a0, _, _, rfl, rfl, m1, ?_⟩)⟩
    refine ⟨_, rfl, .inr (.inl ⟨p', _, 1, _, rfl, rfl, SqT.of hp', a1, _, rfl, .inr (.inl ⟨r', _, _, _, rfl, rfl, SqT.of hr'', c2, ?_⟩)⟩)⟩
    refine ⟨_, rfl, .inr (.inl ⟨p, _, 0, _, rfl, rfl, SqT.of hp, a0, _, _, rfl, rfl, m2, rfl, _, rfl, ifNI (fun e => ?_) fun e => ?_⟩)⟩
    · have hg' : apartGo b1 b2 t1 t2 (N - (i + 1) + 1) i = some i := by
        show (if _ then _ else _) = _
        rw [if_neg e]
      rw [← hg, hg'] at qq
      refine ⟨_, rfl, ?_⟩
      rw [Int.zero_add]
      exact qq
    · have hg' : apartGo b1 b2 t1 t2 (N - (i + 1) + 1) i = apartGo b1 b2 t1 t2 (N - (i + 1)) (i + 1) := by
        show (if _ then _ else _) = _
        rw [if_pos e]
      exact ⟨rfl, hiN, _, rfl, hg'.symm.trans hg⟩
  · rintro σ _ ⟨rfl, _, o, rfl, hg⟩
    rw [Int.toNat_natCast, Nat.sub_self] at hg
    rw [← hg] at qq
    exact qq
end
end Ft

/-! enumerate over a tuple -/
namespace Ft
open PySem PySem.Spec PyProof.Rows L2
/-- the tuple at a, each item in a new pair with its place -/
def IteT (K : PySem.W.Frag) (a : Addr) : It where
  go := fun i H => ∃ ys : List V, SqT K H a ys ∧ i < ys.length
  yld := fun i H v H' => ∃ T y, v = .ref T ∧ H T = none ∧ H' = upd H T (.tup [.int (i : Nat), y]) ∧ ∀ ys, SqT K H a ys → ys[i]? = some y
  stop := fun i H => ∃ ys : List V, SqT K H a ys ∧ ys.length = i
theorem other_cls {h : Heap} {a b : Addr} {o : Obj} {us : Array Value} (t : h.IsTuple a us) (e : h.get? b = some o) (c : o.cls ≠ .type "tuple") : a ≠ b := by
  rintro rfl
  obtain ⟨o', e', c', _⟩ := t
  rw [e] at e'
  cases e'
  exact c c'
theorem turn_enumT {P : Program} {w : World} {K : PySem.W.Frag} {elts : List Expr} {kk : Nat} {tpos : Pos} (a e j : Addr) :
    Turn P w K (.Tuple elts kk tpos) (IteT K a) [e, j] e (fun i h => (∃ old, IsEnum h e j ((i : Nat) : Int) old) ∧ h.IsTupleIter j a i ∧ e ≠ j) where
  mem := List.mem_cons_self
  obj := fun i h z b hb => by
    obtain ⟨⟨old, ee⟩, ⟨o, eo, _, od⟩, _⟩ := z
    rcases List.mem_cons.mp hb with rfl | hb
    · exact ⟨_, ee, fun v y => nomatch y⟩
    · obtain rfl := List.mem_singleton.mp hb
      exact ⟨o, eo, fun v y => by rw [od] at y; cases y⟩
  keep := fun i h h' z k => ⟨z.1.imp fun old y => k e List.mem_cons_self _ y, z.2.1.at fun o y => k j (List.mem_cons_of_mem _ List.mem_cons_self) o y, z.2.2⟩
  item := by
    intro X hP hw hK hc i pins s σ H E I hf z g
    subst hP hw hK
    obtain ⟨⟨old, ee⟩, ej, ne⟩ := z
    obtain ⟨ys, sq, lt⟩ := g
    obtain ⟨us, rv, tp, _⟩ := I.tuple sq
    have tp' : s.heap.IsTuple a us.toArray := tp
    have lu : i < us.toArray.size := by have := rv.length; simp; omega
    have ae : a ≠ e := other_cls tp' ee (show Value.type "enumerate" ≠ Value.type "tuple" by decide +kernel)
    have aj : a ≠ j := by obtain ⟨o, eo, oc, _⟩ := id ej; exact other_cls tp' eo (by rw [oc]; decide +kernel)
    have el := Heap.lt_size ee
    have jl : j < s.heap.objs.size := by obtain ⟨o, eo, _⟩ := id ej; exact Heap.lt_size eo
    have hd : X.A.in1.handled = none := I.ok.hd hc
    refine wpAny_pyNext_enum_itemD (Draws.tuple hd j a aj us.toArray) ee ⟨ej, tp'⟩ lu ne (fun y => by
      rcases List.mem_cons.mp y with y | y
      · exact ne y
      · exact ae (List.mem_singleton.mp y).symm) fun u h' tk hu out z' hT _ kp => ?_
    refine ⟨_, rfl, wpAny_letOwnedTupleGo_enum (s := { s with heap := h', toks := tk + 1 }) out fun h2 e2 sb => ?_⟩
    have tT : h2.get? s.heap.objs.size = some { cls := .type "tuple", data := .seq #[.int i tk, u] } := (sb.2 _ (Nat.ne_of_gt el)).trans hT
    have hy : ys[i]? = some ys[i] := List.getElem?_eq_getElem lt
    obtain ⟨u', hu', ru⟩ := rv.get hy
    have uu : us[i]? = some u := by simpa using hu
    obtain rfl : u' = u := Option.some.inj (hu'.symm.trans uu)
    have nw : ObjOk X.prog X.w (upd H s.heap.objs.size (.tup [.int (i : Nat), ys[i]])) h2 s.heap.objs.size (.tup [.int (i : Nat), ys[i]]) :=
      ⟨(by show (2 : Nat) ≤ sizeLine; decide), [.int i tk, u'], .cons ⟨_, rfl⟩ (.cons ru .nil), ⟨_, tT, rfl, _, rfl⟩⟩
    have I2 : Inv X pins σ (upd H s.heap.objs.size (.tup [.int (i : Nat), ys[i]])) { s with heap := h2, toks := tk + 1 } :=
      I.turnedNew (ch := [e, j]) (fun b o nb y => (sb.2 b fun y' => nb (by rw [y']; exact List.mem_cons_self)).trans (kp b o (fun y' => nb (by rw [y']; exact List.mem_cons_self)) (fun y' => nb (by rw [y']; exact List.mem_cons_of_mem _ List.mem_cons_self)) y)) hf (Nat.le_refl _) nw
    refine ⟨.ref s.heap.objs.size, _, I2, rfl, ⟨_, _, rfl, I.hok.fresh (Nat.le_refl _), rfl, fun zs hz => by rw [I.tuple_inj hz sq]; exact hy⟩, ⟨⟨u', ?_⟩, z'.1.at fun o y => (sb.2 j ne.symm).trans y, ne⟩, fun b hb => ?_⟩
    · rw [show ((i + 1 : Nat) : Int) = (i : Int) + 1 by omega]
      exact e2
    · have bl : b < s.heap.objs.size := by
        rcases List.mem_cons.mp hb with rfl | hb'
        · exact el
        · rw [List.mem_singleton.mp hb']; exact jl
      rw [upd_ne (Nat.ne_of_lt bl)]
      exact (hf b hb).1
  done := by
    intro X hP hw hK hc i pins s σ H E I hf z g
    subst hP hw hK
    obtain ⟨⟨old, ee⟩, ej, ne⟩ := z
    obtain ⟨ys, sq, ge⟩ := g
    obtain ⟨us, rv, tp, _⟩ := I.tuple sq
    have lu : us.toArray.size = i := by have := rv.length; simp; omega
    subst lu
    have tp' : s.heap.IsTuple a us.toArray := tp
    have aj : a ≠ j := by obtain ⟨o, eo, oc, _⟩ := id ej; exact other_cls tp' eo (by rw [oc]; decide +kernel)
    have hd : X.A.in1.handled = none := I.ok.hd hc
    obtain ⟨f0, f1, f2, f3, f4, f5⟩ := hf j (List.mem_cons_of_mem _ List.mem_cons_self)
    exact wpAny_pyNext_enum_endD (Draws.tuple hd j a aj us.toArray) ee ⟨ej, tp'⟩ fun h' eb => ⟨rfl, I.turned (t' := s.toks) (fun b o nb y => eb b o nb y) f0 f1 f3 f4 f5⟩
  self := fun A i s Q E z h => wpAny_pyIter_enum z.1.choose_spec h
theorem meets_enum1 {v : Value} {o : Obj} {P1 : Heap → Prop} (B : Begins v o P1) :
    Meets (Builtin.«enumerate.__new__» ⟨[.type "enumerate", v], []⟩) (fun _ R s => P1 s.heap ∧
      R (.ok (.ret (.ref (s.heap.push o).objs.size))) { s with heap := (s.heap.push o).push { cls := .type "enumerate", data := .fields #[.none, .bool false, .ref s.heap.objs.size, rawInt 0, .none, .none] } }) :=
  .of_wp fun pr w A R s z => by
    obtain ⟨hp, g, d, tk, os⟩ := s
    obtain ⟨z1, z2⟩ := z
    have sube := sub_enumerate
    have begin_ : ∀ {A' : Around} {E : Value → Shared → Prop} {Q : Value → Shared → Prop}, Q (.ref hp.objs.size) ⟨hp.push o, g, d, tk, os⟩ → wpAny (model pr w) A' (pyIter v) Q E ⟨hp, g, d, tk, os⟩ :=
      fun y => B.iter pr w _ _ ⟨hp, g, d, tk, os⟩ _ z1 y
    wp_walk using begin_
    refine wpAny_stack_any fun st => wpAny_pure ?_
    split
    · rename_i c _ _ _ _ _
      cases (c == Value.type "enumerate") <;> (wp_walk using begin_; exact ⟨_, rfl, z2⟩)
    · wp_walk using begin_; exact ⟨_, rfl, z2⟩
section
variable {pr : Program} {w : World} {A : Around} {E : Value → Shared → Prop} {s : Shared}
theorem enum1_begins {v : Value} {o : Obj} {P1 : Heap → Prop} {Q : Value → Shared → Prop} (B : Begins v o P1) (z : P1 s.heap)
    (q : ∀ h', IsEnum h' (s.heap.objs.size + 1) s.heap.objs.size 0 .none → h'.get? s.heap.objs.size = some o → (∀ b o', s.heap.get? b = some o' → h'.get? b = some o') → Q (.ref (s.heap.objs.size + 1)) { s with heap := h' }) :
    wpAny (model pr w) A (call (.type "enumerate") [v]) Q E s := by
  have sz : (s.heap.push o).objs.size = s.heap.objs.size + 1 := Heap.size_push ..
  have ie := Heap.get?_push_size (s.heap.push o) (o := { cls := .type "enumerate", data := .fields #[.none, .bool false, .ref s.heap.objs.size, rawInt 0, .none, .none] }) rfl
  rw [sz] at ie
  refine callType_new F.called_enumerate (by decide) (F.typeCall_enumerate_1 _) (F.newCall_enumerate_1 _) (fun ob => F.args_object_init_2 ob _) F.entry_enumerate_new (meets_enum1 B) ⟨z, ?_⟩
  rw [sz]
  exact ⟨⟨_, ie, rfl⟩, q _ ie (Heap.get?_push_of_some _ (Heap.get?_push_size _ B.free)) fun b o' y => Heap.get?_push_of_some _ (Heap.get?_push_of_some _ y)⟩
end
def iEnumT (K : PySem.W.Frag) (ta : TA) : TI := fun σ H R => ta σ H fun vs H1 => ∃ a ys, vs = [.ref a] ∧ SqT K H1 a ys ∧ R (IteT K a) H1
/-- enumerate(t), t a tuple -/
theorem pi_enumT {X : Cx} {e : Expr} {ta : TA} {p pos tpos : Pos} {elts : List Expr} {kk : Nat} (hg : Gl X "enumerate") (hm : X.mg "enumerate" = none) (ha : PA X [e] ta) (hs : starEach [e] X.env = [(false, eval e X.env)] := by rfl) :
    PI X (.Tuple elts kk tpos) (.Call (.Name "enumerate" p) [e] [] pos) (iEnumT X.K ta) := by
  refine ⟨fun pins s σ H R I z => Call_ (ld_blt I hg hm PyProof.Rows.boot_enumerate (PyProof.Rows.callWith_type1 (thn (ha.run pos pins s σ H _ I z) fun us s1 ⟨vs, H1, I1, r1, q1⟩ => ?_) hs rfl))⟩
  obtain ⟨a, ys, rfl, sq, q⟩ := q1
  obtain ⟨u, rfl, ru⟩ := vals1 r1
  obtain rfl : u = Value.ref a := ru
  obtain ⟨its, rv, tp, _⟩ := I1.tuple sq
  refine enum1_begins (begins_tuple a its.toArray) (show s1.heap.IsTuple a its.toArray from tp) fun h' ie ij kp => wpAny_pyIter_enum ie ?_
  have I2 : Inv X pins σ H1 { s1 with heap := h' } := I1.kept (t' := s1.toks) kp
  refine ⟨s1.heap.objs.size + 1, [s1.heap.objs.size + 1, s1.heap.objs.size], _, _, H1, rfl, I2, turn_enumT a (s1.heap.objs.size + 1) s1.heap.objs.size, ⟨⟨.none, ie⟩, ⟨_, ij, rfl, rfl⟩, Nat.succ_ne_self _⟩, fun b hb => ?_, q⟩
  have le : s1.heap.objs.size ≤ b := by
    rcases List.mem_cons.mp hb with rfl | hb'
    · exact Nat.le_succ _
    · rw [List.mem_singleton.mp hb']; exact Nat.le_refl _
  exact I1.fpOk le (I1.hok.fresh le)
theorem walk_enumT {K : PySem.W.Frag} {a : Addr} {xs : List V} : Walk (IteT K a) xs.length (fun H => SqT K H a xs) (YPair (fun i => some (.int (i : Nat))) (fun i => xs[i]?)) :=
  ⟨fun _ _ lt q => ⟨xs, q, lt⟩, fun _ q => ⟨xs, q, rfl⟩, fun i _ _ _ _ q y => by
    obtain ⟨T, x, e1, e2, e3, e4⟩ := y
    exact ⟨T, .int (i : Nat), x, e1, e2, e3, rfl, e4 xs q⟩⟩
end Ft

/-! zip of a tuple and a list -/
namespace Ft
open PySem PySem.Spec PyProof.Rows L2
def ItzM (K : PySem.W.Frag) (a b : Addr) : It where
  go := fun i H => ∃ xs ys : List V, SqT K H a xs ∧ SqL K H b ys ∧ i < xs.length ∧ i < ys.length
  yld := fun i H v H' => ∃ T x y, v = .ref T ∧ H T = none ∧ H' = upd H T (.tup [x, y]) ∧ (∀ xs, SqT K H a xs → xs[i]? = some x) ∧ ∀ ys, SqL K H b ys → ys[i]? = some y
  stop := fun i H => ∃ xs ys : List V, SqT K H a xs ∧ SqL K H b ys ∧ i = min xs.length ys.length
theorem other_clsL {h : Heap} {a b : Addr} {o : Obj} {us : Array Value} (t : h.IsList a us) (e : h.get? b = some o) (c : o.cls ≠ .type "list") : a ≠ b := by
  rintro rfl
  obtain ⟨o', e', c', _⟩ := t
  rw [e] at e'
  cases e'
  exact c c'
theorem in5 {z TI TO i1 i2 c : Addr} (h : c ∈ [z, TI, TO, i1, i2]) : c = z ∨ c = TI ∨ c = TO ∨ c = i1 ∨ c = i2 := by simpa using h
theorem turn_zipM {P : Program} {w : World} {K : PySem.W.Frag} {elts : List Expr} {kk : Nat} {tpos : Pos} {a b z TI TO i1 i2 : Addr} (S : ZipSep2 z TI TO i1 i2 [i1, a] [i2, b]) (n12 : i1 ≠ i2) :
    Turn P w K (.Tuple elts kk tpos) (ItzM K a b) [z, TI, TO, i1, i2] z (fun i h => IsZip h z TI TO .none ∧ IsTupOf2 h TI (.ref i1) (.ref i2) ∧ (∃ x y, IsTupOf2 h TO x y) ∧ h.IsTupleIter i1 a i ∧ h.IsListIter i2 b i) where
  mem := List.mem_cons_self
  obj := fun i h st c hc => by
    obtain ⟨ez, eI, ⟨x, y, eO⟩, ⟨o1, e1, _, d1⟩, ⟨o2, e2, _, d2⟩⟩ := st
    rcases in5 hc with rfl | rfl | rfl | rfl | rfl
    · exact ⟨_, ez, fun v q => nomatch q⟩
    · exact ⟨_, eI, fun v q => nomatch q⟩
    · exact ⟨_, eO, fun v q => nomatch q⟩
    · exact ⟨o1, e1, fun v q => by rw [d1] at q; cases q⟩
    · exact ⟨o2, e2, fun v q => by rw [d2] at q; cases q⟩
  keep := fun i h h' st k => by
    obtain ⟨ez, eI, ⟨x, y, eO⟩, j1, j2⟩ := st
    exact ⟨k z (by simp) _ ez, k TI (by simp) _ eI, ⟨x, y, k TO (by simp) _ eO⟩, j1.at fun o q => k i1 (by simp) o q, j2.at fun o q => k i2 (by simp) o q⟩
  item := by
    intro X hP hw hK hc i pins s σ H E I hf st g
    subst hP hw hK
    obtain ⟨ez, eI, ⟨x0, y0, eO⟩, j1, j2⟩ := st
    obtain ⟨xs, ys, qx, qy, l1, l2⟩ := g
    obtain ⟨us, rv, tp, _⟩ := I.tuple qx
    obtain ⟨us2, rv2, tp2, _⟩ := I.list qy
    have tp' : s.heap.IsTuple a us.toArray := tp
    have tl' : s.heap.IsList b us2.toArray := tp2.isList
    have n1 : a ≠ i1 := by obtain ⟨o, eo, oc, _⟩ := id j1; exact other_cls tp' eo (by rw [oc]; decide +kernel)
    have n2 : b ≠ i2 := by obtain ⟨o, eo, oc, _⟩ := id j2; exact other_clsL tl' eo (by rw [oc]; decide +kernel)
    have hd : X.A.in1.handled = none := I.ok.hd hc
    have zl := Heap.lt_size ez
    refine wpAny_pyNext_zipD2_item S (Draws.tuple hd i1 a n1 us.toArray) (Draws.list hd i2 b n2 us2.toArray) ez eI eO ⟨j1, tp'⟩ ⟨j2, tl'⟩ (by have := rv.length; simp; omega) (by have := rv2.length; simp; omega) fun u1 u2 h' tk hu1 hu2 ez' eO' z1 z2 hT _ kp => ?_
    refine ⟨_, rfl, wpAny_letOwnedTupleGo_zip (s := { s with heap := h', toks := tk }) ez' fun h2 ez2 sb => ?_⟩
    have tT : h2.get? s.heap.objs.size = some { cls := .type "tuple", data := .seq #[u1, u2] } := (sb.2 _ (Nat.ne_of_gt zl)).trans hT
    have hx : xs[i]? = some xs[i] := List.getElem?_eq_getElem l1
    have hy : ys[i]? = some ys[i] := List.getElem?_eq_getElem l2
    obtain ⟨w1, hw1, r1⟩ := rv.get hx
    obtain ⟨w2, hw2, r2⟩ := rv2.get hy
    obtain rfl : w1 = u1 := Option.some.inj (hw1.symm.trans (by simpa using hu1))
    obtain rfl : w2 = u2 := Option.some.inj (hw2.symm.trans (by simpa using hu2))
    have nw : ObjOk X.prog X.w (upd H s.heap.objs.size (.tup [xs[i], ys[i]])) h2 s.heap.objs.size (.tup [xs[i], ys[i]]) :=
      ⟨(by show (2 : Nat) ≤ sizeLine; decide), [w1, w2], .cons r1 (.cons r2 .nil), ⟨_, tT, rfl, _, rfl⟩⟩
    have I2 : Inv X pins σ (upd H s.heap.objs.size (.tup [xs[i], ys[i]])) { s with heap := h2, toks := tk } :=
      I.turnedNew (ch := [z, TI, TO, i1, i2]) (fun c o nc y => (sb.2 c fun e => nc (by simp [e])).trans (kp c o (fun e => nc (by simp [e])) (fun e => nc (by simp [e])) (fun e => nc (by simp [e])) (fun e => nc (by simp [e])) y)) hf (Nat.le_refl _) nw
    have eI2 : IsTupOf2 h2 TI (.ref i1) (.ref i2) := (sb.2 _ S.TIz).trans (kp _ _ S.TIz S.TITO S.TIi1 S.TIi2 eI)
    refine ⟨.ref s.heap.objs.size, _, I2, rfl, ⟨_, _, _, rfl, I.hok.fresh (Nat.le_refl _), rfl, fun zs hz => by rw [I.tuple_inj hz qx]; exact hx, fun zs hz => by rw [I.list_inj hz qy]; exact hy⟩,
      ⟨ez2, eI2, ⟨_, _, (sb.2 _ S.TOz).trans eO'⟩, z1.1.at fun o y => (sb.2 _ S.zi1.symm).trans y, z2.1.at fun o y => (sb.2 _ S.zi2.symm).trans y⟩, fun c hcm => ?_⟩
    have lt : c < s.heap.objs.size := by
      rcases in5 hcm with rfl | rfl | rfl | rfl | rfl
      · exact zl
      · exact Heap.lt_size eI
      · exact Heap.lt_size eO
      · obtain ⟨_, e1, _⟩ := j1; exact Heap.lt_size e1
      · obtain ⟨_, e2, _⟩ := j2; exact Heap.lt_size e2
    rw [upd_ne (Nat.ne_of_lt lt)]
    exact (hf c hcm).1
  done := by
    intro X hP hw hK hc i pins s σ H E I hf st g
    subst hP hw hK
    obtain ⟨ez, eI, ⟨x0, y0, eO⟩, j1, j2⟩ := st
    obtain ⟨xs, ys, qx, qy, l⟩ := g
    obtain ⟨us, rv, tp, _⟩ := I.tuple qx
    obtain ⟨us2, rv2, tp2, _⟩ := I.list qy
    have tp' : s.heap.IsTuple a us.toArray := tp
    have tl' : s.heap.IsList b us2.toArray := tp2.isList
    have n1 : a ≠ i1 := by obtain ⟨o, eo, oc, _⟩ := id j1; exact other_cls tp' eo (by rw [oc]; decide +kernel)
    have n2 : b ≠ i2 := by obtain ⟨o, eo, oc, _⟩ := id j2; exact other_clsL tl' eo (by rw [oc]; decide +kernel)
    have hd : X.A.in1.handled = none := I.ok.hd hc
    have r1 := rv.length
    have r2 := rv2.length
    exact wpAny_pyNext_zipD2_end S (Draws.tuple hd i1 a n1 us.toArray) (Draws.list hd i2 b n2 us2.toArray) ez eI eO ⟨j1, tp'⟩ ⟨j2, tl'⟩ (by simp; omega) (by simp; omega) (by simp; omega) fun h' tk kp => ⟨rfl,
      I.turnedL (t' := tk) (ch := [z, TI, TO, i1, i2]) (fun c o nc y => kp c o (fun e => nc (by simp [e])) (fun e => nc (by simp [e])) (fun e => nc (by simp [e])) (fun e => nc (by simp [e])) y) hf⟩
  self := fun A i s Q E st h => wpAny_pyIter_zip st.1 h
def iZipM (K : PySem.W.Frag) (ta : TA) : TI := fun σ H R => ta σ H fun vs H1 => ∃ a b xs ys, vs = [.ref a, .ref b] ∧ SqT K H1 a xs ∧ SqL K H1 b ys ∧ R (ItzM K a b) H1
/-- zip(t, l), t a tuple, l a list -/
theorem pi_zipM {X : Cx} {e e2 : Expr} {ta : TA} {p pos tpos : Pos} {elts : List Expr} {kk : Nat} (hg : Gl X "zip") (hm : X.mg "zip" = none) (ha : PA X [e, e2] ta)
    (hs : starEach [e, e2] X.env = (false, eval e X.env) :: starEach [e2] X.env := by rfl) (hpl : (backTo pos (starEach [e2] X.env)).any (·.1) = false := by rfl) :
    PI X (.Tuple elts kk tpos) (.Call (.Name "zip" p) [e, e2] [] pos) (iZipM X.K ta) := by
  refine ⟨fun pins s σ H R I z => Call_ (ld_blt I hg hm PyProof.Rows.boot_zip (PyProof.Rows.callWith_type1 (thn (ha.run pos pins s σ H _ I z) fun us s1 ⟨vs, H1, I1, r1, q1⟩ => ?_) hs hpl))⟩
  obtain ⟨a, b, xs, ys, rfl, qx, qy, q⟩ := q1
  obtain ⟨u, u', rfl, ru, ru'⟩ := vals2 r1
  obtain rfl : u = Value.ref a := ru
  obtain rfl : u' = Value.ref b := ru'
  obtain ⟨its, rv, tp, _⟩ := I1.tuple qx
  obtain ⟨its2, rv2, tp2, _⟩ := I1.list qy
  have al : a < s1.heap.objs.size := by obtain ⟨o, eo, _⟩ := id tp; exact Heap.lt_size eo
  refine zip_begins2 (begins_tuple a its.toArray) (begins_list b its2.toArray) (show s1.heap.IsTuple a its.toArray from tp) tp2.isList fun h' ez eI eO j1 j2 _ kp => wpAny_pyIter_zip ez ?_
  have I2 : Inv X pins σ H1 { s1 with heap := h' } := I1.kept (t' := s1.toks) kp
  refine ⟨s1.heap.objs.size + 4, [s1.heap.objs.size + 4, s1.heap.objs.size + 2, s1.heap.objs.size + 3, s1.heap.objs.size, s1.heap.objs.size + 1], _, _, H1, rfl, I2,
    turn_zipM (zip_sep2 (N := s1.heap.objs.size) (fp1 := [a]) (fp2 := [b]) (fun c y => by rw [List.mem_singleton.mp y]; exact al) (fun c y => by rw [List.mem_singleton.mp y]; exact tp2.lt)) (Nat.ne_of_lt (Nat.lt_succ_self _)), ⟨ez, eI, ⟨_, _, eO⟩, ⟨_, j1, rfl, rfl⟩, ⟨_, j2, rfl, rfl⟩⟩, fun c hcm => ?_, q⟩
  have le : s1.heap.objs.size ≤ c := by
    rcases in5 hcm with rfl | rfl | rfl | rfl | rfl
    · exact Nat.le_add_right _ _
    · exact Nat.le_add_right _ _
    · exact Nat.le_add_right _ _
    · exact Nat.le_refl _
    · exact Nat.le_add_right _ _
  exact I1.fpOk le (I1.hok.fresh le)
theorem walk_zipM {K : PySem.W.Frag} {a b : Addr} {xs ys : List V} {n : Nat} (hn : n = min xs.length ys.length) : Walk (ItzM K a b) n (fun H => SqT K H a xs ∧ SqL K H b ys) (YPair (fun i => xs[i]?) (fun i => ys[i]?)) :=
  ⟨fun _ _ lt q => ⟨xs, ys, q.1, q.2, by omega, by omega⟩, fun _ q => ⟨xs, ys, q.1, q.2, hn⟩, fun i _ _ _ _ q y => by
    obtain ⟨T, x, u, e1, e2, e3, e4, e5⟩ := y
    exact ⟨T, x, u, e1, e2, e3, e4 xs q.1, e5 ys q.2⟩⟩
end Ft

set_option exponentiation.threshold 9000
namespace Ft
open PySem L2
theorem mul_one {a b : Int} (h1 : a.natAbs ≤ 1) (h2 : b.natAbs ≤ 1) : (a * b).natAbs ≤ 1 := by
  rw [Int.natAbs_mul]
  exact Nat.mul_le_mul h1 h2
theorem twos_one {z : Int} (hz : z.natAbs ≤ 1) : ∀ (f r : Nat) (v : Int), v.natAbs ≤ 1 → (twos z f r v).2.natAbs ≤ 1
  | 0, r, v, h => h
  | f + 1, r, v, h => by
    by_cases e : r % 2 = 0
    · rw [twos_go e]
      exact twos_one hz f (r / 2) (v * z) (mul_one h hz)
    · rw [twos_stop e]
      exact h
theorem valueAt_one (s n : Int) : (valueAt s n).natAbs ≤ 1 := by
  unfold valueAt valueRest
  split
  · split <;> decide
  · refine mul_one (twos_one ?_ _ _ _ (by decide)) ?_
    · have := valueTwo_le s
      omega
    · unfold valueOdd sg
      dsimp only
      split
      · split <;> decide
      · decide
def twL (ts : List Int) (s : Int) : List Int := (List.range ts.length).map fun n : Nat => valueAt s (n : Int) * ts.getD n 0
def sp_twist : Sp := fun vs H Q _ => ∃ v b ts s, vs = [v, .int s] ∧ Bg H v b ts ∧ BgOk b ts ∧ b.natAbs < 2 ^ 8000 ∧ isSign s = true ∧ ∀ H' u, Same H H' → Bg H' u (lowB b (twL ts s)) (lowT b (twL ts s)) → Q u H'
section
variable {P : Program} {w : World} {K : PySem.W.Frag} {mg : Str → Option Value} {base : Heap}
theorem fn_twisted {f : Addr} {fd : FuncData} (F : Fun K "twisted" "twisted" s_twisted f fd) (B : Bi mg) (c_check_beginning : Cal P w K mg base 4 "check_beginning" sp_checkBeg) (c_check_sign : Cal P w K mg base 4 "check_sign" sp_check_sign) (c_lowered : Cal P w K mg base 1 "lowered" sp_lowered) (c_value_at : Cal P w K mg base 2 "value_at" sp_value_at) : FnOk P w K mg base CX0 5 f fd ["beginning", "sign"] sp_twist := by
  have sc := sc_twisted
  refine F.ok sc (fun _ _ _ _ ⟨_, _, _, _, e, _⟩ => by rw [e]; rfl) (fun cdv A outer s H vs Q E hr h => ?_)
  obtain ⟨v, b, ts, z, rfl, hv, hb, hbs, hz, q⟩ := h
  refine ⟨_, (pss_cons (ps_expr (pe_c c_check_beginning hr (by decide) (by rfl) (pa_cons (pv 0) pa_nil)))
      (pss_cons (ps_expr (pe_c c_check_sign hr (by decide) (by rfl) (pa_cons (pv 1) pa_nil)))
      (pss_cons (ps_asg (pv 0) (pg_tup rfl (pgs_cons (pg_name (i := 2) sc.nd rfl (Or.inl rfl)) (pgs_cons (pg_name (i := 3) sc.nd rfl (Or.inl rfl)) pgs_nil))))
      (pss_one (ps_ret (pe_c c_lowered hr (by decide) (by rfl) (pa_cons (pv 2) (pa_cons (pe_lc (own := [("n", 4), ("top", 5)]) (g := gTup K 2 (gCons (gName 4) (gCons (gName 5) gNil))) (tt := tYes) (by rfl) sc.nd (pi_enumT (by rfl) B.enumerate (pa_cons (pv 3) pa_nil)) (blkOk_by (own := [("n", 4), ("top", 5)]) (N := N_twisted) (sc := defScope s_twisted) (by decide +kernel)) (fun _ _ _ _ _ => (pg_tup rfl (pgs_cons (pg_name (i := 4) sc.nd rfl (Or.inl rfl) (Or.inr rfl)) (pgs_cons (pg_name (i := 5) sc.nd rfl (Or.inl rfl) (Or.inr rfl)) pgs_nil)))) (fun _ _ _ _ _ => pts_nil) (fun _ _ _ _ _ => (pe_op op_mul (pe_c c_value_at hr (by decide) (by rfl) (pa_cons (pv 1) (pa_cons (pv 4) pa_nil))) (pv 5)))) pa_nil)))))))), ?_⟩
  have l1 := hb.2.1
  have l2 := hb.2.2
  have b1 := hb.1
  have hzl := isSign_le hz
  refine ⟨_, rfl, v, b, ts, rfl, hv, hb, fun H1 s1 => ?_⟩
  refine ⟨_, rfl, z, rfl, hz, ?_⟩
  obtain ⟨p, r, rfl, hp, hrt⟩ := hv.same s1
  refine ⟨_, rfl, p, _, rfl, SqT.of hp, rfl, ?_⟩
  refine ⟨_, _, rfl, _, _, rfl, rfl, ?_⟩
  have ll : (ts.map V.int).length = ts.length := List.length_map ..
  refine ⟨_, rfl, _, rfl, r, _, rfl, SqT.of hrt, fun D1 hD1 => ?_⟩
  refine lc_it (walk_enumT (xs := ts.map V.int)) (fun i H' => Same H1 H' ∧ H' D1 = some (.lst ((List.range i).map fun n : Nat => V.int (valueAt z (n : Int) * ts.getD n 0)))) ⟨Same.upd_new hD1, upd_same⟩ (fun i H' _ ⟨s2, _⟩ => SqT.of (s2 _ _ hrt)) ?_ ?_
  · rintro i x H2 H3 hi ⟨s2, h2⟩ ⟨T, u, y, rfl, hT, rfl, hu, hy⟩
    rw [ll] at hi
    obtain rfl : u = V.int (i : Nat) := (Option.some.inj hu).symm
    obtain rfl : y = V.int (ts.getD i 0) := Option.some.inj (hy.symm.trans (getD_at hi))
    have s3 : Same H2 (upd H2 T (.tup [V.int (i : Nat), V.int (ts.getD i 0)])) := Same.upd_new hT
    have v1 := valueAt_one z (i : Int)
    refine ⟨T, _, rfl, SqT.of upd_same, rfl, ?_⟩
    refine ⟨_, _, rfl, _, _, rfl, rfl, rfl, ?_⟩
    refine ⟨_, rfl, _, rfl, z, _, rfl, hzl.2.1, _, rfl, _, _, rfl, rfl, .inl ⟨by omega, by omega⟩, _, s3 _ _ h2, ?_, fun b o e => ?_, ?_⟩
    · rw [List.length_map, List.length_range]
      exact Nat.lt_of_le_of_lt (by omega : i ≤ 400) (by decide)
    · rw [upd_ne (ne_of_none e hD1)]
      exact s3 _ _ (s2 _ _ e)
    · rw [upd_same, List.range_succ, List.map_append]
      rfl
  · rintro H2 ⟨s2, h2⟩
    rw [ll] at h2
    refine ⟨b, D1, twL ts z, rfl, ?_, by omega, hbs, ?_, fun H3 u s3 hu => ?_⟩
    · rw [h2]
      unfold twL
      rw [List.map_map]
      rfl
    · unfold twL
      rw [List.length_map, List.length_range]
      omega
    · exact q _ _ (s1.trans (s2.trans s3)) hu
theorem ok_reduced (D : Df K mg "_law_reduced" s__law_reduced ["_law_bottom", "_law_tops"]) (B : Bi mg)  : Cal P w K mg base 1 "_law_reduced" sp_lowered := by
  obtain ⟨f, fd, F, m, b⟩ := D.ex
  have sc := sc__law_reduced
  refine ⟨f, fd, _, F.ok sc (fun _ _ _ _ ⟨_, _, _, e, _⟩ => by rw [e]; rfl) (fun cdv A outer s H vs Q E hr h => ?_), m, F.kp, b⟩
  obtain ⟨b, p, ts, rfl, hp, b0, b1, tl, q⟩ := h
  refine ⟨_, (pss_cons (ps_set (i := 2) sc.nd rfl (Or.inr rfl) (pv 0))
      (pss_cons (ps_for PassesOwn.never rfl (pi_list (pv 1)) (pg_name (i := 3) sc.nd rfl (Or.inl rfl))
      (pss_cons (ps_par (i := 4) (j := 5) (by rfl) sc.nd rfl rfl (by decide) rfl rfl (pa_cons (pv 2) (pa_cons (pe_callB call_abs (by rfl) B.abs (by decide +kernel) (pa_cons (pv 3) pa_nil)) pa_nil)) (by rfl))
        (pss_cons (ps_while PassesOwn.never (pt_cmpR op_ne (pv 5) pe_int (nomark _))
        (pss_one (ps_par (i := 4) (j := 5) (by rfl) sc.nd rfl rfl (by decide) rfl rfl (pa_cons (pv 5) (pa_cons (pe_op op_mod (pe_callTy call_int1 (by rfl) B.int_ (by decide +kernel) (pa_cons (pv 4) pa_nil)) (pv 5)) pa_nil)) (by rfl))))
        (pss_one (ps_set (i := 2) sc.nd rfl (Or.inr rfl) (pv 4))))))
      (pss_one (ps_ret (pe_tup (pa_cons (pe_op op_fdivW (pv 0) (pv 2)) (pa_cons (pe_callTy call_tuple_of (by rfl) B.tuple (by decide +kernel) (pa_cons (pe_lc (own := [("_law_top", 3)]) (g := gName 3) (tt := tYes) (by rfl) sc.nd (pi_list (pv 1)) (blkOk_by (own := [("_law_top", 3)]) (N := N__law_reduced) (sc := defScope s__law_reduced) (by decide +kernel)) (fun _ _ _ _ _ => (pg_name (i := 3) sc.nd rfl (Or.inl rfl))) (fun _ _ _ _ _ => pts_nil) (fun _ _ _ _ _ => (pe_op op_fdivW (pv 3) (pv 2)))) pa_nil)) pa_nil))))))), ?_⟩
  have eb : b = (b.natAbs : Int) := by omega
  refine ⟨_, rfl, ?_⟩
  dsimp only [gName]
  refine tSeq_join (fun σ H' => H = H' ∧ ∃ o3 o4 o5 : Option V, σ = [some (.int b), some (.ref p), some (.int ((gcdL b.natAbs ts : Nat) : Int)), o3, o4, o5]) (fun N hN => ?_) ?_
  · refine ⟨_, rfl, p, rfl, ⟨_, SqL.of hp⟩, for_list (K := K) (a := p) (xs := ts.map V.int) (fun i σ H' => H = H' ∧ ∃ (g : Nat) (o3 o4 o5 : Option V), σ = [some (.int b), some (.ref p), some (.int (g : Int)), o3, o4, o5] ∧ gcdL g (ts.drop i) = gcdL b.natAbs ts) ⟨rfl, b.natAbs, none, none, none, by rw [← eb]; rfl, rfl⟩ (fun i σ H2 _ ⟨e, _⟩ => by rw [← e]; exact SqL.of hp) ?_ ?_⟩
    · rintro i x σ _ hi ⟨rfl, g, o3, o4, o5, rfl, hg⟩
      obtain ⟨z, rfl, hz⟩ := int_at hi
      rw [gcdL_drop hz] at hg
      have ea : (if z < 0 then -z else z) = (z.natAbs : Int) := by split <;> omega
      refine ⟨_, rfl, _, rfl, z, rfl, _, _, rfl, ?_⟩
      rw [ea]
      refine while_go (fun σ H' => H = H' ∧ ∃ (c e : Nat), σ = [some (.int b), some (.ref p), some (.int (g : Int)), some (.int z), some (.int (c : Nat)), some (.int (e : Nat))] ∧ Nat.gcd c e = Nat.gcd g z.natAbs) (fun σ _ => m0 5 σ) ⟨rfl, g, z.natAbs, rfl, rfl⟩ ?_
      rintro σ _ ⟨rfl, c, e, rfl, hce⟩
      refine ⟨_, rfl, rfl, _, rfl, ifNI (fun hne => ?_) fun he => ?_⟩
      · have e0 : 0 < e := by omega
        refine ⟨fun σ' H' => H = H' ∧ ∃ (c' e' : Nat), σ' = [some (.int b), some (.ref p), some (.int (g : Int)), some (.int z), some (.int (c' : Nat)), some (.int (e' : Nat))] ∧ Nat.gcd c' e' = Nat.gcd g z.natAbs ∧ e' < e, ?_, ?_⟩
        · rintro σ' _ ⟨rfl, c', e', rfl, h1, h2⟩
          exact ⟨_, (by show ((e' : Int)).toNat < ((e : Int)).toNat; omega), rfl, rfl, c', e', rfl, h1⟩
        refine ⟨_, rfl, _, rfl, .inl ⟨_, rfl, _, rfl, _, _, rfl, rfl, (by show (0 : Int) < (e : Int); omega), _, _, rfl, ?_⟩⟩
        refine ⟨rfl, e, c % e, rfl, ?_, Nat.mod_lt _ e0⟩
        rw [← hce, Nat.gcd_comm e, ← Nat.gcd_rec, Nat.gcd_comm]
      · have e0 : e = 0 := by omega
        subst e0
        rw [Nat.gcd_zero_right] at hce
        subst hce
        refine ⟨_, rfl, ?_⟩
        exact ⟨rfl, _, _, _, _, rfl, hg⟩
    · rintro σ _ ⟨rfl, g, o3, o4, o5, rfl, hg⟩
      rw [List.length_map, List.drop_length] at hg
      exact hN _ _ ⟨rfl, o3, o4, o5, by rw [← hg]; rfl⟩
  rintro _ _ ⟨rfl, o3, o4, o5, rfl⟩
  have gd := gcdL_dvd ts b.natAbs
  have bp : 0 < b.natAbs := by omega
  have gl := Nat.le_of_dvd bp gd
  have gp := Nat.pos_of_dvd_of_pos gd bp
  generalize hG : gcdL b.natAbs ts = G at gl gp
  have cd : ∀ i : Int, CDivW i (G : Int) := fun i => wide_div (b := 8000) (by omega) (Nat.lt_of_le_of_lt gl b1) (by decide) (by decide)
  refine ⟨_, rfl, _, rfl, _, _, rfl, rfl, cd b, ?_⟩
  refine ⟨_, rfl, p, rfl, ⟨_, SqL.of hp⟩, fun D1 hD1 => ?_⟩
  refine lc_list (K := K) (a := p) (xs := ts.map V.int) (fun i H' => Same H H' ∧ H' D1 = some (.lst ((ts.take i).map fun t => V.int (t / (G : Int))))) ⟨Same.upd_new hD1, upd_same⟩ (fun i H' _ ⟨s2, _⟩ => SqL.of (s2 _ _ hp)) ?_ ?_
  · rintro i x H2 hx ⟨s2, h2⟩
    obtain ⟨z, rfl, hz⟩ := int_at hx
    have hi := (List.getElem?_eq_some_iff.mp hz).1
    refine ⟨rfl, ?_⟩
    refine ⟨_, rfl, _, rfl, _, _, rfl, rfl, cd z, _, h2, ?_, fun b o e => ?_, ?_⟩
    · rw [List.length_map, List.length_take]
      exact Nat.lt_of_le_of_lt (Nat.le_trans (Nat.min_le_right _ _) tl) (by decide)
    · rw [upd_ne (ne_of_none e hD1)]
      exact s2 _ _ e
    · rw [upd_same, take_snoc hz, List.map_append]
      rfl
  · rintro H2 ⟨s2, h2⟩
    have e1 : (ts.take (ts.map V.int).length).map (fun t => V.int (t / (G : Int))) = (lowT b ts).map V.int := by
      unfold lowT
      rw [hG, List.length_map, List.take_length, List.map_map]
      rfl
    rw [e1] at h2
    refine ⟨D1, _, rfl, .inl ⟨SqL.of h2, fun T1 hT1 => ?_⟩⟩
    have s3 : Same H2 (upd H2 T1 (.tup ((lowT b ts).map V.int))) := Same.upd_new hT1
    have h3 : (upd H2 T1 (.tup ((lowT b ts).map V.int))) T1 = some (.tup ((lowT b ts).map V.int)) := upd_same
    generalize hH3 : upd H2 T1 (.tup ((lowT b ts).map V.int)) = H3 at s3 h3
    refine ⟨(by show (2 : Nat) ≤ sizeLine; decide), fun T2 hT2 => ?_⟩
    have s4 : Same H3 (upd H3 T2 (.tup [V.int (b / (G : Int)), V.ref T1])) := Same.upd_new hT2
    refine q _ _ (s2.trans (s3.trans s4)) ⟨T2, T1, rfl, ?_, s4 _ _ h3⟩
    unfold lowB
    rw [hG]
    exact upd_same
end
end Ft

namespace Ft
open PySem L2
/-! ### the law's values of signs -/
def lawPrime (s : Int) (p : Nat) : Int :=
  if s % (p : Int) = 0 then 0 else if p = 2 then (if s % 8 = 1 then 1 else -1) else
    if (List.range (p / 2)).any (fun i => decide ((((1 + i) * (1 + i) % p : Nat) : Int) = s % (p : Int))) = true then 1 else -1
def leastD (n : Nat) : Nat := 2 + ((List.range (n - 1)).filter fun i => decide (n % (2 + i) = 0)).headD 0
def valsStep (s : Int) (l : List Int) (n : Nat) : Int := if leastD n = n then lawPrime s n else l.getD (leastD n) 0 * l.getD (n / leastD n) 0
def valsTo (s : Int) : Nat → List Int
  | 0 => [if s = 1 then 1 else 0, 1]
  | i + 1 => valsTo s i ++ [valsStep s (valsTo s i) (2 + i)]
def lawVals (s : Int) (many : Nat) : List Int := (valsTo s (many - 2)).take many
theorem flat_ints {α : Type} (g : α → Int) : ∀ l : List α, (l.map fun j => V.int (g j)).all flatV = true
  | [] => rfl
  | x :: l => by
    rw [List.map_cons, List.all_cons, flat_ints g l]
    rfl
theorem inV_any {α : Type} (a : Int) (g : α → Int) : ∀ l : List α, inV (V.int a) (l.map fun j => V.int (g j)) = l.any fun j => decide (g j = a)
  | [] => rfl
  | x :: l => by
    have ih := inV_any a g l
    unfold inV at ih ⊢
    rw [List.map_cons, List.any_cons, List.any_cons, ih]
    have e : eqV (V.int (g x)) (V.int a) = decide (g x = a) := by
      show (g x == a) = decide (g x = a)
      by_cases h : g x = a
      · rw [h]; simp
      · rw [decide_eq_false h]; exact beq_eq_false_iff_ne.mpr h
    rw [e]
def sp_prime : Sp := fun vs H Q _ => ∃ (s : Int) (p : Nat), vs = [.int s, .int (p : Int)] ∧ 2 ≤ p ∧ p ≤ 400 ∧ ∀ H', Same H H' → Q (.int (lawPrime s p)) H'
section
variable {P : Program} {w : World} {K : PySem.W.Frag} {mg : Str → Option Value} {base : Heap}
theorem ok_prime (D : Df K mg "_law_at_prime" s__law_at_prime ["_law_sign_here", "_law_p"]) (B : Bi mg)  : Cal P w K mg base 1 "_law_at_prime" sp_prime := by
  obtain ⟨f, fd, F, m, b⟩ := D.ex
  have sc := sc__law_at_prime
  refine ⟨f, fd, _, F.ok sc (fun _ _ _ _ ⟨_, _, e, _⟩ => by rw [e]; rfl) (fun cdv A outer s H vs Q E hr h => ?_), m, F.kp, b⟩
  obtain ⟨z, p, rfl, h2, h4, q⟩ := h
  refine ⟨_, (pss_cons (ps_if (pt_cmpR op_eq (pe_op op_mod (pe_callTy call_int1 (by rfl) B.int_ (by decide +kernel) (pa_cons (pv 0) pa_nil)) (pv 1)) pe_int (nomark _))
      (pss_one (ps_ret pe_int))
      pss_nil)
      (pss_cons (ps_if (pt_cmpR op_eq (pv 1) pe_int (nomark _))
      (pss_one (ps_ret (pe_ifExp (pt_cmpR op_eq (pe_op op_mod (pe_callTy call_int1 (by rfl) B.int_ (by decide +kernel) (pa_cons (pv 0) pa_nil)) pe_int) pe_int (nomark _)) pe_int (pe_un un_neg pe_int))))
      pss_nil)
      (pss_one (ps_ret (pe_ifExp (pt_cmpR op_in_seq (pe_op op_mod (pe_callTy call_int1 (by rfl) B.int_ (by decide +kernel) (pa_cons (pv 0) pa_nil)) (pv 1)) (pe_lc (own := [("_law_x", 2)]) (g := gName 2) (tt := tYes) (by rfl) sc.nd (pi_range2 (by rfl) B.range (pa_cons pe_int (pa_cons (pe_op op_add (pe_op op_fdivW (pv 1) pe_int) pe_int) pa_nil))) (blkOk_by (own := [("_law_x", 2)]) (N := N__law_at_prime) (sc := defScope s__law_at_prime) (by decide +kernel)) (fun _ _ _ _ _ => (pg_name (i := 2) sc.nd rfl (Or.inl rfl))) (fun _ _ _ _ _ => pts_nil) (fun _ _ _ _ _ => (pe_op op_mod (pe_callTy call_int1 (by rfl) B.int_ (by decide +kernel) (pa_cons (pe_op op_mul (pv 2) (pv 2)) pa_nil)) (pv 1)))) (by rfl)) pe_int (pe_un un_neg pe_int)))))), ?_⟩
  unfold lawPrime at q
  have p0 : (0 : Int) < (p : Int) := by omega
  refine ⟨_, rfl, .inl ⟨z, rfl, _, rfl, _, _, rfl, rfl, p0, rfl, _, rfl, ifI (fun e => ?_) fun e => ?_⟩⟩
  · have := q H (Same.refl H)
    rw [if_pos e] at this
    exact this
  rw [if_neg e] at q
  refine ⟨_, rfl, rfl, _, rfl, ifI (fun e2 => ?_) fun e2 => ?_⟩
  · have := q H (Same.refl H)
    rw [if_pos (show p = 2 by omega)] at this
    refine ⟨_, rfl, .inl ⟨z, rfl, _, _, rfl, rfl, (by show (0 : Int) < 8; decide), rfl, _, rfl, ifI (fun e3 => ?_) fun e3 => ?_⟩⟩
    · rw [if_pos e3] at this; exact this
    · rw [if_neg e3] at this; exact ⟨_, rfl, this⟩
  rw [if_neg (show ¬ p = 2 by omega)] at q
  refine ⟨_, rfl, .inl ⟨z, rfl, _, rfl, _, _, rfl, rfl, p0, ?_⟩⟩
  refine ⟨_, rfl, _, _, rfl, rfl, ⟨by decide, by decide⟩, _, _, rfl, rfl, 1, _, rfl, (by omega), fun D hD => ?_⟩
  have en : ((p : Int) / 2 + 1 - 1).toNat = p / 2 := by omega
  refine lc_range (lo := 1) (n := ((p : Int) / 2 + 1 - 1).toNat) (fun i H' => Same H H' ∧ H' D = some (.lst ((List.range i).map fun j : Nat => V.int (((1 + j) * (1 + j) % p : Nat) : Int)))) ⟨Same.upd_new hD, upd_same⟩ ?_ ?_
  · rintro i H1 hi ⟨s1, h1⟩
    refine ⟨rfl, ?_⟩
    have hi2 : i < 400 := by omega
    have hk : (1 : Int) + (i : Int) = ((1 + i : Nat) : Int) := by omega
    refine ⟨_, rfl, _, rfl, _, _, rfl, rfl, .inl ⟨by omega, by omega⟩, .inl ⟨_, rfl, _, rfl, _, _, rfl, rfl, p0, _, h1, ?_, ?_⟩⟩
    · rw [List.length_map, List.length_range]
      exact Nat.lt_trans hi2 (by decide)
    · refine ⟨fun b o e => ?_, ?_⟩
      · rw [upd_ne (ne_of_none e hD)]
        exact s1 _ _ e
      · rw [upd_same, List.range_succ, List.map_append]
        show some (HO.lst (_ ++ [V.int (((1 : Int) + (i : Int)) * ((1 : Int) + (i : Int)) % (p : Int))])) = _
        rw [hk]
        rfl
  · rintro H1 ⟨s1, h1⟩
    rw [en] at h1
    refine ⟨D, _, rfl, .inl (SqL.of h1), rfl, flat_ints _ _, _, rfl, ?_⟩
    have qq := q H1 s1
    have ev := inV_any (z % (p : Int)) (fun j : Nat => ((((1 + j) * (1 + j) % p : Nat) : Int))) (List.range (p / 2))
    show if inV (V.int (z % (p : Int))) _ = true then _ else _
    rw [ev]
    cases hc : (List.range (p / 2)).any fun j => decide ((((1 + j) * (1 + j) % p : Nat) : Int) = z % (p : Int)) with
    | true =>
      rw [hc] at qq
      exact iteT qq
    | false =>
      rw [hc] at qq
      exact iteF ⟨_, rfl, qq⟩
end
theorem leastD_spec {n : Nat} (h : 2 ≤ n) : 2 ≤ leastD n ∧ leastD n ≤ n ∧ n % leastD n = 0 ∧ ∃ r, (List.range (n - 1)).filter (fun i => decide (n % (2 + i) = 0)) = (leastD n - 2) :: r := by
  have hm : n - 2 ∈ (List.range (n - 1)).filter (fun i => decide (n % (2 + i) = 0)) := by
    refine List.mem_filter.mpr ⟨List.mem_range.mpr (by omega), decide_eq_true ?_⟩
    rw [show 2 + (n - 2) = n by omega, Nat.mod_self]
  unfold leastD
  cases e : (List.range (n - 1)).filter (fun i => decide (n % (2 + i) = 0)) with
  | nil => rw [e] at hm; cases hm
  | cons a r =>
    have ha : a ∈ (List.range (n - 1)).filter (fun i => decide (n % (2 + i) = 0)) := by rw [e]; exact List.mem_cons_self
    have h1 := List.mem_range.mp (List.mem_filter.mp ha).1
    have h2 := of_decide_eq_true (List.mem_filter.mp ha).2
    show 2 ≤ 2 + a ∧ 2 + a ≤ n ∧ n % (2 + a) = 0 ∧ _
    exact ⟨by omega, by omega, h2, r, by show a :: r = (2 + a - 2) :: r; rw [Nat.add_sub_cancel_left]⟩
theorem valsTo_len (s : Int) : ∀ i, (valsTo s i).length = 2 + i
  | 0 => rfl
  | i + 1 => by
    show (valsTo s i ++ [_]).length = _
    rw [List.length_append, valsTo_len s i]; rfl
theorem lawPrime_one (s : Int) (p : Nat) : (lawPrime s p).natAbs ≤ 1 := by
  unfold lawPrime
  split
  · decide
  · split
    · split <;> decide
    · split <;> decide
theorem getD_one {l : List Int} (h : ∀ x ∈ l, x.natAbs ≤ 1) (i : Nat) : (l.getD i 0).natAbs ≤ 1 := by
  rw [List.getD_eq_getElem?_getD]
  cases e : l[i]? with
  | none => exact Nat.zero_le 1
  | some x => exact h x (List.mem_of_getElem? e)
theorem valsTo_one (s : Int) : ∀ i, ∀ x ∈ valsTo s i, x.natAbs ≤ 1
  | 0, x, h => by
    rcases List.mem_cons.mp h with h | h
    · subst h; split <;> decide
    · obtain rfl := List.mem_singleton.mp h; decide
  | i + 1, x, h => by
    rcases List.mem_append.mp (show x ∈ valsTo s i ++ [valsStep s (valsTo s i) (2 + i)] from h) with h | h
    · exact valsTo_one s i x h
    · obtain rfl := List.mem_singleton.mp h
      unfold valsStep
      split
      · exact lawPrime_one _ _
      · exact mul_one (getD_one (valsTo_one s i) _) (getD_one (valsTo_one s i) _)
theorem cut_take (xs : List V) (k : Nat) : cutV xs none (some (k : Int)) = xs.take k := by
  unfold cutV
  rw [HT.sIx_none, HT.sIx_nat, List.drop_zero, Nat.sub_zero]
  rcases Nat.le_total k xs.length with h | h
  · rw [Nat.min_eq_left h]
  · rw [Nat.min_eq_right h, List.take_of_length_le (Nat.le_refl _), List.take_of_length_le h]
def sp_vals : Sp := fun vs H Q _ => ∃ (s : Int) (many : Nat), vs = [.int s, .int (many : Int)] ∧ many ≤ 400 ∧ ∀ H' p, Same H H' → H p = none → H' p = some (.lst ((lawVals s many).map V.int)) → Q (.ref p) H'
section
variable {P : Program} {w : World} {K : PySem.W.Frag} {mg : Str → Option Value} {base : Heap}
theorem ok_vals (D : Df K mg "_law_values" s__law_values ["_law_sign_here", "_law_many"]) (B : Bi mg) (c__law_at_prime : Cal P w K mg base 1 "_law_at_prime" sp_prime) : Cal P w K mg base 2 "_law_values" sp_vals := by
  obtain ⟨f, fd, F, m, b⟩ := D.ex
  have sc := sc__law_values
  refine ⟨f, fd, _, F.ok sc (fun _ _ _ _ ⟨_, _, e, _⟩ => by rw [e]; rfl) (fun cdv A outer s H vs Q E hr h => ?_), m, F.kp, b⟩
  obtain ⟨z, many, rfl, hm4, q⟩ := h
  have hu := hu_of hr
  refine ⟨_, (pss_cons (ps_set (i := 2) sc.nd rfl (Or.inl rfl) (pe_lst (pa_cons (pe_ifExp (pt_cmpR op_eq (pv 0) pe_int (nomark _)) pe_int pe_int) (pa_cons pe_int pa_nil))))
      (pss_cons (ps_for PassesOwn.never rfl (pi_range2 (by rfl) B.range (pa_cons pe_int (pa_cons (pv 1) pa_nil))) (pg_name (i := 3) sc.nd rfl (Or.inr rfl))
      (pss_cons (ps_set (i := 5) sc.nd rfl (Or.inl rfl) (pe_ix (show IxR _ (rIx K) from ix_seq) (pe_lc (own := [("_law_p", 4)]) (g := gName 4)  (by rfl) sc.nd (pi_range2 (by rfl) B.range (pa_cons pe_int (pa_cons (pe_op op_add (pv 3) pe_int) pa_nil))) (blkOk_by (own := [("_law_p", 4)]) (N := N__law_values) (sc := defScope s__law_values) (by decide +kernel)) (fun _ _ _ _ _ => (pg_name (i := 4) sc.nd rfl (Or.inl rfl))) (fun _ _ _ _ _ => (pts_one (pt_cmpR op_eq (pe_op op_mod (pe_callTy call_int1 (by rfl) B.int_ (by decide +kernel) (pa_cons (pv 3) pa_nil)) (pv 4)) pe_int (nomark _)))) (fun _ _ _ _ _ => (pv 4))) pe_int (fun _ _ => rfl)))
        (pss_one (ps_expr (pe_bm PySem.F.plainAttrs_list PySem.F.slot_list_append PySem.F.type_list_append mt_append (pv 2) (pa_cons (pe_ifExp (pt_cmpR op_eq (pv 5) (pv 3) (nomark _)) (pe_c c__law_at_prime hr (by decide) (by rfl) (pa_cons (pv 0) (pa_cons (pv 3) pa_nil))) (pe_op op_mul (pe_ix (show IxR _ (rIx K) from ix_seq) (pv 2) (pv 5) (fun _ _ => rfl)) (pe_ix (show IxR _ (rIx K) from ix_seq) (pv 2) (pe_op op_fdivW (pv 3) (pv 5)) (fun _ _ => rfl)))) pa_nil))))))
      (pss_one (ps_ret (pe_slice sl_list (pv 2) po_none (po_some (pv 1))))))), ?_⟩
  refine tSeq_join (fun σ H' => Same H H' ∧ ∃ p : Addr, H p = none ∧ σ = [some (.int z), some (.int (many : Int)), some (.ref p), none, none, none] ∧ H' p = some (.lst ((valsTo z 0).map V.int))) (fun N hN => ?_) ?_
  · refine ⟨_, rfl, rfl, _, rfl, ifI (fun e => ?_) fun e => ?_⟩
    · refine ⟨(by show (2 : Nat) ≤ sizeLine; decide), fun p hp => hN _ _ ⟨Same.upd_new hp, p, hp, rfl, ?_⟩⟩
      rw [upd_same]
      show _ = some (HO.lst [V.int (if z = 1 then 1 else 0), V.int 1])
      rw [if_pos e]
    · refine ⟨(by show (2 : Nat) ≤ sizeLine; decide), fun p hp => hN _ _ ⟨Same.upd_new hp, p, hp, rfl, ?_⟩⟩
      rw [upd_same]
      show _ = some (HO.lst [V.int (if z = 1 then 1 else 0), V.int 1])
      rw [if_neg e]
  rintro _ H1 ⟨s1, p, hp, rfl, h1⟩
  refine ⟨_, rfl, 2, _, rfl, (by omega), ?_⟩
  refine for_range (lo := 2) (n := ((many : Int) - 2).toNat) (fun i σ H' => Same H H' ∧ ∃ o2 o4 : Option V, σ = [some (.int z), some (.int (many : Int)), some (.ref p), o2, none, o4] ∧ H' p = some (.lst ((valsTo z i).map V.int))) ⟨s1, none, none, rfl, h1⟩ ?_ ?_
  · rintro i σ H2 hi ⟨s2, o2, o4, rfl, h2⟩
    have hin : i < many - 2 := by omega
    have en : (2 : Int) + (i : Int) = ((2 + i : Nat) : Int) := by omega
    obtain ⟨l2, ln, lm, r, lr⟩ := leastD_spec (show 2 ≤ 2 + i by omega)
    have vl := valsTo_len z i
    dsimp only [gName]
    refine ⟨_, rfl, _, _, rfl, rfl, 2, _, rfl, (by omega), fun D1 hD1 => ?_⟩
    refine lc_range (lo := 2) (n := ((2 : Int) + (i : Int) + 1 - 2).toNat) (fun j H' => Same H2 H' ∧ H' D1 = some (.lst (((List.range j).filter fun i' => decide ((2 + i) % (2 + i') = 0)).map fun j : Nat => V.int ((2 + j : Nat) : Int)))) ⟨Same.upd_new hD1, upd_same⟩ ?_ ?_
    · rintro j H3 hj ⟨s3, h3⟩
      refine ⟨rfl, ?_⟩
      have ej : (2 : Int) + (j : Int) = ((2 + j : Nat) : Int) := by omega
      refine ⟨_, rfl, .inl ⟨_, rfl, _, rfl, _, _, rfl, rfl, (by show (0 : Int) < 2 + (j : Int); omega), rfl, _, rfl, ifI (fun e => ?_) fun e => ?_⟩⟩
      · rw [en, ej] at e
        have e' : (2 + i) % (2 + j) = 0 := Int.ofNat.inj e
        refine ⟨_, rfl, _, h3, ?_, fun b o e2 => ?_, ?_⟩
        · rw [List.length_map]
          exact Nat.lt_of_le_of_lt (Nat.le_trans (filter_len _ _) (by omega : j ≤ 400)) (by decide)
        · rw [upd_ne (ne_of_none e2 hD1)]
          exact s3 _ _ e2
        · rw [upd_same, filter_succ, if_pos (decide_eq_true e'), List.map_append]
          show some (HO.lst (_ ++ [V.int (2 + (j : Int))])) = _
          rw [ej]
          rfl
      · rw [en, ej] at e
        have e' : ¬ (2 + i) % (2 + j) = 0 := fun z => e (congrArg Int.ofNat z)
        refine ⟨s3, ?_⟩
        rw [h3, filter_succ, if_neg (by rw [decide_eq_false e']; decide), List.append_nil]
    · rintro H3 ⟨s3, h3⟩
      have e4 : ((2 : Int) + (i : Int) + 1 - 2).toNat = 2 + i - 1 := by omega
      rw [e4, lr] at h3
      have el : (2 + (leastD (2 + i) - 2) : Nat) = leastD (2 + i) := by omega
      have at_0 : atI (((leastD (2 + i) - 2) :: r).map fun j : Nat => V.int ((2 + j : Nat) : Int)) 0 = some (V.int ((leastD (2 + i) : Nat) : Int)) := by
        refine atI_nat (j := 0) ?_
        show some (V.int ((2 + (leastD (2 + i) - 2) : Nat) : Int)) = _
        rw [el]
      have hp3 := s3 _ _ h2
      have sl : 2 + i < 400 := by omega
      have hstep : ∀ y : Int, y = valsStep z (valsTo z i) (2 + i) → ∀ H4 : Hp, Same H3 H4 → H4 p = some (.lst ((valsTo z i).map V.int)) ∧ ((valsTo z i).map V.int).length < sizeLine ∧ Same H (upd H4 p (.lst ((valsTo z i).map V.int ++ [V.int y]))) ∧
          (upd H4 p (.lst ((valsTo z i).map V.int ++ [V.int y]))) p = some (.lst ((valsTo z (i + 1)).map V.int)) := by
        rintro y rfl H4 s4
        refine ⟨s4 _ _ hp3, ?_, fun b o e => ?_, ?_⟩
        · rw [List.length_map, vl]
          exact Nat.lt_trans sl (by decide)
        · rw [upd_ne (ne_of_none e hp)]
          exact s4 _ _ (s3 _ _ (s2 _ _ e))
        · rw [upd_same]
          show _ = some (HO.lst ((valsTo z i ++ [valsStep z (valsTo z i) (2 + i)]).map V.int))
          rw [List.map_append]
          rfl
      refine .inl ⟨D1, _, 0, _, rfl, rfl, SqL.of h3, at_0, ?_⟩
      refine ⟨_, rfl, .inl ⟨rfl, _, SqL.of hp3⟩, _, rfl, _, rfl, rfl, _, rfl, ifI (fun e => ?_) fun e => ?_⟩
      · rw [en] at e
        have e' : leastD (2 + i) = 2 + i := Int.ofNat.inj e
        refine ⟨_, rfl, _, rfl, z, 2 + i, ?_, by omega, by omega, fun H4 s4 => ?_⟩
        · show [V.int z, V.int (2 + (i : Int))] = _
          rw [en]
        have hs := hstep (lawPrime z (2 + i)) (by unfold valsStep; rw [if_pos e']) H4 s4
        exact ⟨p, _, _, rfl, rfl, hs.1, hs.2.1, hs.2.2.1, _, _, rfl, hs.2.2.2⟩
      · rw [en] at e
        have e' : ¬ leastD (2 + i) = 2 + i := fun z => e (congrArg Int.ofNat z)
        have d1 : (2 + i) / leastD (2 + i) < 2 + i := Nat.div_lt_self (by omega) l2
        have a1 : atI ((valsTo z i).map V.int) ((leastD (2 + i) : Nat) : Int) = some (V.int ((valsTo z i).getD (leastD (2 + i)) 0)) := atI_nat (getD_at (by omega))
        have a2 : atI ((valsTo z i).map V.int) ((2 + (i : Int)) / ((leastD (2 + i) : Nat) : Int)) = some (V.int ((valsTo z i).getD ((2 + i) / leastD (2 + i)) 0)) := by
          rw [en]
          exact atI_nat (j := (2 + i) / leastD (2 + i)) (getD_at (by omega))
        have b1 := getD_one (valsTo_one z i) (leastD (2 + i))
        refine ⟨_, rfl, _, rfl, .inl ⟨p, _, _, _, rfl, rfl, SqL.of hp3, a1, ?_⟩⟩
        refine ⟨_, rfl, _, rfl, _, rfl, _, _, rfl, rfl, cdivN (by omega) (by omega), .inl ⟨p, _, _, _, rfl, rfl, SqL.of hp3, a2, ?_⟩⟩
        refine ⟨_, _, rfl, rfl, .inl ⟨by omega, by omega⟩, ?_⟩
        have hs := hstep ((valsTo z i).getD (leastD (2 + i)) 0 * (valsTo z i).getD ((2 + i) / leastD (2 + i)) 0) (by unfold valsStep; rw [if_neg e']) H3 (Same.refl H3)
        exact ⟨p, _, _, rfl, rfl, hs.1, hs.2.1, hs.2.2.1, _, _, rfl, hs.2.2.2⟩
  · rintro σ H2 ⟨s2, o2, o4, rfl, h2⟩
    have e1 : ((many : Int) - 2).toNat = many - 2 := by omega
    rw [e1] at h2
    refine ⟨_, rfl, _, rfl, _, rfl, p, _, rfl, SqL.of h2, fun p2 hp2 => ?_⟩
    rw [cut_take, ← List.map_take]
    exact q _ p2 (s2.trans (Same.upd_new hp2)) (s2.free hp2) upd_same
end
end Ft

namespace Ft
open PySem L2
def lawBad (n : Int) : Bool := decide (n = 0) || (decide (400 < n.natAbs) || (!decide (n % 4 = 1) && !(decide (n % 16 = 8) || decide (n % 16 = 12))))
def lawM (n : Int) : Int := if n % 4 = 1 then n else n / 4
def lawHit (m : Int) (i : Nat) : Bool := decide (m % (((2 + i) * (2 + i) : Nat) : Int) = 0)
def lawSign (n : Int) : Bool := if lawBad n = true then false else ((List.range 19).filter (lawHit (lawM n))).isEmpty
def sp_lawSign : Sp := fun vs H Q _ => ∃ n : Int, vs = [.int n] ∧ ∀ H', Same H H' → Q (.bl (lawSign n)) H'
theorem abs_if (z : Int) : (if z < 0 then -z else z) = (z.natAbs : Int) := by split <;> omega
theorem app_some {α : Type} (xs : List α) (x : α) : (xs ++ [x]).isEmpty = false := by cases xs <;> rfl
theorem sign_check : (List.range 805).all (fun i => !(lawSign ((i : Int) - 402)) || isSign ((i : Int) - 402)) = true := by decide +kernel
theorem lawSign_isSign {z : Int} (h : z.natAbs ≤ 402) (hs : lawSign z = true) : isSign z = true := by
  have c := List.all_eq_true.mp sign_check (z + 402).toNat (List.mem_range.mpr (by omega))
  have e : (((z + 402).toNat : Nat) : Int) - 402 = z := by omega
  rw [e, hs] at c
  exact c
section
variable {P : Program} {w : World} {K : PySem.W.Frag} {mg : Str → Option Value} {base : Heap}
theorem ok_lawSign (D : Df K mg "_law_is_sign" s__law_is_sign ["_law_number"]) (B : Bi mg) : Cal P w K mg base 1 "_law_is_sign" sp_lawSign := by
  obtain ⟨f, fd, F, m, b⟩ := D.ex
  have sc := sc__law_is_sign
  refine ⟨f, fd, _, F.ok sc (fun _ _ _ _ ⟨_, e, _⟩ => by rw [e]; rfl) (fun cdv A outer s H vs Q E hr h => ?_), m, F.kp, b⟩
  obtain ⟨n, rfl, q⟩ := h
  have h64 : (A.deeper (PyProof.Rows.envOfC "_law_is_sign" (defScope s__law_is_sign) s.heap.objs.size f cdv)).units + 64 < cLine := by have := hr.un; omega
  refine ⟨_, (pss_cons (ps_if (PW.pt (pw_or (pt_cmpR op_eq (pv 0) pe_int (nomark _)) (pw_or (pt_cmpR op_gt (pe_callB call_abs (by rfl) B.abs (by decide +kernel) (pa_cons (pv 0) pa_nil)) pe_int (nomark _)) (pw_or1 (PW.pt (pw_and (pt_cmpR op_ne (pe_op op_mod (pe_callTy call_int1 (by rfl) B.int_ (by decide +kernel) (pa_cons (pv 0) pa_nil)) pe_int) pe_int (nomark _)) (pw_and1 (pt_cmpR op_notIn_seq (pe_op op_mod (pe_callTy call_int1 (by rfl) B.int_ (by decide +kernel) (pa_cons (pv 0) pa_nil)) pe_int) (pe_tup (pa_cons pe_int (pa_cons pe_int pa_nil))) (by rfl)))))))))
      (pss_one (ps_ret pe_bl))
      pss_nil)
      (pss_cons (ps_set (i := 1) sc.nd rfl (Or.inr rfl) (pe_ifExp (pt_cmpR op_eq (pe_op op_mod (pe_callTy call_int1 (by rfl) B.int_ (by decide +kernel) (pa_cons (pv 0) pa_nil)) pe_int) pe_int (nomark _)) (pv 0) (pe_op op_fdivW (pv 0) pe_int)))
      (pss_one (ps_ret (pe_cmpR (op_eqD h64) (pe_lc (own := [("_law_k", 2)]) (g := gName 2)  (by rfl) sc.nd (pi_range2 (by rfl) B.range (pa_cons pe_int (pa_cons pe_int pa_nil))) (blkOk_by (own := [("_law_k", 2)]) (N := N__law_is_sign) (sc := defScope s__law_is_sign) (by decide +kernel)) (fun _ _ _ _ _ => (pg_name (i := 2) sc.nd rfl (Or.inl rfl))) (fun _ _ _ _ _ => (pts_one (pt_cmpR op_eq (pe_op op_mod (pe_callTy call_int1 (by rfl) B.int_ (by decide +kernel) (pa_cons (pv 1) pa_nil)) (pe_op op_mul (pv 2) (pv 2))) pe_int (nomark _)))) (fun _ _ _ _ _ => (pv 2))) (pe_lst pa_nil) (nomark _)))))), ?_⟩
  -- behind the first test
  have rest : ∀ H1 : Hp, Same H H1 → lawBad n = false → (∀ H', Same H1 H' → Q (.bl (((List.range 19).filter (lawHit (lawM n))).isEmpty)) H') := fun H1 s1 hb H' s2 => by
    have e := q H' (s1.trans s2)
    unfold lawSign at e
    rw [if_neg (by rw [hb]; decide)] at e
    exact e
  have bad : ∀ H1 : Hp, Same H H1 → lawBad n = true → Q (.bl false) H1 := fun H1 s1 hb => by
    have e := q H1 s1
    unfold lawSign at e
    rw [if_pos hb] at e
    exact e
  refine tSeq_join (fun σ H1 => σ = [some (.int n), none, none] ∧ Same H H1 ∧ lawBad n = false) (fun N hN => ?_) ?_
  · refine ⟨_, rfl, rfl, _, rfl, ifI (fun e => ?_) fun e => ?_⟩
    · refine bad H (Same.refl H) ?_
      unfold lawBad
      rw [decide_eq_true e, Bool.true_or]
    have e1 : decide (n = 0) = false := decide_eq_false e
    refine ⟨_, rfl, n, rfl, _, _, rfl, rfl, _, rfl, ifD (fun e => ?_) fun e => ?_⟩
    · refine bad H (Same.refl H) ?_
      rw [abs_if] at e
      unfold lawBad
      rw [e1, decide_eq_true (show 400 < n.natAbs by omega), Bool.true_or, Bool.or_true]
    rw [abs_if] at e
    have e2 : decide (400 < n.natAbs) = false := decide_eq_false (by omega)
    refine ⟨_, rfl, .inl ⟨n, rfl, _, _, rfl, rfl, (by show (0 : Int) < 4; decide), rfl, _, rfl, ifNI (fun e => ?_) fun e => ?_⟩⟩
    · have e3 : decide (n % 4 = 1) = false := decide_eq_false e
      refine ⟨_, rfl, .inl ⟨n, rfl, _, _, rfl, rfl, (by show (0 : Int) < 16; decide), (by decide), fun p hp => ?_⟩⟩
      refine ⟨p, _, rfl, .inr (SqT.of upd_same), rfl, rfl, _, rfl, ?_⟩
      have ee : inV (V.int (n % 16)) [V.int 8, V.int 12] = (decide (n % 16 = 8) || decide (n % 16 = 12)) := by
        unfold inV
        simp only [List.any_cons, List.any_nil, eqV, Bool.or_false]
        have h : ∀ a b : Int, (a == b) = decide (b = a) := fun a b => by
          by_cases k : b = a
          · subst k; simp
          · rw [decide_eq_false k]; exact beq_eq_false_iff_ne.mpr (Ne.symm k)
        rw [h, h]
      show if (!inV (V.int (n % 16)) [V.int 8, V.int 12]) = true then _ else _
      rw [ee]
      have s1 : Same H (upd H p (.tup [V.int 8, V.int 12])) := Same.upd_new hp
      cases hc : (decide (n % 16 = 8) || decide (n % 16 = 12)) with
      | false =>
        refine iteT ?_
        refine bad _ s1 ?_
        unfold lawBad
        rw [e1, e2, e3, hc]
        rfl
      | true =>
        refine iteF ?_
        refine hN _ _ ⟨rfl, s1, ?_⟩
        unfold lawBad
        rw [e1, e2, e3, hc]
        rfl
    · have e3 : decide (n % 4 = 1) = true := decide_eq_true e
      refine iteF ?_
      refine hN _ _ ⟨rfl, Same.refl H, ?_⟩
      unfold lawBad
      rw [e1, e2, e3]
      rfl
  · rintro _ H1 ⟨rfl, s1, hb⟩
    have rest1 := rest H1 s1 hb
    refine tSeq_join (fun σ H2 => H1 = H2 ∧ σ = [some (.int n), some (.int (lawM n)), none]) (fun N hN => ?_) ?_
    · unfold lawM at hN
      refine ⟨_, rfl, .inl ⟨n, rfl, _, _, rfl, rfl, (by show (0 : Int) < 4; decide), rfl, _, rfl, ifI (fun e => ?_) fun e => ?_⟩⟩
      · rw [if_pos e] at hN
        exact ⟨_, rfl, hN _ _ ⟨rfl, rfl⟩⟩
      · rw [if_neg e] at hN
        exact ⟨_, rfl, _, _, rfl, rfl, ⟨by decide, by decide⟩, hN _ _ ⟨rfl, rfl⟩⟩
    · rintro _ _ ⟨rfl, rfl⟩
      refine ⟨2, 21, rfl, (by decide), fun D hD => ?_⟩
      refine lc_range (lo := 2) (n := 19) (fun i H' => Same H1 H' ∧ ∃ acc : List Int, H' D = some (.lst (acc.map V.int)) ∧ acc.length ≤ i ∧ acc.isEmpty = ((List.range i).filter (lawHit (lawM n))).isEmpty) ⟨Same.upd_new hD, [], upd_same, Nat.le_refl _, rfl⟩ ?_ ?_
      · rintro i H' hi ⟨s2, acc, hacc, hl, he⟩
        refine ⟨rfl, ?_⟩
        have hrange : (List.range (i + 1)).filter (lawHit (lawM n)) = (List.range i).filter (lawHit (lawM n)) ++ if lawHit (lawM n) i = true then [i] else [] := by
          rw [List.range_succ, List.filter_append]
          congr 1
          cases h : lawHit (lawM n) i <;> simp [h]
        have hk : (2 : Int) + (i : Int) = ((2 + i : Nat) : Int) := by omega
        have hkk : ((2 : Int) + (i : Int)) * ((2 : Int) + (i : Int)) = (((2 + i) * (2 + i) : Nat) : Int) := by rw [hk]; rfl
        have hpos : 0 < (2 + i) * (2 + i) := Nat.mul_pos (by omega) (by omega)
        refine ⟨_, rfl, .inl ⟨_, rfl, _, rfl, _, rfl, _, _, rfl, rfl, .inl ⟨by omega, by omega⟩, _, _, rfl, rfl, (by show (0 : Int) < ((2 : Int) + (i : Int)) * ((2 : Int) + (i : Int)); rw [hkk]; omega), rfl, _, rfl, ifI (fun e => ?_) fun e => ?_⟩⟩
        · rw [hkk] at e
          have hh : lawHit (lawM n) i = true := decide_eq_true e
          refine ⟨_, rfl, acc.map V.int, hacc, Nat.lt_of_le_of_lt (by rw [List.length_map]; omega : (acc.map V.int).length ≤ 19) (by decide), ?_⟩
          refine ⟨fun b u e2 => ?_, acc ++ [(2 : Int) + (i : Int)], by rw [upd_same, List.map_append]; rfl, by rw [List.length_append]; exact Nat.add_le_add hl (Nat.le_refl 1), ?_⟩
          · rw [upd_ne (ne_of_none e2 hD)]
            exact s2 _ _ e2
          · rw [hrange, hh, if_pos rfl, app_some, app_some]
        · rw [hkk] at e
          have hh : lawHit (lawM n) i = false := decide_eq_false e
          refine ⟨s2, acc, hacc, by omega, ?_⟩
          rw [hrange, hh, if_neg Bool.false_ne_true, List.append_nil]
          exact he
      · rintro H' ⟨s2, acc, hacc, hl, he⟩
        refine ⟨Nat.zero_le _, fun p hp => ?_⟩
        have s3 : Same H' (upd H' p (.lst [])) := Same.upd_new hp
        have hacc2 := s3 _ _ hacc
        refine ⟨_, _, .lst (SqL.of hacc2) (dp_ints acc), .lst (SqL.of upd_same) .nil, shaped_ints acc, by decide, ?_⟩
        rw [eqv_nil, List.isEmpty_map, he]
        exact rest1 _ (s2.trans s3)
/-- a sign of the law is one of the program -/
def sp_sign : Sp := fun vs H Q _ => ∃ (d l : Addr), vs = [.ref d] ∧ DeckAt H d l ∧ ∀ (H' : Hp) (z : Int), DeckAt H' d l → But d l H H' → isSign z = true → Q (.int z) H'
theorem ok_sign (D : Df K mg "_law_sign" s__law_sign ["_law_deck_here"]) (B : Bi mg) (c__law_draw : Cal P w K mg base 1 "_law_draw" sp_draw) (c__law_pick : Cal P w K mg base 2 "_law_pick" (sp_pick K)) (c__law_is_sign : Cal P w K mg base 1 "_law_is_sign" sp_lawSign) : Cal P w K mg base 3 "_law_sign" sp_sign := by
  obtain ⟨f, fd, F, m, b⟩ := D.ex
  have sc := sc__law_sign
  refine ⟨f, fd, _, F.ok sc (fun _ _ _ _ ⟨_, _, e, _⟩ => by rw [e]; rfl) (fun cdv A outer s H vs Q E hr h => ?_), m, F.kp, b⟩
  obtain ⟨d, l, rfl, DK, q⟩ := h
  refine ⟨_, (pss_cons (ps_if (pt_cmpR op_eq (pe_c c__law_draw hr (by decide) (by rfl) (pa_cons (pv 0) (pa_cons pe_int pa_nil))) pe_int (nomark _))
      (pss_one (ps_ret (pe_c c__law_pick hr (by decide) (by rfl) (pa_cons (pv 0) (pa_cons (pe_lst (pa_cons pe_int (pa_cons (pe_un un_neg pe_int) (pa_cons (pe_un un_neg pe_int) (pa_cons pe_int (pa_cons (pe_un un_neg pe_int) (pa_cons pe_int (pa_cons (pe_un un_neg pe_int) (pa_cons pe_int (pa_cons pe_int pa_nil)))))))))) pa_nil)))))
      pss_nil)
      (pss_cons (ps_set (i := 1) sc.nd rfl (Or.inl rfl) (pe_op op_sub (pe_c c__law_draw hr (by decide) (by rfl) (pa_cons (pv 0) (pa_cons pe_int pa_nil))) pe_int))
      (pss_cons (ps_for PassesOwn.never rfl (pi_range1 rfl B.range (pa_cons pe_int pa_nil)) (pg_name (i := 2) sc.nd rfl (Or.inl rfl))
      (pss_one (ps_if (pt_val (pe_c c__law_is_sign hr (by decide) (by rfl) (pa_cons (pe_op op_add (pv 1) (pv 2)) pa_nil)))
        (pss_one (ps_ret (pe_op op_add (pv 1) (pv 2))))
        pss_nil)))
      (pss_one (ps_ret pe_int))))), ?_⟩
  refine ⟨_, rfl, d, l, _, rfl, DK, by decide, by decide, fun H1 r D1 b1 r0 r1 => ?_⟩
  refine ⟨rfl, _, rfl, ifI (fun e => ?_) fun e => ?_⟩
  · refine ⟨_, rfl, ?_⟩
    refine ⟨_, rfl, _, rfl, _, rfl, _, rfl, (by decide), fun p hp => ?_⟩
    have n1 := D1.new hp
    refine ⟨d, l, p, _, rfl, D1.same (Same.upd_new hp), .inl ⟨upd_same, n1.2⟩, (by show 0 < 9; decide), (by show 9 < 2 ^ 64; decide), fun H2 v D2 b2 hv => ?_⟩
    have hz : ∃ z : Int, v = .int z ∧ isSign z = true := by
      simp only [List.mem_cons, List.not_mem_nil, or_false] at hv
      rcases hv with h | h | h | h | h | h | h | h | h <;> exact ⟨_, h, by decide +kernel⟩
    obtain ⟨z, rfl, hz⟩ := hz
    exact q _ z D2 ((b1.trans (But.of (Same.upd_new hp))).trans b2) hz
  · refine ⟨_, rfl, d, l, _, rfl, D1, by decide, by decide, fun H2 t D2 b2 t0 t1 => ?_⟩
    refine ⟨_, _, rfl, rfl, ?_⟩
    have b12 := b1.trans b2
    refine ⟨6, rfl, by decide, by decide, for_range (lo := 0) (n := 6) (fun i σ H' => DeckAt H' d l ∧ But d l H H' ∧ ∃ (o : Option V), σ = [some (.ref d), some (.int (t - 400)), o]) ⟨D2, b12, none, rfl⟩ ?_ ?_⟩
    · rintro i σ H3 hi ⟨D3, b3, o, rfl⟩
      refine ⟨_, rfl, _, rfl, _, _, rfl, rfl, _, rfl, fun H4 s4 => ⟨_, rfl, ?_⟩⟩
      cases hs : lawSign (t - 400 + (0 + (i : Int))) with
      | true =>
        refine iteT ?_
        refine ⟨_, rfl, _, rfl, _, _, rfl, rfl, ?_⟩
        exact q _ _ (D3.same s4) (b3.trans (But.of s4)) (lawSign_isSign (by omega) hs)
      | false =>
        refine iteF ?_
        exact ⟨D3.same s4, b3.trans (But.of s4), _, rfl⟩
    · rintro σ H3 ⟨D3, b3, o, rfl⟩
      exact q _ 1 D3 b3 (by decide +kernel)
end
end Ft

set_option exponentiation.threshold 9000
namespace Ft
open PySem L2
/-- a drawn beginning -/
structure DrawnB (b : Int) (ts : List Int) (many : Nat) : Prop where
  b1 : 1 ≤ b
  b2 : b ≤ 72
  l1 : 1 ≤ ts.length
  l2 : ts.length ≤ many
  sm : ∀ x ∈ ts, x.natAbs < 2 ^ 100
def sp_beg : Sp := fun vs H Q _ => ∃ (d l : Addr) (many : Nat), vs = [.ref d, .int (many : Int)] ∧ DeckAt H d l ∧ 1 ≤ many ∧ many ≤ 120 ∧ ∀ H' v b ts, DeckAt H' d l → But d l H H' → Bg H' v b ts → DrawnB b ts many → Q v H'
theorem But.updN {d l p : Addr} {H H' : Hp} {o : HO} (b : But d l H H') (hp : H p = none) : But d l H (upd H' p o) := fun c u e h1 h2 => by
  rw [upd_ne (ne_of_none e hp)]
  exact b c u e h1 h2
theorem DeckAt.updN {H : Hp} {d l p : Addr} {o : HO} (D : DeckAt H d l) (h1 : p ≠ d) (h2 : p ≠ l) : DeckAt (upd H p o) d l := by
  obtain ⟨mx, dr, cs, e1, e2, e3⟩ := D
  exact ⟨mx, dr, cs, by rw [upd_ne h1.symm]; exact e1, by rw [upd_ne h2.symm]; exact e2, e3⟩
section
variable {P : Program} {w : World} {K : PySem.W.Frag} {mg : Str → Option Value} {base : Heap}
theorem ok_beg (D : Df K mg "_law_beginning" s__law_beginning ["_law_deck_here", "_law_many"]) (B : Bi mg) (c__law_draw : Cal P w K mg base 1 "_law_draw" sp_draw) (c__law_pick : Cal P w K mg base 2 "_law_pick" (sp_pick K)) : Cal P w K mg base 3 "_law_beginning" sp_beg := by
  obtain ⟨f, fd, F, m, b⟩ := D.ex
  have sc := sc__law_beginning
  refine ⟨f, fd, _, F.ok sc (fun _ _ _ _ ⟨_, _, _, e, _⟩ => by rw [e]; rfl) (fun cdv A outer s H vs Q E hr h => ?_), m, F.kp, b⟩
  obtain ⟨d, l, many, rfl, D0, m1, m2, q⟩ := h
  refine ⟨_, (pss_cons (ps_par3 (i := 2) (j := 3) (l := 4) (by rfl) sc.nd rfl rfl rfl (by decide) (by decide) (by decide) rfl rfl rfl (pa_cons (pe_c c__law_draw hr (by decide) (by rfl) (pa_cons (pv 0) (pa_cons pe_int pa_nil))) (pa_cons (pe_op op_add pe_int (pe_c c__law_draw hr (by decide) (by rfl) (pa_cons (pv 0) (pa_cons pe_int pa_nil)))) (pa_cons (pe_lst pa_nil) pa_nil))) (by rfl))
      (pss_cons (ps_for PassesOwn.never rfl (pi_range1 rfl B.range (pa_cons (pe_op op_add pe_int (pe_c c__law_draw hr (by decide) (by rfl) (pa_cons (pv 0) (pa_cons (pv 1) pa_nil)))) pa_nil)) (pg_name (i := 5) sc.nd rfl (Or.inl rfl))
      (pss_cons (ps_set (i := 6) sc.nd rfl (Or.inl rfl) (pe_op op_sub (pe_c c__law_draw hr (by decide) (by rfl) (pa_cons (pv 0) (pa_cons pe_int pa_nil))) pe_int))
        (pss_cons (ps_if (pt_cmpR op_eq (pv 2) pe_int (nomark _))
        (pss_one (ps_set (i := 6) sc.nd rfl (Or.inl rfl) (pe_op op_add (pe_op op_mul (pv 6) (pe_op op_pow pe_int pe_int)) (pe_op op_mul (pe_c c__law_draw hr (by decide) (by rfl) (pa_cons (pv 0) (pa_cons pe_int pa_nil))) (pe_op op_pow pe_int pe_int)))))
        pss_nil)
        (pss_one (ps_expr (pe_bm PySem.F.plainAttrs_list PySem.F.slot_list_append PySem.F.type_list_append mt_append (pv 4) (pa_cons (pe_op op_mul (pv 3) (pv 6)) pa_nil)))))))
      (pss_one (ps_ret (pe_tup (pa_cons (pe_op op_mul (pv 3) (pe_c c__law_pick hr (by decide) (by rfl) (pa_cons (pv 0) (pa_cons (pe_lst (pa_cons pe_int (pa_cons pe_int (pa_cons pe_int (pa_cons pe_int (pa_cons pe_int (pa_cons pe_int pa_nil))))))) pa_nil)))) (pa_cons (pe_callTy call_tuple_of (by rfl) B.tuple (by decide +kernel) (pa_cons (pv 4) pa_nil)) pa_nil))))))), ?_⟩
  refine ⟨_, rfl, d, l, _, rfl, D0, by decide, by decide, fun H1 way D1 b1 w0 w1 => ?_⟩
  refine ⟨_, rfl, d, l, _, rfl, D1, by decide, by decide, fun H2 fc D2 b2 f0 f1 => ?_⟩
  refine ⟨_, _, rfl, rfl, ?_⟩
  refine ⟨Nat.zero_le _, fun p hp => ?_⟩
  have np := D2.new hp
  have hp0 : H p = none ∨ p = d ∨ p = l := by
    cases e : H p with
    | none => exact .inl rfl
    | some o =>
      by_cases h1 : p = d
      · exact .inr (.inl h1)
      · by_cases h2 : p = l
        · exact .inr (.inr h2)
        · have := (b1.trans b2) _ _ e h1 h2
          rw [hp] at this
          cases this
  have hpn : H p = none := by
    rcases hp0 with h | h | h
    · exact h
    · exact absurd h np.1
    · exact absurd h np.2
  have s3 : Same H2 (upd H2 p (.lst [])) := Same.upd_new hp
  have h3 : (upd H2 p (.lst [])) p = some (.lst []) := upd_same
  generalize hH3 : upd H2 p (.lst []) = H3 at s3 h3
  refine ⟨_, _, _, rfl, ?_⟩
  have D4 := D2.same s3
  have b4 : But d l H H3 := (b1.trans b2).trans (But.of s3)
  refine ⟨_, rfl, _, rfl, d, l, _, rfl, D4, by omega, by omega, fun H5 n D5 b5 n0 n1 => ?_⟩
  refine ⟨_, _, rfl, rfl, ?_⟩
  obtain ⟨N, hN, hN1, hN2⟩ : ∃ N : Nat, 1 + n = (N : Int) ∧ 1 ≤ N ∧ N ≤ many := ⟨(1 + n).toNat, by omega, by omega, by omega⟩
  have h5 := b5 _ _ h3 np.1 np.2
  refine ⟨1 + n, rfl, by omega, by omega, for_range (lo := 0) (n := (1 + n).toNat) (fun i σ H' => DeckAt H' d l ∧ But d l H H' ∧ ∃ (ts : List Int) (o5 o6 : Option V), σ = [some (.ref d), some (.int (many : Int)), some (.int way), some (.int (1 + fc)), some (.ref p), o5, o6] ∧ H' p = some (.lst (ts.map V.int)) ∧ ts.length = i ∧ ∀ x ∈ ts, x.natAbs < 2 ^ 100) ⟨D5, b4.trans b5, [], none, none, rfl, h5, rfl, fun x hx => by cases hx⟩ ?_ ?_⟩
  · rintro i σ H6 hi ⟨D6, b6, ts, o5, o6, rfl, h6, lts, sts⟩
    refine ⟨_, rfl, d, l, _, rfl, D6, by decide, by decide, fun H7 t D7 b7 t0 t1 => ?_⟩
    refine ⟨_, _, rfl, rfl, ?_⟩
    dsimp only [gName]
    refine tSeq_join (fun σ H' => DeckAt H' d l ∧ But d l H H' ∧ H' p = some (.lst (ts.map V.int)) ∧ ∃ (z : Int), σ = [some (.ref d), some (.int (many : Int)), some (.int way), some (.int (1 + fc)), some (.ref p), some (.int (0 + (i : Int))), some (.int z)] ∧ -(2 ^ 80) < z ∧ z < 2 ^ 80) (fun M hM => ?_) ?_
    · have h7 := b7 _ _ h6 np.1 np.2
      refine ⟨_, rfl, rfl, _, rfl, ifI (fun e => ?_) fun e => ?_⟩
      · refine ⟨_, rfl, _, _, rfl, rfl, ⟨by decide, by decide, by decide⟩, _, _, rfl, rfl, .inl ⟨by omega, by omega⟩, ?_⟩
        refine ⟨_, rfl, d, l, _, rfl, D7, by decide, by decide, fun H8 y D8 b8 y0 y1 => ?_⟩
        refine ⟨_, _, rfl, rfl, ⟨by decide, by decide, by decide⟩, _, _, rfl, rfl, .inl ⟨by omega, by omega⟩, _, _, rfl, rfl, ?_⟩
        have h8 := b8 _ _ h7 np.1 np.2
        refine hM _ _ ⟨D8, (b6.trans b7).trans b8, h8, _, rfl, ?_, ?_⟩
        · have e10 : (10 : Int) ^ Int.toNat 19 = 10000000000000000000 := by decide
          have e7 : (10 : Int) ^ Int.toNat 7 = 10000000 := by decide
          show -(2 ^ 80) < (t - 6) * (10 : Int) ^ Int.toNat 19 + y * (10 : Int) ^ Int.toNat 7
          rw [e10, e7]
          omega
        · have e10 : (10 : Int) ^ Int.toNat 19 = 10000000000000000000 := by decide
          have e7 : (10 : Int) ^ Int.toNat 7 = 10000000 := by decide
          show (t - 6) * (10 : Int) ^ Int.toNat 19 + y * (10 : Int) ^ Int.toNat 7 < 2 ^ 80
          rw [e10, e7]
          omega
      · exact hM _ _ ⟨D7, b6.trans b7, h7, _, rfl, by omega, by omega⟩
    · rintro _ H8 ⟨D8, b8, h8, z, rfl, z0, z1⟩
      refine ⟨_, rfl, .inl ⟨rfl, _, SqL.of h8⟩, _, rfl, _, rfl, _, _, rfl, rfl, .inl ⟨by omega, by omega⟩, ?_⟩
      refine ⟨p, _, _, rfl, rfl, h8, ?_, ?_⟩
      · rw [List.length_map, lts]
        exact Nat.lt_of_le_of_lt (by omega : i ≤ 120) (by decide)
      · refine ⟨D8.updN np.1 np.2, b8.updN hpn, ts ++ [(1 + fc) * z], _, _, rfl, ?_, ?_, fun x hx => ?_⟩
        · rw [upd_same, List.map_append]
          rfl
        · rw [List.length_append, lts]; rfl
        · rcases List.mem_append.mp hx with hx | hx
          · exact sts x hx
          · obtain rfl := List.mem_singleton.mp hx
            rw [Int.natAbs_mul]
            exact Nat.lt_of_le_of_lt (Nat.mul_le_mul (by omega : (1 + fc).natAbs ≤ 6) (by omega : z.natAbs ≤ 2 ^ 80)) (by decide)
  · rintro σ H6 ⟨D6, b6, ts, o5, o6, rfl, h6, lts, sts⟩
    have lN : ts.length = N := by omega
    refine ⟨_, rfl, _, rfl, (by show (6 : Nat) ≤ sizeLine; decide), fun p3 hp3 => ?_⟩
    have n3 := D6.new hp3
    have s7 : Same H6 (upd H6 p3 (.lst [V.int 1, V.int 1, V.int 2, V.int 3, V.int 5, V.int 12])) := Same.upd_new hp3
    refine ⟨d, l, p3, _, rfl, D6.same s7, .inl ⟨upd_same, n3.2⟩, (by show 0 < 6; decide), (by show 6 < 2 ^ 64; decide), fun H7 v D7 b7 hv => ?_⟩
    have hz : ∃ z : Int, v = .int z ∧ 1 ≤ z ∧ z ≤ 12 := by
      simp only [List.mem_cons, List.not_mem_nil, or_false] at hv
      rcases hv with h | h | h | h | h | h <;> exact ⟨_, h, by decide, by decide⟩
    obtain ⟨z, rfl, z1, z2⟩ := hz
    have h7 := b7 _ _ (s7 _ _ h6) np.1 np.2
    refine ⟨_, _, rfl, rfl, .inl ⟨by omega, by omega⟩, _, rfl, p, _, rfl, .inl ⟨SqL.of h7, fun pt hpt => ?_⟩⟩
    have s8 : Same H7 (upd H7 pt (.tup (ts.map V.int))) := Same.upd_new hpt
    have h8 : (upd H7 pt (.tup (ts.map V.int))) pt = some (.tup (ts.map V.int)) := upd_same
    generalize hH8 : upd H7 pt (.tup (ts.map V.int)) = H8 at s8 h8
    refine ⟨(by show (2 : Nat) ≤ sizeLine; decide), fun pq hpq => ?_⟩
    have s9 : Same H8 (upd H8 pq (.tup [V.int ((1 + fc) * z), V.ref pt])) := Same.upd_new hpq
    have lo : 1 * 1 ≤ (1 + fc) * z := Int.mul_le_mul (by omega) z1 (by decide) (by omega)
    have hi : (1 + fc) * z ≤ 6 * 12 := Int.mul_le_mul (by omega) z2 (by omega) (by decide)
    exact q _ _ ((1 + fc) * z) ts ((D7.same s8).same s9) ((b6.trans (But.of s7)).trans (b7.trans (But.of (s8.trans s9)))) ⟨pq, pt, rfl, upd_same, s9 _ _ h8⟩ ⟨by omega, by omega, by omega, by omega, sts⟩
end
end Ft

set_option exponentiation.threshold 9000
namespace Ft
open PySem L2
section
variable {P : Program} {w : World} {K : PySem.W.Frag} {mg : Str → Option Value} {base : Heap}
theorem ok_lspread (D : Df K mg "_law_spread" s__law_spread ["_law_one", "_law_d"]) (B : Bi mg) (c__law_reduced : Cal P w K mg base 1 "_law_reduced" sp_lowered) : Cal P w K mg base 2 "_law_spread" (sp_deed sprL fun d => 1 ≤ d ∧ d < 2 ^ 8000) := by
  obtain ⟨f, fd, F, m, b⟩ := D.ex
  have sc := sc__law_spread
  refine ⟨f, fd, _, F.ok sc (fun _ _ _ _ ⟨_, _, _, _, e, _⟩ => by rw [e]; rfl) (fun cdv A outer s H vs Q E hr h => ?_), m, F.kp, b⟩
  obtain ⟨v, b, ts, d, rfl, hv, hb, hbs, ⟨d1, d2⟩, q⟩ := h
  refine ⟨_, (pss_one (ps_ret (pe_c c__law_reduced hr (by decide) (by rfl) (pa_cons (pe_ix (show IxR _ (rIx K) from ix_seq) (pv 0) pe_int (fun _ _ => rfl)) (pa_cons (pe_lc (own := [("_law_n", 2)]) (g := gName 2) (tt := tYes) (by rfl) sc.nd (pi_range1 rfl B.range (pa_cons (pe_callB call_len_seq (by rfl) B.len_ (by decide +kernel) (pa_cons (pe_ix (show IxR _ (rIx K) from ix_seq) (pv 0) pe_int (fun _ _ => rfl)) pa_nil)) pa_nil)) (blkOk_by (own := [("_law_n", 2)]) (N := N__law_spread) (sc := defScope s__law_spread) (by decide +kernel)) (fun _ _ _ _ _ => (pg_name (i := 2) sc.nd rfl (Or.inl rfl))) (fun _ _ _ _ _ => pts_nil) (fun _ _ _ _ _ => (pe_ifExp (pt_cmpR op_eq (pe_op op_mod (pe_callTy call_int1 (by rfl) B.int_ (by decide +kernel) (pa_cons (pv 2) pa_nil)) (pv 1)) pe_int (nomark _)) (pe_ix (show IxR _ (rIx K) from ix_seq) (pe_ix (show IxR _ (rIx K) from ix_seq) (pv 0) pe_int (fun _ _ => rfl)) (pe_op op_fdivW (pv 2) (pv 1)) (fun _ _ => rfl)) pe_int))) pa_nil))))), ?_⟩
  have l1 := hb.2.1
  have l2 := hb.2.2
  have b1 := hb.1
  have ll : (ts.map V.int).length = ts.length := List.length_map ..
  obtain ⟨p, r, rfl, hp, hrt⟩ := hv
  have a0 : ∀ {a c : V}, atI [a, c] 0 = some a := fun {a c} => atI_nat (j := 0) rfl
  have a1 : ∀ {a c : V}, atI [a, c] 1 = some c := fun {a c} => atI_nat (j := 1) rfl
  have dp : (0 : Int) < (d : Int) := by omega
  refine ⟨_, rfl, .inr (.inl ⟨p, _, 0, _, rfl, rfl, SqT.of hp, a0, ?_⟩)⟩
  refine ⟨_, rfl, .inr (.inl ⟨p, _, 1, _, rfl, rfl, SqT.of hp, a1, r, _, rfl, .inr (SqT.of hrt), _, rfl, (by rw [ll]; omega), (by rw [ll]; omega), fun D1 hD1 => ?_⟩)⟩
  refine lc_range (lo := 0) (n := (((ts.map V.int).length : Nat) : Int).toNat) (fun i H' => Same H H' ∧ H' D1 = some (.lst ((List.range i).map fun n => V.int (if n % d = 0 then ts.getD (n / d) 0 else 0)))) ⟨Same.upd_new hD1, upd_same⟩ ?_ ?_
  · rintro i H2 hi ⟨s2, h2⟩
    rw [Int.toNat_natCast, ll] at hi
    refine ⟨rfl, ?_⟩
    have fin : ∀ y : Int, y = (if i % d = 0 then ts.getD (i / d) 0 else 0) → ∃ acc, H2 D1 = some (HO.lst acc) ∧ acc.length < sizeLine ∧ Same H (upd H2 D1 (.lst (acc ++ [V.int y]))) ∧ (upd H2 D1 (.lst (acc ++ [V.int y]))) D1 = some (.lst ((List.range (i + 1)).map fun n => V.int (if n % d = 0 then ts.getD (n / d) 0 else 0))) := by
      rintro y rfl
      refine ⟨_, h2, ?_, fun b o e => ?_, ?_⟩
      · rw [List.length_map, List.length_range]
        exact Nat.lt_of_le_of_lt (by omega : i ≤ 400) (by decide)
      · rw [upd_ne (ne_of_none e hD1)]
        exact s2 _ _ e
      · rw [upd_same, List.range_succ, List.map_append]
        rfl
    refine ⟨_, rfl, .inl ⟨_, rfl, _, rfl, _, _, rfl, rfl, dp, rfl, _, rfl, ifI (fun e => ?_) fun e => ?_⟩⟩
    · rw [Int.zero_add] at e
      have e' : i % d = 0 := Int.ofNat.inj e
      have hq : i / d < ts.length := Nat.lt_of_le_of_lt (Nat.div_le_self _ _) hi
      have ha : atI (ts.map V.int) ((0 + (i : Int)) / (d : Int)) = some (V.int (ts.getD (i / d) 0)) := by
        rw [Int.zero_add]
        exact atI_nat (j := i / d) (getD_at hq)
      refine ⟨_, rfl, .inr (.inl ⟨p, _, 1, _, rfl, rfl, SqT.of (s2 _ _ hp), a1, ?_⟩)⟩
      refine ⟨_, rfl, _, rfl, _, _, rfl, rfl, wide_div (b := 8000) dp d2 (by decide) (by decide), .inr (.inl ⟨r, _, _, _, rfl, rfl, SqT.of (s2 _ _ hrt), ha, ?_⟩)⟩
      exact fin _ (by rw [if_pos e'])
    · rw [Int.zero_add] at e
      have e' : ¬ i % d = 0 := fun z => e (congrArg Int.ofNat z)
      exact fin 0 (by rw [if_neg e'])
  · rintro H2 ⟨s2, h2⟩
    rw [Int.toNat_natCast, ll] at h2
    refine ⟨b, D1, sprL ts d, rfl, ?_, by omega, hbs, ?_, fun H3 u s3 hu => q _ _ (s2.trans s3) hu⟩
    · rw [h2]
      unfold sprL
      rw [List.map_map]
      rfl
    · unfold sprL
      rw [List.length_map, List.length_range]
      omega
theorem ok_levery (D : Df K mg "_law_every" s__law_every ["_law_one", "_law_d"]) (B : Bi mg) (c__law_reduced : Cal P w K mg base 1 "_law_reduced" sp_lowered) : Cal P w K mg base 2 "_law_every" (sp_deed eveL fun d => 1 ≤ d) := by
  obtain ⟨f, fd, F, m, b⟩ := D.ex
  have sc := sc__law_every
  refine ⟨f, fd, _, F.ok sc (fun _ _ _ _ ⟨_, _, _, _, e, _⟩ => by rw [e]; rfl) (fun cdv A outer s H vs Q E hr h => ?_), m, F.kp, b⟩
  obtain ⟨v, b, ts, d, rfl, hv, hb, hbs, d1, q⟩ := h
  refine ⟨_, (pss_one (ps_ret (pe_c c__law_reduced hr (by decide) (by rfl) (pa_cons (pe_ix (show IxR _ (rIx K) from ix_seq) (pv 0) pe_int (fun _ _ => rfl)) (pa_cons (pe_lc (own := [("_law_n", 2), ("_law_x", 3)]) (g := gTup K 2 (gCons (gName 2) (gCons (gName 3) gNil)))  (by rfl) sc.nd (pi_enumT (by rfl) B.enumerate (pa_cons (pe_ix (show IxR _ (rIx K) from ix_seq) (pv 0) pe_int (fun _ _ => rfl)) pa_nil)) (blkOk_by (own := [("_law_n", 2), ("_law_x", 3)]) (N := N__law_every) (sc := defScope s__law_every) (by decide +kernel)) (fun _ _ _ _ _ => (pg_tup rfl (pgs_cons (pg_name (i := 2) sc.nd rfl (Or.inl rfl) (Or.inr rfl)) (pgs_cons (pg_name (i := 3) sc.nd rfl (Or.inl rfl) (Or.inr rfl)) pgs_nil)))) (fun _ _ _ _ _ => (pts_one (pt_cmpR op_eq (pe_op op_mod (pe_callTy call_int1 (by rfl) B.int_ (by decide +kernel) (pa_cons (pv 2) pa_nil)) (pv 1)) pe_int (nomark _)))) (fun _ _ _ _ _ => (pv 3))) pa_nil))))), ?_⟩
  have l1 := hb.2.1
  have l2 := hb.2.2
  have b1 := hb.1
  have ll : (ts.map V.int).length = ts.length := List.length_map ..
  obtain ⟨p, r, rfl, hp, hrt⟩ := hv
  have a0 : ∀ {a c : V}, atI [a, c] 0 = some a := fun {a c} => atI_nat (j := 0) rfl
  have a1 : ∀ {a c : V}, atI [a, c] 1 = some c := fun {a c} => atI_nat (j := 1) rfl
  have dp : (0 : Int) < (d : Int) := by omega
  refine ⟨_, rfl, .inr (.inl ⟨p, _, 0, _, rfl, rfl, SqT.of hp, a0, ?_⟩)⟩
  refine ⟨_, rfl, .inr (.inl ⟨p, _, 1, _, rfl, rfl, SqT.of hp, a1, r, _, rfl, SqT.of hrt, fun D1 hD1 => ?_⟩)⟩
  refine lc_it (walk_enumT (xs := ts.map V.int)) (fun i H' => Same H H' ∧ H' D1 = some (.lst (((List.range i).filter fun n => decide (n % d = 0)).map fun n => V.int (ts.getD n 0)))) ⟨Same.upd_new hD1, upd_same⟩ (fun i H' _ ⟨s2, _⟩ => SqT.of (s2 _ _ hrt)) ?_ ?_
  · rintro i x H2 H3 hi ⟨s2, h2⟩ ⟨T, u, y, rfl, hT, rfl, hu, hy⟩
    rw [ll] at hi
    obtain rfl : u = V.int (i : Nat) := (Option.some.inj hu).symm
    obtain rfl : y = V.int (ts.getD i 0) := Option.some.inj (hy.symm.trans (getD_at hi))
    have s3 : Same H2 (upd H2 T (.tup [V.int (i : Nat), V.int (ts.getD i 0)])) := Same.upd_new hT
    refine ⟨T, _, rfl, SqT.of upd_same, rfl, ?_⟩
    refine ⟨_, _, rfl, _, _, rfl, rfl, rfl, ?_⟩
    refine ⟨_, rfl, .inl ⟨_, rfl, _, rfl, _, _, rfl, rfl, dp, rfl, _, rfl, ifI (fun e => ?_) fun e => ?_⟩⟩
    · have e' : i % d = 0 := Int.ofNat.inj e
      refine ⟨_, rfl, _, s3 _ _ h2, ?_, fun b o e => ?_, ?_⟩
      · rw [List.length_map]
        exact Nat.lt_of_le_of_lt (Nat.le_trans (filter_len _ _) (by omega : i ≤ 400)) (by decide)
      · rw [upd_ne (ne_of_none e hD1)]
        exact s3 _ _ (s2 _ _ e)
      · rw [upd_same, filter_succ, if_pos (decide_eq_true e'), List.map_append]
        rfl
    · have e' : ¬ i % d = 0 := fun z => e (congrArg Int.ofNat z)
      refine ⟨s2.trans s3, ?_⟩
      rw [s3 _ _ h2, filter_succ, if_neg (by rw [decide_eq_false e']; decide), List.append_nil]
  · rintro H2 ⟨s2, h2⟩
    rw [ll] at h2
    refine ⟨b, D1, eveL ts d, rfl, ?_, by omega, hbs, ?_, fun H3 u s3 hu => q _ _ (s2.trans s3) hu⟩
    · rw [h2]
      unfold eveL
      rw [List.map_map]
      rfl
    · unfold eveL
      rw [List.length_map]
      exact Nat.le_trans (filter_len _ _) (by omega)
theorem lawVals_len {s : Int} {many : Nat} (h : 1 ≤ many) : (lawVals s many).length = many := by
  unfold lawVals
  rw [List.length_take, valsTo_len]
  omega
theorem lawVals_one (s : Int) (many : Nat) : ∀ x ∈ lawVals s many, x.natAbs ≤ 1 := fun x hx => valsTo_one s _ x (List.mem_of_mem_take hx)
def sp_ltwist : Sp := fun vs H Q _ => ∃ v b ts s, vs = [v, .int s] ∧ Bg H v b ts ∧ BgOk b ts ∧ b.natAbs < 2 ^ 8000 ∧ (∀ n, n < ts.length → (lawVals s ts.length).getD n 0 = valueAt s (n : Int)) ∧ ∀ H' u, Same H H' → Bg H' u (lowB b (twL ts s)) (lowT b (twL ts s)) → Q u H'
theorem ok_ltwisted (D : Df K mg "_law_twisted" s__law_twisted ["_law_one", "_law_sign_here"]) (B : Bi mg) (c__law_reduced : Cal P w K mg base 1 "_law_reduced" sp_lowered) (c__law_values : Cal P w K mg base 2 "_law_values" sp_vals) : Cal P w K mg base 3 "_law_twisted" sp_ltwist := by
  obtain ⟨f, fd, F, m, b⟩ := D.ex
  have sc := sc__law_twisted
  refine ⟨f, fd, _, F.ok sc (fun _ _ _ _ ⟨_, _, _, _, e, _⟩ => by rw [e]; rfl) (fun cdv A outer s H vs Q E hr h => ?_), m, F.kp, b⟩
  obtain ⟨v, b, ts, z, rfl, hv, hb, hbs, hval, q⟩ := h
  refine ⟨_, (pss_one (ps_ret (pe_c c__law_reduced hr (by decide) (by rfl) (pa_cons (pe_ix (show IxR _ (rIx K) from ix_seq) (pv 0) pe_int (fun _ _ => rfl)) (pa_cons (pe_lc (own := [("_law_x", 2), ("_law_value", 3)]) (g := gTup K 2 (gCons (gName 2) (gCons (gName 3) gNil))) (tt := tYes) (by rfl) sc.nd (pi_zipM (by rfl) B.zip (pa_cons (pe_ix (show IxR _ (rIx K) from ix_seq) (pv 0) pe_int (fun _ _ => rfl)) (pa_cons (pe_c c__law_values hr (by decide) (by rfl) (pa_cons (pv 1) (pa_cons (pe_callB call_len_seq (by rfl) B.len_ (by decide +kernel) (pa_cons (pe_ix (show IxR _ (rIx K) from ix_seq) (pv 0) pe_int (fun _ _ => rfl)) pa_nil)) pa_nil))) pa_nil))) (blkOk_by (own := [("_law_x", 2), ("_law_value", 3)]) (N := N__law_twisted) (sc := defScope s__law_twisted) (by decide +kernel)) (fun _ _ _ _ _ => (pg_tup rfl (pgs_cons (pg_name (i := 2) sc.nd rfl (Or.inl rfl) (Or.inr rfl)) (pgs_cons (pg_name (i := 3) sc.nd rfl (Or.inl rfl) (Or.inr rfl)) pgs_nil)))) (fun _ _ _ _ _ => pts_nil) (fun _ _ _ _ _ => (pe_op op_mul (pv 2) (pv 3)))) pa_nil))))), ?_⟩
  have l1 := hb.2.1
  have l2 := hb.2.2
  have b1 := hb.1
  have ll : (ts.map V.int).length = ts.length := List.length_map ..
  obtain ⟨p, r, rfl, hp, hrt⟩ := hv
  have a0 : ∀ {a c : V}, atI [a, c] 0 = some a := fun {a c} => atI_nat (j := 0) rfl
  have a1 : ∀ {a c : V}, atI [a, c] 1 = some c := fun {a c} => atI_nat (j := 1) rfl
  refine ⟨_, rfl, .inr (.inl ⟨p, _, 0, _, rfl, rfl, SqT.of hp, a0, ?_⟩)⟩
  refine ⟨_, rfl, .inr (.inl ⟨p, _, 1, _, rfl, rfl, SqT.of hp, a1, ?_⟩)⟩
  refine ⟨_, rfl, _, rfl, .inr (.inl ⟨p, _, 1, _, rfl, rfl, SqT.of hp, a1, r, _, rfl, .inr (SqT.of hrt), z, ts.length, ?_, l2, fun H1 pv s1 _ hpv => ?_⟩)⟩
  · show [V.int z, V.int (((ts.map V.int).length : Nat) : Int)] = _
    rw [ll]
  have lv : ((lawVals z ts.length).map V.int).length = ts.length := by rw [List.length_map, lawVals_len l1]
  refine ⟨r, pv, _, _, rfl, SqT.of (s1 _ _ hrt), SqL.of hpv, fun D1 hD1 => ?_⟩
  refine lc_it (walk_zipM (xs := ts.map V.int) (ys := (lawVals z ts.length).map V.int) (n := ts.length) (by rw [ll, lv, Nat.min_self])) (fun i H' => Same H1 H' ∧ H' D1 = some (.lst ((List.range i).map fun n : Nat => V.int (valueAt z (n : Int) * ts.getD n 0)))) ⟨Same.upd_new hD1, upd_same⟩ (fun i H' _ ⟨s2, _⟩ => ⟨SqT.of (s2 _ _ (s1 _ _ hrt)), SqL.of (s2 _ _ hpv)⟩) ?_ ?_
  · rintro i x H2 H3 hi ⟨s2, h2⟩ ⟨T, u, y, rfl, hT, rfl, hu, hy⟩
    obtain rfl : u = V.int (ts.getD i 0) := Option.some.inj (hu.symm.trans (getD_at hi))
    obtain rfl : y = V.int ((lawVals z ts.length).getD i 0) := Option.some.inj (hy.symm.trans (getD_at (by rw [lawVals_len l1]; exact hi)))
    have s3 : Same H2 (upd H2 T (.tup [V.int (ts.getD i 0), V.int ((lawVals z ts.length).getD i 0)])) := Same.upd_new hT
    have v1 := getD_one (lawVals_one z ts.length) i
    refine ⟨T, _, rfl, SqT.of upd_same, rfl, ?_⟩
    refine ⟨_, _, rfl, _, _, rfl, rfl, rfl, ?_⟩
    refine ⟨_, rfl, _, rfl, _, _, rfl, rfl, .inr ⟨by omega, by omega⟩, _, s3 _ _ h2, ?_, fun b o e => ?_, ?_⟩
    · rw [List.length_map, List.length_range]
      exact Nat.lt_of_le_of_lt (by omega : i ≤ 400) (by decide)
    · rw [upd_ne (ne_of_none e hD1)]
      exact s3 _ _ (s2 _ _ e)
    · rw [upd_same, List.range_succ, List.map_append]
      show some (HO.lst (_ ++ [V.int (ts.getD i 0 * (lawVals z ts.length).getD i 0)])) = _
      rw [hval i hi, Int.mul_comm]
      rfl
  · rintro H2 ⟨s2, h2⟩
    refine ⟨b, D1, twL ts z, rfl, ?_, by omega, hbs, ?_, fun H3 u s3 hu => q _ _ (s1.trans (s2.trans s3)) hu⟩
    · rw [h2]
      unfold twL
      rw [List.map_map]
      rfl
    · unfold twL
      rw [List.length_map, List.length_range]
      omega
end
end Ft

namespace Ft
open PySem L2
/-! ### lowest terms of rows -/
theorem gcdL_mul (c : Nat) : ∀ (ts : List Int) (g : Nat), gcdL (c * g) (ts.map fun t => (c : Int) * t) = c * gcdL g ts
  | [], g => rfl
  | t :: ts, g => by
    show gcdL (Nat.gcd (c * g) ((c : Int) * t).natAbs) (ts.map fun t => (c : Int) * t) = c * gcdL (Nat.gcd g t.natAbs) ts
    rw [Int.natAbs_mul, Int.natAbs_natCast, Nat.gcd_mul_left]
    exact gcdL_mul c ts _
theorem gcdL_mem : ∀ (ts : List Int) (g : Nat) (t : Int), t ∈ ts → gcdL g ts ∣ t.natAbs
  | u :: ts, g, t, h => by
    show gcdL (Nat.gcd g u.natAbs) ts ∣ t.natAbs
    rcases List.mem_cons.mp h with rfl | h
    · exact Nat.dvd_trans (gcdL_dvd ts _) (Nat.gcd_dvd_right _ _)
    · exact gcdL_mem ts _ t h
theorem low_mul {c : Nat} (hc : 0 < c) {b : Int} (hb : 0 < b) (ts : List Int) : lowB ((c : Int) * b) (ts.map fun t => (c : Int) * t) = lowB b ts ∧ lowT ((c : Int) * b) (ts.map fun t => (c : Int) * t) = lowT b ts := by
  have e : gcdL ((c : Int) * b).natAbs (ts.map fun t => (c : Int) * t) = c * gcdL b.natAbs ts := by
    rw [Int.natAbs_mul, Int.natAbs_natCast]
    exact gcdL_mul c ts _
  have c0 : (0 : Int) < (c : Int) := by omega
  unfold lowB lowT
  rw [e, Int.natCast_mul]
  refine ⟨Int.mul_ediv_mul_of_pos _ _ c0, ?_⟩
  rw [List.map_map]
  exact List.map_congr_left fun t _ => Int.mul_ediv_mul_of_pos _ _ c0
theorem gcdL_pos {b : Int} (hb : 0 < b) (ts : List Int) : 0 < gcdL b.natAbs ts := Nat.pos_of_dvd_of_pos (gcdL_dvd ts _) (by omega)
theorem mul_lowB {b : Int} (ts : List Int) : ((gcdL b.natAbs ts : Nat) : Int) * lowB b ts = b :=
  Int.mul_ediv_cancel' (Int.dvd_natAbs.mp (Int.natCast_dvd_natCast.mpr (gcdL_dvd ts _)))
theorem mul_lowT {b : Int} (ts : List Int) : (lowT b ts).map (fun t => ((gcdL b.natAbs ts : Nat) : Int) * t) = ts := by
  unfold lowT
  rw [List.map_map]
  conv => rhs; rw [← List.map_id ts]
  exact List.map_congr_left fun t ht => Int.mul_ediv_cancel' (Int.dvd_natAbs.mp (Int.natCast_dvd_natCast.mpr (gcdL_mem ts _ t ht)))
theorem lowB_pos {b : Int} (hb : 0 < b) (ts : List Int) : 0 < lowB b ts := by
  have h1 := mul_lowB (b := b) ts
  have h2 := gcdL_pos hb ts
  rcases Int.lt_trichotomy (lowB b ts) 0 with h | h | h
  · have := Int.mul_neg_of_pos_of_neg (a := ((gcdL b.natAbs ts : Nat) : Int)) (b := lowB b ts) (by omega) h
    omega
  · rw [h, Int.mul_zero] at h1
    omega
  · exact h
theorem lowB_le {b : Int} (hb : 0 < b) (ts : List Int) : lowB b ts ≤ b := Int.ediv_le_self _ (by omega)
/-- a deed on rows that keeps multiples -/
def Lin (F : List Int → List Int) : Prop := ∀ (c : Int) (ts : List Int), F (ts.map fun t => c * t) = (F ts).map fun t => c * t
theorem low_lin {F : List Int → List Int} (hF : Lin F) {b : Int} (hb : 0 < b) (ts : List Int) : lowB (lowB b ts) (F (lowT b ts)) = lowB b (F ts) ∧ lowT (lowB b ts) (F (lowT b ts)) = lowT b (F ts) := by
  have h := low_mul (gcdL_pos hb ts) (lowB_pos hb ts) (F (lowT b ts))
  rw [mul_lowB, ← hF, mul_lowT] at h
  exact ⟨h.1.symm, h.2.symm⟩
theorem getD_mul (c : Int) (ts : List Int) (i : Nat) : (ts.map fun t => c * t).getD i 0 = c * ts.getD i 0 := by
  rw [List.getD_eq_getElem?_getD, List.getD_eq_getElem?_getD, List.getElem?_map]
  cases ts[i]? with
  | none => exact (Int.mul_zero c).symm
  | some x => rfl
theorem lin_spr (d : Nat) : Lin fun ts => sprL ts d := fun c ts => by
  show (List.range (ts.map _).length).map _ = _
  unfold sprL
  rw [List.length_map, List.map_map]
  refine List.map_congr_left fun n _ => ?_
  show (if n % d = 0 then (ts.map fun t => c * t).getD (n / d) 0 else 0) = c * (if n % d = 0 then ts.getD (n / d) 0 else 0)
  rw [getD_mul]
  split
  · rfl
  · exact (Int.mul_zero c).symm
theorem lin_eve (d : Nat) : Lin fun ts => eveL ts d := fun c ts => by
  show ((List.range (ts.map _).length).filter _).map _ = _
  unfold eveL
  rw [List.length_map, List.map_map]
  exact List.map_congr_left fun n _ => getD_mul c ts n
theorem lin_tw (s : Int) : Lin fun ts => twL ts s := fun c ts => by
  show (List.range (ts.map _).length).map _ = _
  unfold twL
  rw [List.length_map, List.map_map]
  refine List.map_congr_left fun n _ => ?_
  show valueAt s (n : Int) * (ts.map fun t => c * t).getD n 0 = c * (valueAt s (n : Int) * ts.getD n 0)
  rw [getD_mul, Int.mul_left_comm]
/-! ### deeds one behind the other -/
theorem getD_range (g : Nat → Int) (m i : Nat) : ((List.range m).map g).getD i 0 = if i < m then g i else 0 := by
  rw [List.getD_eq_getElem?_getD, List.getElem?_map]
  by_cases h : i < m
  · rw [List.getElem?_range h, if_pos h]; rfl
  · rw [List.getElem?_eq_none (by rw [List.length_range]; omega), if_neg h]; rfl
theorem spr_spr {d e : Nat} (hd : 0 < d) (he : 0 < e) (ts : List Int) : sprL (sprL ts d) e = sprL ts (d * e) := by
  have l : (sprL ts d).length = ts.length := by unfold sprL; rw [List.length_map, List.length_range]
  unfold sprL at l ⊢
  rw [l]
  refine List.map_congr_left fun n hn => ?_
  have hn := List.mem_range.mp hn
  rw [getD_range]
  have h1 : n / e < ts.length := Nat.lt_of_le_of_lt (Nat.div_le_self _ _) hn
  rw [if_pos h1, Nat.div_div_eq_div_mul, Nat.mul_comm e d]
  by_cases a : n % e = 0
  · rw [if_pos a]
    have en : e * (n / e) = n := Nat.mul_div_cancel' (Nat.dvd_of_mod_eq_zero a)
    by_cases c : n / e % d = 0
    · have : n % (d * e) = 0 := by
        refine Nat.mod_eq_zero_of_dvd ?_
        rw [Nat.mul_comm d e, ← en]
        exact Nat.mul_dvd_mul_left e (Nat.dvd_of_mod_eq_zero c)
      rw [if_pos c, if_pos this]
    · have : ¬ n % (d * e) = 0 := fun z => by
        refine c (Nat.mod_eq_zero_of_dvd ?_)
        have := Nat.dvd_of_mod_eq_zero z
        rw [Nat.mul_comm d e, ← en] at this
        exact Nat.dvd_of_mul_dvd_mul_left he this
      rw [if_neg c, if_neg this]
  · have : ¬ n % (d * e) = 0 := fun z => a (Nat.mod_eq_zero_of_dvd (Nat.dvd_trans (Nat.dvd_mul_left e d) (Nat.dvd_of_mod_eq_zero z)))
    rw [if_neg a, if_neg this]
theorem tw_tw (s t : Int) (ts : List Int) : twL (twL ts s) t = twL (twL ts t) s := by
  have l : ∀ u, (twL ts u).length = ts.length := fun u => by unfold twL; rw [List.length_map, List.length_range]
  unfold twL at l ⊢
  rw [l, l]
  refine List.map_congr_left fun n hn => ?_
  rw [getD_range, getD_range, if_pos (List.mem_range.mp hn), if_pos (List.mem_range.mp hn), Int.mul_left_comm]
end Ft

namespace Ft
open PySem L2
theorem step_div (a : Nat) {d : Nat} (hd : 0 < d) : ((a + 1) % d = 0 ∧ (a + 1) / d = a / d + 1) ∨ ((a + 1) % d ≠ 0 ∧ (a + 1) / d = a / d) := by
  have e := Nat.div_add_mod a d
  have lt := Nat.mod_lt a hd
  rcases Nat.lt_or_ge (a % d + 1) d with h | h
  · have e2 : a + 1 = d * (a / d) + (a % d + 1) := by omega
    refine .inr ⟨?_, ?_⟩
    · have : (a + 1) % d = a % d + 1 := by
        conv => lhs; rw [e2]
        rw [Nat.mul_add_mod, Nat.mod_eq_of_lt h]
      omega
    · conv => lhs; rw [e2]
      rw [Nat.mul_add_div hd, Nat.div_eq_of_lt h, Nat.add_zero]
  · have e2 : a + 1 = d * (a / d + 1) := by rw [Nat.mul_add, Nat.mul_one]; omega
    refine .inl ⟨?_, ?_⟩
    · rw [e2, Nat.mul_mod_right]
    · conv => lhs; rw [e2]
      rw [Nat.mul_div_cancel_left _ hd]
theorem filt {d : Nat} (hd : 0 < d) : ∀ a : Nat, (List.range (a + 1)).filter (fun n => decide (n % d = 0)) = (List.range (a / d + 1)).map fun k => k * d
  | 0 => by
    rw [Nat.zero_div]
    show (List.range 1).filter _ = _
    rw [filter_succ, if_pos (decide_eq_true (Nat.zero_mod d))]
    show [0] = [0 * d]
    rw [Nat.zero_mul]
  | a + 1 => by
    rw [filter_succ, filt hd a]
    rcases step_div a hd with ⟨h1, h2⟩ | ⟨h1, h2⟩
    · rw [if_pos (decide_eq_true h1), h2, List.range_succ (n := a / d + 1), List.map_append]
      have : (a / d + 1) * d = a + 1 := by rw [← h2]; exact Nat.div_mul_cancel (Nat.dvd_of_mod_eq_zero h1)
      show _ ++ [a + 1] = _ ++ [(a / d + 1) * d]
      rw [this]
    · rw [if_neg (by rw [decide_eq_false h1]; decide), h2, List.append_nil]
theorem eve_at {d : Nat} (hd : 0 < d) {ts : List Int} (h : 1 ≤ ts.length) : eveL ts d = (List.range ((ts.length - 1) / d + 1)).map fun k => ts.getD (k * d) 0 := by
  unfold eveL
  have e : ts.length = (ts.length - 1) + 1 := by omega
  rw [e, filt hd, List.map_map, Nat.add_sub_cancel]
  rfl
theorem eve_len {d : Nat} (hd : 0 < d) {ts : List Int} (h : 1 ≤ ts.length) : (eveL ts d).length = (ts.length - 1) / d + 1 := by rw [eve_at hd h, List.length_map, List.length_range]
theorem eve_eve {d e : Nat} (hd : 0 < d) (he : 0 < e) {ts : List Int} (h : 1 ≤ ts.length) : eveL (eveL ts e) d = eveL ts (d * e) := by
  have l := eve_len he h
  rw [eve_at hd (ts := eveL ts e) (by rw [l]; exact Nat.le_add_left 1 _), eve_at (Nat.mul_pos hd he) h, l, Nat.add_sub_cancel, Nat.div_div_eq_div_mul, Nat.mul_comm d e]
  refine List.map_congr_left fun k hk => ?_
  have hk := List.mem_range.mp hk
  have kd : k * d < (ts.length - 1) / e + 1 := by
    have h1 : k ≤ (ts.length - 1) / e / d := by rw [Nat.div_div_eq_div_mul]; omega
    have h2 := Nat.le_trans (Nat.mul_le_mul_right d h1) (Nat.div_mul_le_self _ _)
    omega
  rw [eve_at he h, getD_range, if_pos kd, Nat.mul_assoc, Nat.mul_comm d e]
/-- a row spread by d and cut by d is its own front -/
theorem eve_spr {d : Nat} (hd : 0 < d) {ts : List Int} (h : 1 ≤ ts.length) : eveL (sprL ts d) d = ts.take ((ts.length - 1) / d + 1) := by
  have l : (sprL ts d).length = ts.length := by unfold sprL; rw [List.length_map, List.length_range]
  rw [eve_at hd (ts := sprL ts d) (by omega), l]
  refine List.ext_getElem? fun i => ?_
  by_cases hi : i < (ts.length - 1) / d + 1
  · have ib : i ≤ (ts.length - 1) / d := by omega
    have it : i * d ≤ ts.length - 1 := Nat.le_trans (Nat.mul_le_mul_right d ib) (Nat.div_mul_le_self _ _)
    have il : i < ts.length := Nat.lt_of_le_of_lt (Nat.le_trans ib (Nat.div_le_self _ _)) (by omega)
    rw [List.getElem?_map, List.getElem?_range hi, List.getElem?_take, if_pos hi, List.getElem?_eq_getElem il]
    show some ((sprL ts d).getD (i * d) 0) = _
    unfold sprL
    rw [getD_range, if_pos (by omega : i * d < ts.length), Nat.mul_mod_left, if_pos rfl, Nat.mul_div_cancel _ hd, List.getD_eq_getElem?_getD, List.getElem?_eq_getElem il]
    rfl
  · rw [List.getElem?_eq_none (by rw [List.length_map, List.length_range]; omega), List.getElem?_eq_none (by rw [List.length_take]; omega)]
end Ft

namespace Ft
open PySem L2
def sameL : List Int → List Int → Bool
  | [], [] => true
  | a :: as, b :: bs => cond (decide (a = b)) (sameL as bs) false
  | _, _ => false
theorem sameL_eq : ∀ {as bs : List Int}, sameL as bs = true → as = bs
  | [], [], _ => rfl
  | [], _ :: _, h => by cases h
  | _ :: _, [], h => by cases h
  | a :: as, b :: bs, h => by
    unfold sameL at h
    cases c : decide (a = b) with
    | false => rw [c] at h; cases h
    | true =>
      rw [c] at h
      rw [of_decide_eq_true c, sameL_eq h]
def okVS (z : Int) : Bool := cond (isSign z) (sameL (valsTo z 118) ((List.range 120).map fun n : Nat => valueAt z (n : Int))) true
theorem vs_0 : (List.range 40).all (fun i => okVS (((i + 0 : Nat) : Int) - 400)) = true := by decide +kernel
theorem vs_40 : (List.range 40).all (fun i => okVS (((i + 40 : Nat) : Int) - 400)) = true := by decide +kernel
theorem vs_80 : (List.range 40).all (fun i => okVS (((i + 80 : Nat) : Int) - 400)) = true := by decide +kernel
theorem vs_120 : (List.range 40).all (fun i => okVS (((i + 120 : Nat) : Int) - 400)) = true := by decide +kernel
theorem vs_160 : (List.range 40).all (fun i => okVS (((i + 160 : Nat) : Int) - 400)) = true := by decide +kernel
theorem vs_200 : (List.range 40).all (fun i => okVS (((i + 200 : Nat) : Int) - 400)) = true := by decide +kernel
theorem vs_240 : (List.range 40).all (fun i => okVS (((i + 240 : Nat) : Int) - 400)) = true := by decide +kernel
theorem vs_280 : (List.range 40).all (fun i => okVS (((i + 280 : Nat) : Int) - 400)) = true := by decide +kernel
theorem vs_320 : (List.range 40).all (fun i => okVS (((i + 320 : Nat) : Int) - 400)) = true := by decide +kernel
theorem vs_360 : (List.range 40).all (fun i => okVS (((i + 360 : Nat) : Int) - 400)) = true := by decide +kernel
theorem vs_400 : (List.range 40).all (fun i => okVS (((i + 400 : Nat) : Int) - 400)) = true := by decide +kernel
theorem vs_440 : (List.range 40).all (fun i => okVS (((i + 440 : Nat) : Int) - 400)) = true := by decide +kernel
theorem vs_480 : (List.range 40).all (fun i => okVS (((i + 480 : Nat) : Int) - 400)) = true := by decide +kernel
theorem vs_520 : (List.range 40).all (fun i => okVS (((i + 520 : Nat) : Int) - 400)) = true := by decide +kernel
theorem vs_560 : (List.range 40).all (fun i => okVS (((i + 560 : Nat) : Int) - 400)) = true := by decide +kernel
theorem vs_600 : (List.range 40).all (fun i => okVS (((i + 600 : Nat) : Int) - 400)) = true := by decide +kernel
theorem vs_640 : (List.range 40).all (fun i => okVS (((i + 640 : Nat) : Int) - 400)) = true := by decide +kernel
theorem vs_680 : (List.range 40).all (fun i => okVS (((i + 680 : Nat) : Int) - 400)) = true := by decide +kernel
theorem vs_720 : (List.range 40).all (fun i => okVS (((i + 720 : Nat) : Int) - 400)) = true := by decide +kernel
theorem vs_760 : (List.range 40).all (fun i => okVS (((i + 760 : Nat) : Int) - 400)) = true := by decide +kernel
theorem vs_800 : (List.range 40).all (fun i => okVS (((i + 800 : Nat) : Int) - 400)) = true := by decide +kernel
end Ft

namespace Ft
open PySem L2
theorem okVS_ok {z : Int} (hs : isSign z = true) (k : okVS z = true) : valsTo z 118 = (List.range 120).map fun n : Nat => valueAt z (n : Int) := by
  unfold okVS at k
  generalize valsTo z 118 = as at k ⊢
  generalize ((List.range 120).map fun n : Nat => valueAt z (n : Int)) = bs at k ⊢
  rw [hs, cond_true] at k
  exact sameL_eq k
theorem vs_all {z : Int} (hs : isSign z = true) : valsTo z 118 = (List.range 120).map fun n : Nat => valueAt z (n : Int) := by
  have hl := (isSign_le hs).1
  obtain ⟨j, hj, hj2⟩ : ∃ j : Nat, (j : Int) - 400 = z ∧ j < 801 := ⟨(z + 400).toNat, by omega, by omega⟩
  have key : okVS ((j : Int) - 400) = true := by
    have go : ∀ k : Nat, (List.range 40).all (fun i => okVS (((i + k : Nat) : Int) - 400)) = true → k ≤ j → j < k + 40 → okVS ((j : Int) - 400) = true := fun k c h1 h2 => by
      have := List.all_eq_true.mp c (j - k) (List.mem_range.mpr (by omega))
      rw [show j - k + k = j by omega] at this
      exact this
    rcases Nat.lt_or_ge j 40 with h | h
    · exact go 0 vs_0 (by omega) h
    rcases Nat.lt_or_ge j 80 with h | h
    · exact go 40 vs_40 (by omega) h
    rcases Nat.lt_or_ge j 120 with h | h
    · exact go 80 vs_80 (by omega) h
    rcases Nat.lt_or_ge j 160 with h | h
    · exact go 120 vs_120 (by omega) h
    rcases Nat.lt_or_ge j 200 with h | h
    · exact go 160 vs_160 (by omega) h
    rcases Nat.lt_or_ge j 240 with h | h
    · exact go 200 vs_200 (by omega) h
    rcases Nat.lt_or_ge j 280 with h | h
    · exact go 240 vs_240 (by omega) h
    rcases Nat.lt_or_ge j 320 with h | h
    · exact go 280 vs_280 (by omega) h
    rcases Nat.lt_or_ge j 360 with h | h
    · exact go 320 vs_320 (by omega) h
    rcases Nat.lt_or_ge j 400 with h | h
    · exact go 360 vs_360 (by omega) h
    rcases Nat.lt_or_ge j 440 with h | h
    · exact go 400 vs_400 (by omega) h
    rcases Nat.lt_or_ge j 480 with h | h
    · exact go 440 vs_440 (by omega) h
    rcases Nat.lt_or_ge j 520 with h | h
    · exact go 480 vs_480 (by omega) h
    rcases Nat.lt_or_ge j 560 with h | h
    · exact go 520 vs_520 (by omega) h
    rcases Nat.lt_or_ge j 600 with h | h
    · exact go 560 vs_560 (by omega) h
    rcases Nat.lt_or_ge j 640 with h | h
    · exact go 600 vs_600 (by omega) h
    rcases Nat.lt_or_ge j 680 with h | h
    · exact go 640 vs_640 (by omega) h
    rcases Nat.lt_or_ge j 720 with h | h
    · exact go 680 vs_680 (by omega) h
    rcases Nat.lt_or_ge j 760 with h | h
    · exact go 720 vs_720 (by omega) h
    rcases Nat.lt_or_ge j 800 with h | h
    · exact go 760 vs_760 (by omega) h
    rcases Nat.lt_or_ge j 840 with h | h
    · exact go 800 vs_800 (by omega) h
    omega
  rw [hj] at key
  exact okVS_ok hs key
theorem valsTo_get (s : Int) (n : Nat) : ∀ i k, n < 2 + i → (valsTo s (i + k)).getD n 0 = (valsTo s i).getD n 0
  | _, 0, _ => rfl
  | i, k + 1, h => by
    have l := valsTo_len s (i + k)
    show (valsTo s (i + k) ++ [_]).getD n 0 = _
    rw [List.getD_eq_getElem?_getD, List.getElem?_append_left (by omega), ← List.getD_eq_getElem?_getD]
    exact valsTo_get s n i k h
/-- the law's values of a sign are the program's, below 120 -/
theorem vals_right {z : Int} (hs : isSign z = true) {many n : Nat} (hm : many ≤ 120) (hn : n < many) : (lawVals z many).getD n 0 = valueAt z (n : Int) := by
  unfold lawVals
  rw [List.getD_eq_getElem?_getD, List.getElem?_take, if_pos hn, ← List.getD_eq_getElem?_getD, ← valsTo_get z n (many - 2) (118 - (many - 2)) (by omega), show many - 2 + (118 - (many - 2)) = 118 by omega, vs_all hs, getD_range, if_pos (by omega)]
end Ft

set_option exponentiation.threshold 9000
namespace Ft
open PySem L2
/-! ### texts of beginnings -/
theorem int_short {v : Int} (h : v.natAbs < 2 ^ 140) : (PyData.int v).leavesShort 60 = true := by
  have key : (PyData.shown (.int v)).length ≤ 60 := by
    have p : (2 : Int) ^ 140 < 10 ^ 43 := by decide
    rcases Int.lt_or_le v 0 with h0 | h0
    · obtain ⟨m, rfl⟩ : ∃ m : Nat, v = Int.negSucc m := ⟨v.natAbs - 1, by omega⟩
      have l := PyProof.Rows.toString_length_le (v := ((m + 1 : Nat) : Int)) (by omega) (k := 43) (by decide) (by omega)
      have e : toString (Int.negSucc m) = "-" ++ toString (m + 1) := rfl
      show (Str.ofString (toString (Int.negSucc m))).length ≤ 60
      rw [e, PyProof.Rows.ofString_length, String.toList_append, List.length_append]
      rw [PyProof.Rows.ofString_length] at l
      have l' : (toString (m + 1)).toList.length ≤ 43 := l
      have : "-".toList.length = 1 := by decide
      omega
    · have l := PyProof.Rows.toString_length_le h0 (k := 43) (by decide) (by omega)
      exact Nat.le_trans l (by decide)
  simpa only [PyData.leavesShort, decide_eq_true_eq] using key
theorem ints_short : ∀ {ts : List Int}, (∀ x ∈ ts, x.natAbs < 2 ^ 140) → PyData.leavesShortAll 60 (ts.map PyData.int) = true
  | [], _ => by simp only [List.map_nil, PyData.leavesShortAll]
  | t :: ts, h => by
    simp only [List.map_cons, PyData.leavesShortAll, Bool.and_eq_true]
    exact ⟨int_short (h t List.mem_cons_self), ints_short fun x hx => h x (List.mem_cons_of_mem _ hx)⟩
theorem ints_bulk : ∀ ts : List Int, PyData.bulkAll (ts.map PyData.int) = ts.length
  | [] => by simp only [List.map_nil, PyData.bulkAll, List.length_nil]
  | t :: ts => by
    simp only [List.map_cons, PyData.bulkAll, PyData.bulk, List.length_cons, ints_bulk ts]
    omega
theorem int_showable {v : Int} (h : v.natAbs < 2 ^ 140) : (PyData.int v).showable = true := by
  have := PySem.Flt.log2_lt_of (by decide) h
  simp only [PyData.showable, decide_eq_true_eq]
  omega
theorem ints_showable : ∀ {ts : List Int}, (∀ x ∈ ts, x.natAbs < 2 ^ 140) → PyData.showableAll (ts.map PyData.int) = true
  | [], _ => by simp only [List.map_nil, PyData.showableAll]
  | t :: ts, h => by
    simp only [List.map_cons, PyData.showableAll, Bool.and_eq_true]
    exact ⟨int_showable (h t List.mem_cons_self), ints_showable fun x hx => h x (List.mem_cons_of_mem _ hx)⟩
def bgD (b : Int) (ts : List Int) : PyData := .tuple [.int b, .tuple (ts.map PyData.int)]
/-- short enough to be shown -/
structure BgS (b : Int) (ts : List Int) : Prop where
  hb : b.natAbs < 2 ^ 140
  hts : ∀ x ∈ ts, x.natAbs < 2 ^ 140
  len : ts.length ≤ 1000
theorem dp_bg {K : PySem.W.Frag} {H : Hp} {v : V} {b : Int} {ts : List Int} (h : Bg H v b ts) : Dp K H v (bgD b ts) := by
  obtain ⟨p, q, rfl, h1, h2⟩ := h
  exact .tup (SqT.of h1) (.cons (.int b) (.cons (.tup (SqT.of h2) (dp_ints ts)) .nil))
/-- what repr asks of a datum -/
structure RepOk (d : PyData) : Prop where
  show_ : d.showable = true
  dict : d.hasDict = false
  depth : d.depth ≤ 64
  len : d.shown.length ≤ sizeLine
theorem bgD_depth (b : Int) (ts : List Int) : (bgD b ts).depth = 2 := by
  have e : PyData.depth (.tuple (ts.map PyData.int)) = 1 := by
    show PyData.depthAll (ts.map PyData.int) + 1 = 1
    rw [depth_ints]
  show max 0 (max (PyData.depth (.tuple (ts.map PyData.int))) 0) + 1 = 2
  rw [e]
  rfl
theorem bgD_short {b : Int} {ts : List Int} (h : BgS b ts) : (bgD b ts).leavesShort 60 = true := by
  simp only [bgD, PyData.leavesShort, PyData.leavesShortAll, Bool.and_eq_true, Bool.and_true]
  refine ⟨?_, ints_short h.hts⟩
  have := int_short h.hb
  simpa only [PyData.leavesShort] using this
theorem bgD_showable {b : Int} {ts : List Int} (h : BgS b ts) : (bgD b ts).showable = true := by
  simp only [bgD, PyData.showable, PyData.showableAll, Bool.and_eq_true, Bool.and_true]
  refine ⟨?_, ints_showable h.hts⟩
  have := int_showable h.hb
  simpa only [PyData.showable] using this
theorem ints_dict (ts : List Int) : PyData.hasDictAll (ts.map PyData.int) = false := by
  induction ts with
  | nil => simp only [List.map_nil, PyData.hasDictAll]
  | cons t ts ih => simp only [List.map_cons, PyData.hasDictAll, PyData.hasDict, ih, Bool.or_self]
theorem bgD_dict (b : Int) (ts : List Int) : (bgD b ts).hasDict = false := by
  simp only [bgD, PyData.hasDict, PyData.hasDictAll, ints_dict, Bool.or_self]
theorem bgD_bulk (b : Int) (ts : List Int) : (bgD b ts).bulk = ts.length + 2 := by
  simp only [bgD, PyData.bulk, PyData.bulkAll, ints_bulk]
  omega
theorem rep_bg {b : Int} {ts : List Int} (h : BgS b ts) : RepOk (bgD b ts) := by
  refine ⟨bgD_showable h, bgD_dict b ts, by rw [bgD_depth]; decide, ?_⟩
  have l := PyData.shown_le_bulk 60 (by decide) (bgD b ts) (bgD_short h)
  rw [bgD_bulk] at l
  have := h.len
  have e : sizeLine = 16777216 := by decide
  omega
theorem rep_4 {b1 b2 b3 b4 : Int} {t1 t2 t3 t4 : List Int} (h1 : BgS b1 t1) (h2 : BgS b2 t2) (h3 : BgS b3 t3) (h4 : BgS b4 t4) : RepOk (.tuple [bgD b1 t1, bgD b2 t2, bgD b3 t3, bgD b4 t4]) := by
  refine ⟨?_, ?_, ?_, ?_⟩
  · simp only [PyData.showable, PyData.showableAll, bgD_showable h1, bgD_showable h2, bgD_showable h3, bgD_showable h4, Bool.and_self]
  · simp only [PyData.hasDict, PyData.hasDictAll, bgD_dict, Bool.or_self]
  · show max (bgD b1 t1).depth (max (bgD b2 t2).depth (max (bgD b3 t3).depth (max (bgD b4 t4).depth 0))) + 1 ≤ 64
    simp only [bgD_depth]
    decide
  · have l := PyData.shown_le_bulk 60 (by decide) (.tuple [bgD b1 t1, bgD b2 t2, bgD b3 t3, bgD b4 t4]) (by simp only [PyData.leavesShort, PyData.leavesShortAll, bgD_short h1, bgD_short h2, bgD_short h3, bgD_short h4, Bool.and_self])
    have e : (PyData.tuple [bgD b1 t1, bgD b2 t2, bgD b3 t3, bgD b4 t4]).bulk = t1.length + t2.length + t3.length + t4.length + 12 := by
      simp only [PyData.bulk, PyData.bulkAll, bgD_bulk]
      omega
    rw [e] at l
    have k1 := h1.len
    have k2 := h2.len
    have k3 := h3.len
    have k4 := h4.len
    have z : sizeLine = 16777216 := by decide
    omega
end Ft

set_option exponentiation.threshold 9000
namespace Ft
open PySem L2
def sp_loweredT : Sp := fun vs H Q _ => ∃ (b : Int) (p : Addr) (ts : List Int), vs = [.int b, .ref p] ∧ H p = some (.tup (ts.map V.int)) ∧ 0 < b ∧ b.natAbs < 2 ^ 8000 ∧ ts.length ≤ 1000 ∧ ∀ H' v, Same H H' → Bg H' v (lowB b ts) (lowT b ts) → Q v H'
section
variable {P : Program} {w : World} {K : PySem.W.Frag} {mg : Str → Option Value} {base : Heap}
theorem ok_reducedT (D : Df K mg "_law_reduced" s__law_reduced ["_law_bottom", "_law_tops"]) (B : Bi mg)  : Cal P w K mg base 1 "_law_reduced" sp_loweredT := by
  obtain ⟨f, fd, F, m, b⟩ := D.ex
  have sc := sc__law_reduced
  refine ⟨f, fd, _, F.ok sc (fun _ _ _ _ ⟨_, _, _, e, _⟩ => by rw [e]; rfl) (fun cdv A outer s H vs Q E hr h => ?_), m, F.kp, b⟩
  obtain ⟨b, p, ts, rfl, hp, b0, b1, tl, q⟩ := h
  refine ⟨_, (pss_cons (ps_set (i := 2) sc.nd rfl (Or.inr rfl) (pv 0))
      (pss_cons (ps_for PassesOwn.never rfl (pi_tup (pv 1)) (pg_name (i := 3) sc.nd rfl (Or.inl rfl))
      (pss_cons (ps_par (i := 4) (j := 5) (by rfl) sc.nd rfl rfl (by decide) rfl rfl (pa_cons (pv 2) (pa_cons (pe_callB call_abs (by rfl) B.abs (by decide +kernel) (pa_cons (pv 3) pa_nil)) pa_nil)) (by rfl))
        (pss_cons (ps_while PassesOwn.never (pt_cmpR op_ne (pv 5) pe_int (nomark _))
        (pss_one (ps_par (i := 4) (j := 5) (by rfl) sc.nd rfl rfl (by decide) rfl rfl (pa_cons (pv 5) (pa_cons (pe_op op_mod (pe_callTy call_int1 (by rfl) B.int_ (by decide +kernel) (pa_cons (pv 4) pa_nil)) (pv 5)) pa_nil)) (by rfl))))
        (pss_one (ps_set (i := 2) sc.nd rfl (Or.inr rfl) (pv 4))))))
      (pss_one (ps_ret (pe_tup (pa_cons (pe_op op_fdivW (pv 0) (pv 2)) (pa_cons (pe_callTy call_tuple_of (by rfl) B.tuple (by decide +kernel) (pa_cons (pe_lc (own := [("_law_top", 3)]) (g := gName 3) (tt := tYes) (by rfl) sc.nd (pi_tup (pv 1)) (blkOk_by (own := [("_law_top", 3)]) (N := N__law_reduced) (sc := defScope s__law_reduced) (by decide +kernel)) (fun _ _ _ _ _ => (pg_name (i := 3) sc.nd rfl (Or.inl rfl))) (fun _ _ _ _ _ => pts_nil) (fun _ _ _ _ _ => (pe_op op_fdivW (pv 3) (pv 2)))) pa_nil)) pa_nil))))))), ?_⟩
  have eb : b = (b.natAbs : Int) := by omega
  refine ⟨_, rfl, ?_⟩
  dsimp only [gName]
  refine tSeq_join (fun σ H' => H = H' ∧ ∃ o3 o4 o5 : Option V, σ = [some (.int b), some (.ref p), some (.int ((gcdL b.natAbs ts : Nat) : Int)), o3, o4, o5]) (fun N hN => ?_) ?_
  · refine ⟨_, rfl, p, rfl, ⟨_, SqT.of hp⟩, for_it (walk_tup (xs := ts.map V.int)) (fun i σ H' => H = H' ∧ ∃ (g : Nat) (o3 o4 o5 : Option V), σ = [some (.int b), some (.ref p), some (.int (g : Int)), o3, o4, o5] ∧ gcdL g (ts.drop i) = gcdL b.natAbs ts) ⟨rfl, b.natAbs, none, none, none, by rw [← eb]; rfl, rfl⟩ (fun i σ H2 _ ⟨e, _⟩ => by rw [← e]; exact SqT.of hp) ?_ ?_⟩
    · rintro i x σ _ H' _ ⟨rfl, g, o3, o4, o5, rfl, hg⟩ ⟨e2, hi⟩
      replace e2 := e2.symm
      subst e2
      obtain ⟨z, rfl, hz⟩ := int_at hi
      rw [gcdL_drop hz] at hg
      have ea : (if z < 0 then -z else z) = (z.natAbs : Int) := by split <;> omega
      refine ⟨_, rfl, _, rfl, z, rfl, _, _, rfl, ?_⟩
      rw [ea]
      refine while_go (fun σ H' => H = H' ∧ ∃ (c e : Nat), σ = [some (.int b), some (.ref p), some (.int (g : Int)), some (.int z), some (.int (c : Nat)), some (.int (e : Nat))] ∧ Nat.gcd c e = Nat.gcd g z.natAbs) (fun σ _ => m0 5 σ) ⟨rfl, g, z.natAbs, rfl, rfl⟩ ?_
      rintro σ _ ⟨rfl, c, e, rfl, hce⟩
      refine ⟨_, rfl, rfl, _, rfl, ifNI (fun hne => ?_) fun he => ?_⟩
      · have e0 : 0 < e := by omega
        refine ⟨fun σ' H' => H = H' ∧ ∃ (c' e' : Nat), σ' = [some (.int b), some (.ref p), some (.int (g : Int)), some (.int z), some (.int (c' : Nat)), some (.int (e' : Nat))] ∧ Nat.gcd c' e' = Nat.gcd g z.natAbs ∧ e' < e, ?_, ?_⟩
        · rintro σ' _ ⟨rfl, c', e', rfl, h1, h2⟩
          exact ⟨_, (by show ((e' : Int)).toNat < ((e : Int)).toNat; omega), rfl, rfl, c', e', rfl, h1⟩
        refine ⟨_, rfl, _, rfl, .inl ⟨_, rfl, _, rfl, _, _, rfl, rfl, (by show (0 : Int) < (e : Int); omega), _, _, rfl, ?_⟩⟩
        refine ⟨rfl, e, c % e, rfl, ?_, Nat.mod_lt _ e0⟩
        rw [← hce, Nat.gcd_comm e, ← Nat.gcd_rec, Nat.gcd_comm]
      · have e0 : e = 0 := by omega
        subst e0
        rw [Nat.gcd_zero_right] at hce
        subst hce
        refine ⟨_, rfl, ?_⟩
        exact ⟨rfl, _, _, _, _, rfl, hg⟩
    · rintro σ _ ⟨rfl, g, o3, o4, o5, rfl, hg⟩
      rw [List.length_map, List.drop_length] at hg
      exact hN _ _ ⟨rfl, o3, o4, o5, by rw [← hg]; rfl⟩
  rintro _ _ ⟨rfl, o3, o4, o5, rfl⟩
  have gd := gcdL_dvd ts b.natAbs
  have bp : 0 < b.natAbs := by omega
  have gl := Nat.le_of_dvd bp gd
  have gp := Nat.pos_of_dvd_of_pos gd bp
  generalize hG : gcdL b.natAbs ts = G at gl gp
  have cd : ∀ i : Int, CDivW i (G : Int) := fun i => wide_div (b := 8000) (by omega) (Nat.lt_of_le_of_lt gl b1) (by decide) (by decide)
  refine ⟨_, rfl, _, rfl, _, _, rfl, rfl, cd b, ?_⟩
  refine ⟨_, rfl, p, rfl, ⟨_, SqT.of hp⟩, fun D1 hD1 => ?_⟩
  refine lc_it (walk_tup (xs := ts.map V.int)) (fun i H' => Same H H' ∧ H' D1 = some (.lst ((ts.take i).map fun t => V.int (t / (G : Int))))) ⟨Same.upd_new hD1, upd_same⟩ (fun i H' _ ⟨s2, _⟩ => SqT.of (s2 _ _ hp)) ?_ ?_
  · rintro i x H2 H3 _ ⟨s2, h2⟩ ⟨e2, hx⟩
    replace e2 := e2.symm
    subst e2
    obtain ⟨z, rfl, hz⟩ := int_at hx
    have hi := (List.getElem?_eq_some_iff.mp hz).1
    refine ⟨rfl, ?_⟩
    refine ⟨_, rfl, _, rfl, _, _, rfl, rfl, cd z, _, h2, ?_, fun b o e => ?_, ?_⟩
    · rw [List.length_map, List.length_take]
      exact Nat.lt_of_le_of_lt (Nat.le_trans (Nat.min_le_right _ _) tl) (by decide)
    · rw [upd_ne (ne_of_none e hD1)]
      exact s2 _ _ e
    · rw [upd_same, take_snoc hz, List.map_append]
      rfl
  · rintro H2 ⟨s2, h2⟩
    have e1 : (ts.take (ts.map V.int).length).map (fun t => V.int (t / (G : Int))) = (lowT b ts).map V.int := by
      unfold lowT
      rw [hG, List.length_map, List.take_length, List.map_map]
      rfl
    rw [e1] at h2
    refine ⟨D1, _, rfl, .inl ⟨SqL.of h2, fun T1 hT1 => ?_⟩⟩
    have s3 : Same H2 (upd H2 T1 (.tup ((lowT b ts).map V.int))) := Same.upd_new hT1
    have h3 : (upd H2 T1 (.tup ((lowT b ts).map V.int))) T1 = some (.tup ((lowT b ts).map V.int)) := upd_same
    generalize hH3 : upd H2 T1 (.tup ((lowT b ts).map V.int)) = H3 at s3 h3
    refine ⟨(by show (2 : Nat) ≤ sizeLine; decide), fun T2 hT2 => ?_⟩
    have s4 : Same H3 (upd H3 T2 (.tup [V.int (b / (G : Int)), V.ref T1])) := Same.upd_new hT2
    refine q _ _ (s2.trans (s3.trans s4)) ⟨T2, T1, rfl, ?_, s4 _ _ h3⟩
    unfold lowB
    rw [hG]
    exact upd_same
end
end Ft

/-! t * 0 and t * 1, t a tuple -/
namespace Ft
open PySem PySem.Spec PyProof.Rows L2
theorem mul_tup1 (l : Addr) (us : Array Value) (n : Nat) (dd : Option Addr) (sl : Array (Option Value)) (u : Tok) :
    Meets (Builtin.«tuple.__mul__» ⟨[.ref l, .int 1 u], []⟩) (fun _ R s => s.heap.get? l = some { cls := .type "tuple", dict := dd, data := .seq us n, slots := sl } ∧ R (.ok (.ret (.ref l))) s) :=
  .of_wp fun pr w A R s z => by
    obtain ⟨hp, g, d, tk, os⟩ := s
    obtain ⟨hl, q⟩ := z
    have ix := AutoSeq1.idx_int
    have c1 : (us.isEmpty || (1 : Int) == 1) = true := by simp
    wp_walk using wpAny_loadPart' hl
    exact ⟨_, rfl, q⟩
theorem mul_tup0 (l : Addr) (us : Array Value) (n : Nat) (dd : Option Addr) (sl : Array (Option Value)) (u : Tok) (ne : us.isEmpty = false) :
    Meets (Builtin.«tuple.__mul__» ⟨[.ref l, .int 0 u], []⟩) (fun _ R s => s.heap.get? l = some { cls := .type "tuple", dict := dd, data := .seq us n, slots := sl } ∧ R (.ok (.ret (.ref s.heap.objs.size))) { s with heap := s.heap.push { cls := .type "tuple", data := .seq #[] }, toks := s.toks }) :=
  .of_wp fun pr w A R s z => by
    obtain ⟨hp, g, d, tk, os⟩ := s
    obtain ⟨hl, q⟩ := z
    have ix := AutoSeq1.idx_int
    have c1 : (us.isEmpty || (0 : Int) == 1) = false := by rw [ne]; rfl
    wp_walk using wpAny_loadPart' hl
    exact ⟨_, rfl, q⟩
def rRepZ (K : PySem.W.Frag) : R2 := fun x y H Q => ∃ (l : Addr) (k : Nat) (xs : List V), x = .ref l ∧ y = .int (k : Int) ∧ SqT K H l xs ∧ xs ≠ [] ∧ k ≤ 1000 ∧ xs.length ≤ 1000 ∧
  (k = 0 → ∀ p, H p = none → Q (.ref p) (upd H p (.tup []))) ∧ (k = 1 → Q (.ref l) H) ∧ (2 ≤ k → ∀ p, H p = none → Q (.ref p) (upd H p (.tup (List.replicate k xs).flatten)))
/-- t * k, t a tuple that is not empty, k from 0 on -/
theorem op_repZ {X : Cx} : OpR X (binaryOp .Mult) (rRepZ X.K) := by
  intro pins s σ H x y v u Q I rx ry z
  obtain ⟨l, k, xs, rfl, rfl, sq, ne, le, lx, q0, q1, q2⟩ := z
  rcases Nat.lt_or_ge k 2 with k2 | k2
  · obtain rfl : v = Value.ref l := rx
    obtain ⟨t, rfl⟩ := ry
    obtain ⟨us, rv, ⟨⟨cls, dd, data, sl⟩, eo, ec, n, ed⟩, _⟩ := I.tuple sq
    simp only at ec ed
    subst ec ed
    have nu : us.toArray.isEmpty = false := by
      cases us with
      | nil => exact absurd (List.eq_nil_of_length_eq_zero rv.length) ne
      | cons a r => rfl
    match k, k2 with
    | 0, _ =>
      refine wpAny_binaryOp_repeat_ref (T := "tuple") (U := "int") (by decide) ⟨_, eo, rfl⟩ (fun s' => typeIs_int s' _ t) noFill_tuple_mul F.fills_int_mul F.slot_int_rmul repeat_tuple F.slot_int_index.lookup
        (call_meets F.slot_int_rmul (typeIs_int s _ t) F.entry_int_rmul (F.args_int_rmul_2 _ _) (int_rmul_tuple _ t l us.toArray n dd sl) ⟨eo, rfl, ⟨_, eo, rfl⟩,
          call_meets F.slot_tuple_mul ⟨_, eo, rfl⟩ F.entry_tuple_mul (F.args_tuple_mul_2 _ _) (mul_tup0 l us.toArray n dd sl t nu) ⟨eo, ?_⟩⟩)
      exact ⟨.ref s.heap.objs.size, _, I.laid (t' := s.toks) (o := .tup []) (fun b ob y => Heap.get?_push_of_some _ y) (Nat.le_refl _) ⟨Nat.zero_le _, [], .nil, IsTup.new _ _⟩, rfl, q0 rfl _ (I.hok.fresh (Nat.le_refl _))⟩
    | 1, _ =>
      refine wpAny_binaryOp_repeat_ref (T := "tuple") (U := "int") (by decide) ⟨_, eo, rfl⟩ (fun s' => typeIs_int s' _ t) noFill_tuple_mul F.fills_int_mul F.slot_int_rmul repeat_tuple F.slot_int_index.lookup
        (call_meets F.slot_int_rmul (typeIs_int s _ t) F.entry_int_rmul (F.args_int_rmul_2 _ _) (int_rmul_tuple _ t l us.toArray n dd sl) ⟨eo, rfl, ⟨_, eo, rfl⟩,
          call_meets F.slot_tuple_mul ⟨_, eo, rfl⟩ F.entry_tuple_mul (F.args_tuple_mul_2 _ _) (mul_tup1 l us.toArray n dd sl t) ⟨eo, ?_⟩⟩)
      exact ⟨.ref l, H, I, rfl, q1 rfl⟩
  · refine op_repT pins s σ H _ _ v u Q I rx ry ⟨l, (k : Int), xs, rfl, rfl, sq, ne, by omega, by omega, lx, ?_⟩
    rw [Int.toNat_natCast]
    exact q2 k2
end Ft

set_option exponentiation.threshold 9000
namespace Ft
open PySem L2
theorem kb_spread {K : PySem.W.Frag} {f : Addr} {fd : FuncData} (F : Fun K "spread" "spread" s_spread f fd) : KBinds K fd ["beginning", "d"] ["d", "beginning"] swapU swapV := by
  obtain ⟨oc, od, kV, doc, pm, an, cdv, ct, osl, rfl, lk, hcd⟩ := F.ex
  refine ⟨fun s us ws _ hl => ?_, swap_rel⟩
  match us, ws, hl with
  | [], [a, b], _ => exact .of_eq rfl
theorem kb_every {K : PySem.W.Frag} {f : Addr} {fd : FuncData} (F : Fun K "every" "every" s_every f fd) : KBinds K fd ["beginning", "d"] ["d", "beginning"] swapU swapV := by
  obtain ⟨oc, od, kV, doc, pm, an, cdv, ct, osl, rfl, lk, hcd⟩ := F.ex
  refine ⟨fun s us ws _ hl => ?_, swap_rel⟩
  match us, ws, hl with
  | [], [a, b], _ => exact .of_eq rfl
theorem kb_shifted {K : PySem.W.Frag} {f : Addr} {fd : FuncData} (F : Fun K "shifted" "shifted" s_shifted f fd) : KBinds K fd ["beginning", "s"] ["s", "beginning"] swapU swapV := by
  obtain ⟨oc, od, kV, doc, pm, an, cdv, ct, osl, rfl, lk, hcd⟩ := F.ex
  refine ⟨fun s us ws _ hl => ?_, swap_rel⟩
  match us, ws, hl with
  | [], [a, b], _ => exact .of_eq rfl
theorem kb_twisted {K : PySem.W.Frag} {f : Addr} {fd : FuncData} (F : Fun K "twisted" "twisted" s_twisted f fd) : KBinds K fd ["beginning", "sign"] ["sign", "beginning"] swapU swapV := by
  obtain ⟨oc, od, kV, doc, pm, an, cdv, ct, osl, rfl, lk, hcd⟩ := F.ex
  refine ⟨fun s us ws _ hl => ?_, swap_rel⟩
  match us, ws, hl with
  | [], [a, b], _ => exact .of_eq rfl
theorem low_short {b : Int} {ts : List Int} (h : BgS b ts) : BgS (lowB b ts) (lowT b ts) := by
  refine ⟨Nat.lt_of_le_of_lt (Int.natAbs_ediv_le_natAbs _ _) h.hb, fun x hx => ?_, by unfold lowT; rw [List.length_map]; exact h.len⟩
  obtain ⟨t, ht, rfl⟩ := List.mem_map.mp hx
  exact Nat.lt_of_le_of_lt (Int.natAbs_ediv_le_natAbs _ _) (h.hts t ht)
theorem getD_short {ts : List Int} (h : ∀ x ∈ ts, x.natAbs < 2 ^ 140) (i : Nat) : (ts.getD i 0).natAbs < 2 ^ 140 := by
  rcases Nat.lt_or_ge i ts.length with hi | hi
  · exact h _ (getD_mem hi)
  · rw [List.getD_eq_getElem?_getD, List.getElem?_eq_none hi]
    decide
theorem spr_short {b : Int} {ts : List Int} (h : BgS b ts) (d : Nat) : BgS b (sprL ts d) := by
  refine ⟨h.hb, fun x hx => ?_, by unfold sprL; rw [List.length_map, List.length_range]; exact h.len⟩
  obtain ⟨n, _, rfl⟩ := List.mem_map.mp hx
  split
  · exact getD_short h.hts _
  · decide
theorem eve_short {b : Int} {ts : List Int} (h : BgS b ts) (d : Nat) : BgS b (eveL ts d) := by
  refine ⟨h.hb, fun x hx => ?_, by unfold eveL; rw [List.length_map]; exact Nat.le_trans (filter_len _ _) h.len⟩
  obtain ⟨n, _, rfl⟩ := List.mem_map.mp hx
  exact getD_short h.hts _
theorem tw_short {b : Int} {ts : List Int} (h : BgS b ts) (s : Int) : BgS b (twL ts s) := by
  refine ⟨h.hb, fun x hx => ?_, by unfold twL; rw [List.length_map, List.length_range]; exact h.len⟩
  obtain ⟨n, _, rfl⟩ := List.mem_map.mp hx
  rw [Int.natAbs_mul]
  have a := valueAt_one s (n : Int)
  have c := getD_short h.hts n
  exact Nat.lt_of_le_of_lt (Nat.mul_le_mul_right _ a) (by rw [Nat.one_mul]; exact c)
theorem shf_short {b : Int} {ts : List Int} (h : BgS b ts) {s : Nat} (hs : s + ts.length ≤ 1000) : BgS b (shfL ts s) := by
  refine ⟨h.hb, fun x hx => ?_, by unfold shfL; rw [List.length_append, List.length_replicate]; exact hs⟩
  rcases List.mem_append.mp hx with hx | hx
  · rw [List.eq_of_mem_replicate hx]; decide
  · exact h.hts x hx
theorem repZ_all {K : PySem.W.Frag} {H : Hp} {l : Addr} {k : Nat} {M : VK} (h : H l = some (.tup [V.int 0])) (hk : k ≤ 1000) (m : ∀ H1 q, Same H H1 → H1 q = some (.tup (List.replicate k (V.int 0))) → M (.ref q) H1) : rRepZ K (.ref l) (.int (k : Int)) H M :=
  ⟨l, k, _, rfl, rfl, SqT.of h, (fun z => by cases z), hk, (by show (1 : Nat) ≤ 1000; decide), fun e p hp => m _ p (Same.upd_new hp) (by rw [upd_same, e]; rfl), fun e => m H l (Same.refl H) (by rw [h, e]; rfl), fun _ p hp => m _ p (Same.upd_new hp) (by rw [upd_same, flat_one])⟩
theorem catA_all {K : PySem.W.Frag} {H : Hp} {a b : Addr} {xs ys : List V} {M : VK} (ha : H a = some (.tup xs)) (hb : H b = some (.tup ys)) (hl : xs.length + ys.length ≤ sizeLine) (m : ∀ H1 q, Same H H1 → H1 q = some (.tup (xs ++ ys)) → M (.ref q) H1) : rCatA K (.ref a) (.ref b) H M :=
  ⟨a, b, xs, ys, rfl, rfl, SqT.of ha, SqT.of hb, hl, fun e => m H b (Same.refl H) (by rw [hb, e]; rfl), fun _ e => m H a (Same.refl H) (by rw [ha, e, List.append_nil]), fun _ _ p hp => m _ p (Same.upd_new hp) upd_same⟩
def sp_right : Sp := fun vs H Q _ => ∃ (v : V) (b : Int) (ts : List Int) (d : Nat) (z : Int) (s way : Nat), vs = [v, .int (d : Int), .int z, .int (s : Int), .int (way : Int)] ∧ Bg H v b ts ∧ BgOk b ts ∧ b.natAbs < 2 ^ 140 ∧ (∀ x ∈ ts, x.natAbs < 2 ^ 140) ∧ 1 ≤ d ∧ d < 2 ^ 8000 ∧ isSign z = true ∧ s ≤ 280 ∧
  (∀ n, n < ts.length → (lawVals z ts.length).getD n 0 = valueAt z (n : Int)) ∧ ∀ H', Same H H' → Q (.bl true) H'
section
variable {P : Program} {w : World} {K : PySem.W.Frag} {mg : Str → Option Value} {base : Heap}
theorem fn_right {f : Addr} {fd : FuncData} (F : Fun K "_law_is_right" "_law_is_right" s__law_is_right f fd) (B : Bi mg) (c_redT : Cal P w K mg base 1 "_law_reduced" sp_loweredT) (c__law_spread : Cal P w K mg base 2 "_law_spread" (sp_deed sprL fun d => 1 ≤ d ∧ d < 2 ^ 8000)) (c__law_every : Cal P w K mg base 2 "_law_every" (sp_deed eveL fun d => 1 ≤ d)) (c__law_twisted : Cal P w K mg base 3 "_law_twisted" sp_ltwist)
    (c_spread : Cal P w K mg base 5 "spread" (sp_deed sprL fun d => 1 ≤ d ∧ d < 2 ^ 8000)) (c_every : Cal P w K mg base 5 "every" (sp_deed eveL fun d => 1 ≤ d)) (c_twisted : Cal P w K mg base 5 "twisted" sp_twist) (c_shifted : Cal P w K mg base 5 "shifted" (sp_deed shfL fun d => d ≤ 280))
    (k_spread : CalK P w K mg base 5 "spread" ["d", "beginning"] swapV (sp_deed sprL fun d => 1 ≤ d ∧ d < 2 ^ 8000)) (k_every : CalK P w K mg base 5 "every" ["d", "beginning"] swapV (sp_deed eveL fun d => 1 ≤ d)) (k_twisted : CalK P w K mg base 5 "twisted" ["sign", "beginning"] swapV sp_twist) (k_shifted : CalK P w K mg base 5 "shifted" ["s", "beginning"] swapV (sp_deed shfL fun d => d ≤ 280)) :
    FnG P w K mg base 6 f fd ["_law_one", "_law_d", "_law_sign_here", "_law_s", "_law_way"] sp_right := by
  have sc := sc__law_is_right
  refine fun_g F sc (fun _ _ _ _ ⟨_, _, _, _, _, _, _, e, _⟩ => by rw [e]; rfl) (fun cdv A outer s H vs Q E hgd hr h => ?_)
  obtain ⟨v, b, ts, d, z, sh, way, rfl, hv, hb, bs, tss, d1, d2, hz, hs, hval, q⟩ := h
  refine ⟨_, (pss_cons (ps_set (i := 5) sc.nd rfl (Or.inl rfl) (pe_tup (pa_cons (pe_c c__law_spread hr (by decide) (by rfl) (pa_cons (pv 0) (pa_cons (pv 1) pa_nil))) (pa_cons (pe_c c__law_every hr (by decide) (by rfl) (pa_cons (pv 0) (pa_cons (pv 1) pa_nil))) (pa_cons (pe_c c__law_twisted hr (by decide) (by rfl) (pa_cons (pv 0) (pa_cons (pv 2) pa_nil))) (pa_cons (pe_c c_redT hr (by decide) (by rfl) (pa_cons (pe_ix (show IxR _ (rIx K) from ix_seq) (pv 0) pe_int (fun _ _ => rfl)) (pa_cons (pe_op op_catA (pe_op op_repZ (pe_tup (pa_cons pe_int pa_nil)) (pv 3)) (pe_ix (show IxR _ (rIx K) from ix_seq) (pv 0) pe_int (fun _ _ => rfl))) pa_nil))) pa_nil))))))
      (pss_cons (ps_if (pt_cmpR op_eq (pv 4) pe_int (nomark _))
      (pss_one (ps_set (i := 6) sc.nd rfl (Or.inl rfl) (pe_tup (pa_cons (pe_c c_spread hr (by decide) (by rfl) (pa_cons (pv 0) (pa_cons (pv 1) pa_nil))) (pa_cons (pe_c c_every hr (by decide) (by rfl) (pa_cons (pv 0) (pa_cons (pv 1) pa_nil))) (pa_cons (pe_c c_twisted hr (by decide) (by rfl) (pa_cons (pv 0) (pa_cons (pv 2) pa_nil))) (pa_cons (pe_c c_shifted hr (by decide) (by rfl) (pa_cons (pv 0) (pa_cons (pv 3) pa_nil))) pa_nil)))))))
      (pss_cons (ps_set (i := 6) sc.nd rfl (Or.inl rfl) (pe_tup (pa_cons (pe_k0 k_spread hr (by decide) (by rfl) (pk_cons (pv 1) (pk_cons (pv 0) pk_nil))) (pa_cons (pe_k0 k_every hr (by decide) (by rfl) (pk_cons (pv 1) (pk_cons (pv 0) pk_nil))) (pa_cons (pe_k0 k_twisted hr (by decide) (by rfl) (pk_cons (pv 2) (pk_cons (pv 0) pk_nil))) pa_nil)))))
        (pss_one (ps_set (i := 6) sc.nd rfl (Or.inl rfl) (pe_op op_catA (pv 6) (pe_tup (pa_cons (pe_k0 k_shifted hr (by decide) (by rfl) (pk_cons (pv 3) (pk_cons (pv 0) pk_nil))) pa_nil)))))))
      (pss_one (ps_ret (pe_cmpR op_eq (pe_callB (call_repr hgd hr) (by rfl) B.repr (by decide +kernel) (pa_cons (pv 6) pa_nil)) (pe_callB (call_repr hgd hr) (by rfl) B.repr (by decide +kernel) (pa_cons (pv 5) pa_nil)) (nomark _)))))), ?_⟩
  have l1 := hb.2.1
  have l2 := hb.2.2
  have b1 := hb.1
  have b8 : b.natAbs < 2 ^ 8000 := Nat.lt_trans bs (Nat.pow_lt_pow_right (by decide) (by decide))
  have a0 : ∀ {a c : V}, atI [a, c] 0 = some a := fun {a c} => atI_nat (j := 0) rfl
  have a1 : ∀ {a c : V}, atI [a, c] 1 = some c := fun {a c} => atI_nat (j := 1) rfl
  refine ⟨_, rfl, _, rfl, v, b, ts, d, rfl, hv, hb, b8, ⟨d1, d2⟩, fun H1 u1 s1 g1 => ?_⟩
  refine ⟨_, rfl, _, rfl, v, b, ts, d, rfl, hv.same s1, hb, b8, d1, fun H2 u2 s2 g2 => ?_⟩
  refine ⟨_, rfl, _, rfl, v, b, ts, z, rfl, hv.same (s1.trans s2), hb, b8, hval, fun H3 u3 s3 g3 => ?_⟩
  have s03 := s1.trans (s2.trans s3)
  obtain ⟨p, r, rfl, hp, hrt⟩ := hv.same s03
  refine ⟨_, rfl, .inr (.inl ⟨p, _, 0, _, rfl, rfl, SqT.of hp, a0, ?_⟩)⟩
  refine ⟨(by show (1 : Nat) ≤ sizeLine; decide), fun p4 hp4 => ?_⟩
  have s4 : Same H3 (upd H3 p4 (.tup [V.int 0])) := Same.upd_new hp4
  have h4 : (upd H3 p4 (.tup [V.int 0])) p4 = some (.tup [V.int 0]) := upd_same
  generalize hH4 : upd H3 p4 (.tup [V.int 0]) = H4 at s4 h4
  refine ⟨_, rfl, repZ_all h4 (by omega) fun H5 p5 s5 h5 => ?_⟩
  refine ⟨_, rfl, .inr (.inl ⟨p, _, 1, _, rfl, rfl, SqT.of (s5 _ _ (s4 _ _ hp)), a1, ?_⟩)⟩
  refine catA_all h5 (s5 _ _ (s4 _ _ hrt)) ?_ fun H6 p6 s6 h6 => ?_
  · rw [List.length_replicate, List.length_map]
    exact Nat.le_trans (by omega : sh + ts.length ≤ 680) (by decide)
  have h6' : H6 p6 = some (.tup ((shfL ts sh).map V.int)) := by
    rw [h6]
    unfold shfL
    rw [List.map_append, List.map_replicate]
  have ls : (shfL ts sh).length ≤ 1000 := by
    unfold shfL
    rw [List.length_append, List.length_replicate]
    omega
  refine ⟨b, p6, shfL ts sh, rfl, h6', by omega, b8, ls, fun H7 u4 s7 g4 => ?_⟩
  have s37 := s4.trans (s5.trans (s6.trans s7))
  refine ⟨(by show (4 : Nat) ≤ sizeLine; decide), fun pd hpd => ?_⟩
  have s8 : Same H7 (upd H7 pd (.tup [u1, u2, u3, u4])) := Same.upd_new hpd
  have h8 : (upd H7 pd (.tup [u1, u2, u3, u4])) pd = some (.tup [u1, u2, u3, u4]) := upd_same
  generalize hH8 : upd H7 pd (.tup [u1, u2, u3, u4]) = H8 at s8 h8
  have e1 : Bg H8 u1 _ _ := g1.same (s2.trans (s3.trans (s37.trans s8)))
  have e2 : Bg H8 u2 _ _ := g2.same (s3.trans (s37.trans s8))
  have e3 : Bg H8 u3 _ _ := g3.same (s37.trans s8)
  have e4 : Bg H8 u4 _ _ := g4.same s8
  have s08 := s03.trans (s37.trans s8)
  have hv8 : Bg H8 (.ref p) b ts := hv.same s08
  have S0 : BgS b ts := ⟨bs, tss, by omega⟩
  have S1 := low_short (spr_short S0 d)
  have S2 := low_short (eve_short S0 d)
  have S3 := low_short (tw_short S0 z)
  have S4 := low_short (shf_short S0 (s := sh) (by omega))
  have R := rep_4 S1 S2 S3 S4
  have dpT : ∀ (Hx : Hp) (q : Addr) (y1 y2 y3 y4 : V), Hx q = some (.tup [y1, y2, y3, y4]) → Bg Hx y1 (lowB b (sprL ts d)) (lowT b (sprL ts d)) → Bg Hx y2 (lowB b (eveL ts d)) (lowT b (eveL ts d)) → Bg Hx y3 (lowB b (twL ts z)) (lowT b (twL ts z)) → Bg Hx y4 (lowB b (shfL ts sh)) (lowT b (shfL ts sh)) →
      Dp K Hx (.ref q) (.tuple [bgD (lowB b (sprL ts d)) (lowT b (sprL ts d)), bgD (lowB b (eveL ts d)) (lowT b (eveL ts d)), bgD (lowB b (twL ts z)) (lowT b (twL ts z)), bgD (lowB b (shfL ts sh)) (lowT b (shfL ts sh))]) :=
    fun Hx q y1 y2 y3 y4 hq k1 k2 k3 k4 => .tup (SqT.of hq) (.cons (dp_bg k1) (.cons (dp_bg k2) (.cons (dp_bg k3) (.cons (dp_bg k4) .nil))))
  dsimp only [gName]
  refine tSeq_join (fun σ H' => Same H8 H' ∧ ∃ (q : Addr) (y1 y2 y3 y4 : V), σ = [some (.ref p), some (.int (d : Int)), some (.int z), some (.int (sh : Int)), some (.int (way : Int)), some (.ref pd), some (.ref q)] ∧ H' q = some (.tup [y1, y2, y3, y4]) ∧ Bg H' y1 (lowB b (sprL ts d)) (lowT b (sprL ts d)) ∧ Bg H' y2 (lowB b (eveL ts d)) (lowT b (eveL ts d)) ∧ Bg H' y3 (lowB b (twL ts z)) (lowT b (twL ts z)) ∧ Bg H' y4 (lowB b (shfL ts sh)) (lowT b (shfL ts sh))) (fun N hN => ?_) ?_
  · refine ⟨_, rfl, rfl, _, rfl, ifI (fun e => ?_) fun e => ?_⟩
    · refine ⟨_, rfl, _, rfl, _, b, ts, d, rfl, hv8, hb, b8, ⟨d1, d2⟩, fun I1 y1 t1 j1 => ?_⟩
      refine ⟨_, rfl, _, rfl, _, b, ts, d, rfl, hv8.same t1, hb, b8, d1, fun I2 y2 t2 j2 => ?_⟩
      refine ⟨_, rfl, _, rfl, _, b, ts, z, rfl, hv8.same (t1.trans t2), hb, b8, hz, fun I3 y3 t3 j3 => ?_⟩
      refine ⟨_, rfl, _, rfl, _, b, ts, sh, rfl, hv8.same (t1.trans (t2.trans t3)), hb, b8, hs, fun I4 y4 t4 j4 => ?_⟩
      refine ⟨(by show (4 : Nat) ≤ sizeLine; decide), fun pq hpq => ?_⟩
      have t5 : Same I4 (upd I4 pq (.tup [y1, y2, y3, y4])) := Same.upd_new hpq
      exact hN _ _ ⟨t1.trans (t2.trans (t3.trans (t4.trans t5))), pq, y1, y2, y3, y4, rfl, upd_same, j1.same (t2.trans (t3.trans (t4.trans t5))), j2.same (t3.trans (t4.trans t5)), j3.same (t4.trans t5), j4.same t5⟩
    · refine ⟨_, rfl, _, rfl, _, b, ts, d, rfl, hv8, hb, b8, ⟨d1, d2⟩, fun I1 y1 t1 j1 => ?_⟩
      refine ⟨_, rfl, _, rfl, _, b, ts, d, rfl, hv8.same t1, hb, b8, d1, fun I2 y2 t2 j2 => ?_⟩
      refine ⟨_, rfl, _, rfl, _, b, ts, z, rfl, hv8.same (t1.trans t2), hb, b8, hz, fun I3 y3 t3 j3 => ?_⟩
      refine ⟨(by show (3 : Nat) ≤ sizeLine; decide), fun pa hpa => ?_⟩
      have t4 : Same I3 (upd I3 pa (.tup [y1, y2, y3])) := Same.upd_new hpa
      have ha : (upd I3 pa (.tup [y1, y2, y3])) pa = some (.tup [y1, y2, y3]) := upd_same
      generalize hI4 : upd I3 pa (.tup [y1, y2, y3]) = I4 at t4 ha
      have t14 := t1.trans (t2.trans (t3.trans t4))
      refine ⟨_, rfl, _, rfl, _, rfl, _, b, ts, sh, rfl, hv8.same t14, hb, b8, hs, fun I5 y4 t5 j4 => ?_⟩
      refine ⟨(by show (1 : Nat) ≤ sizeLine; decide), fun pb hpb => ?_⟩
      have t6 : Same I5 (upd I5 pb (.tup [y4])) := Same.upd_new hpb
      refine catA_all (t6 _ _ (t5 _ _ ha)) upd_same (by show (4 : Nat) ≤ sizeLine; decide) fun I7 pq t7 hpq => ?_
      have t47 := t5.trans (t6.trans t7)
      exact hN _ _ ⟨t14.trans t47, pq, y1, y2, y3, y4, rfl, hpq, j1.same (t2.trans (t3.trans (t4.trans t47))), j2.same (t3.trans (t4.trans t47)), j3.same (t4.trans t47), j4.same (t6.trans t7)⟩
  rintro _ H9 ⟨s9, q9, y1, y2, y3, y4, rfl, hq, j1, j2, j3, j4⟩
  refine ⟨_, rfl, q9, _, rfl, dpT _ _ _ _ _ _ hq j1 j2 j3 j4, R.show_, R.dict, R.depth, R.len, ?_⟩
  refine ⟨_, rfl, pd, _, rfl, dpT _ _ _ _ _ _ (s9 _ _ h8) (e1.same s9) (e2.same s9) (e3.same s9) (e4.same s9), R.show_, R.dict, R.depth, R.len, ?_⟩
  refine ⟨rfl, ?_⟩
  rw [decide_eq_true rfl]
  exact q H9 (s08.trans s9)
end
end Ft

set_option exponentiation.threshold 9000
namespace Ft
open PySem L2
theorem low_ok {b : Int} {ts : List Int} (h : BgOk b ts) : BgOk (lowB b ts) (lowT b ts) := by
  have b0 := h.1
  have p := lowB_pos (b := b) (by omega) ts
  refine ⟨by omega, ?_, ?_⟩
  · unfold lowT; rw [List.length_map]; exact h.2.1
  · unfold lowT; rw [List.length_map]; exact h.2.2
theorem spr_ok {b : Int} {ts : List Int} (h : BgOk b ts) (d : Nat) : BgOk b (sprL ts d) := by
  have l : (sprL ts d).length = ts.length := by unfold sprL; rw [List.length_map, List.length_range]
  exact ⟨h.1, by rw [l]; exact h.2.1, by rw [l]; exact h.2.2⟩
theorem tw_ok {b : Int} {ts : List Int} (h : BgOk b ts) (s : Int) : BgOk b (twL ts s) := by
  have l : (twL ts s).length = ts.length := by unfold twL; rw [List.length_map, List.length_range]
  exact ⟨h.1, by rw [l]; exact h.2.1, by rw [l]; exact h.2.2⟩
theorem eve_ok {b : Int} {ts : List Int} (h : BgOk b ts) {d : Nat} (hd : 0 < d) : BgOk b (eveL ts d) := by
  refine ⟨h.1, by rw [eve_len hd h.2.1]; exact Nat.le_add_left 1 _, ?_⟩
  unfold eveL
  rw [List.length_map]
  exact Nat.le_trans (filter_len _ _) h.2.2
theorem rep_one {K : PySem.W.Frag} {H : Hp} {u : V} {b : Int} {ts : List Int} {Q : VK} (g : Bg H u b ts) (S : BgS b ts) (q : ∀ z, z = (bgD b ts).shown → Q (.str z) H) : rRepr K [u] H Q := by
  have d := dp_bg (K := K) g
  obtain ⟨p, r, rfl, _, _⟩ := g
  have R := rep_bg S
  exact ⟨p, _, rfl, d, R.show_, R.dict, R.depth, R.len, q _ rfl⟩
theorem slA_all {K : PySem.W.Frag} {H : Hp} {r : Addr} {ts : List Int} {M : Nat} {W : VK} (h : H r = some (.tup (ts.map V.int))) (m : ∀ H1 q, Same H H1 → H1 q = some (.tup ((ts.take M).map V.int)) → W (.ref q) H1) : rSlA K (.ref r) none (some (M : Int)) H W := by
  refine ⟨r, _, rfl, SqT.of h, fun e => m H r (Same.refl H) ?_, fun _ p hp => m _ p (Same.upd_new hp) ?_⟩
  · have e2 := e.2
    rw [HT.sIx_nat, List.length_map] at e2
    rw [h, List.take_of_length_le (by omega)]
  · rw [upd_same, cut_take, ← List.map_take]
theorem take_short {b : Int} {ts : List Int} (h : BgS b ts) (M : Nat) : BgS b (ts.take M) :=
  ⟨h.hb, fun x hx => h.hts x (List.mem_of_mem_take hx), by rw [List.length_take]; exact Nat.le_trans (Nat.min_le_right _ _) h.len⟩
theorem twtw (s z : Int) (ts : List Int) : twL (twL ts s) z = (List.range ts.length).map fun n : Nat => valueAt z (n : Int) * (valueAt s (n : Int) * ts.getD n 0) := by
  have l : (twL ts s).length = ts.length := by unfold twL; rw [List.length_map, List.length_range]
  unfold twL at l ⊢
  rw [l]
  refine List.map_congr_left fun n hn => ?_
  rw [getD_range, if_pos (List.mem_range.mp hn)]
def sp_tog : Sp := fun vs H Q _ => ∃ (v : V) (b : Int) (ts : List Int) (d e : Nat) (x y : Int), vs = [v, .int (d : Int), .int (e : Int), .int x, .int y] ∧ Bg H v b ts ∧ BgOk b ts ∧ b.natAbs < 2 ^ 140 ∧ (∀ x ∈ ts, x.natAbs < 2 ^ 140) ∧ 1 ≤ d ∧ d ≤ 4 ∧ 1 ≤ e ∧ e ≤ 4 ∧ isSign x = true ∧ isSign y = true ∧
  (∀ n, n < ts.length → (lawVals x ts.length).getD n 0 = valueAt x (n : Int)) ∧ ∀ H', Same H H' → Q (.bl true) H'
section
variable {P : Program} {w : World} {K : PySem.W.Frag} {mg : Str → Option Value} {base : Heap}
theorem fn_tog {f : Addr} {fd : FuncData} (F : Fun K "_law_are_together" "_law_are_together" s__law_are_together f fd) (B : Bi mg) (c_redT : Cal P w K mg base 1 "_law_reduced" sp_loweredT) (c__law_reduced : Cal P w K mg base 1 "_law_reduced" sp_lowered) (c__law_values : Cal P w K mg base 2 "_law_values" sp_vals)
    (c_spread : Cal P w K mg base 5 "spread" (sp_deed sprL fun d => 1 ≤ d ∧ d < 2 ^ 8000)) (c_every : Cal P w K mg base 5 "every" (sp_deed eveL fun d => 1 ≤ d)) (c_twisted : Cal P w K mg base 5 "twisted" sp_twist) :
    FnG P w K mg base 6 f fd ["_law_one", "_law_d", "_law_e", "_law_first", "_law_second"] sp_tog := by
  have sc := sc__law_are_together
  refine fun_g F sc (fun _ _ _ _ ⟨_, _, _, _, _, _, _, e, _⟩ => by rw [e]; rfl) (fun cdv A outer s H vs Q E hgd hr h => ?_)
  obtain ⟨v, b, ts, d, e, x, y, rfl, hv, hb, bs, tss, d1, d4, e1, e4, hx, hy, hval, q⟩ := h
  refine ⟨_, (pss_cons (ps_set (i := 5) sc.nd rfl (Or.inl rfl) (pe_c c_spread hr (by decide) (by rfl) (pa_cons (pv 0) (pa_cons (pv 1) pa_nil))))
      (pss_cons (ps_if (PW.pt (pw_or (pt_cmpR op_ne (pe_callB (call_repr hgd hr) (by rfl) B.repr (by decide +kernel) (pa_cons (pe_c c_spread hr (by decide) (by rfl) (pa_cons (pv 5) (pa_cons (pv 2) pa_nil))) pa_nil)) (pe_callB (call_repr hgd hr) (by rfl) B.repr (by decide +kernel) (pa_cons (pe_c c_spread hr (by decide) (by rfl) (pa_cons (pv 0) (pa_cons (pe_op op_mul (pv 1) (pv 2)) pa_nil))) pa_nil)) (nomark _)) (pw_or1 (pt_cmpR op_ne (pe_callB (call_repr hgd hr) (by rfl) B.repr (by decide +kernel) (pa_cons (pe_c c_every hr (by decide) (by rfl) (pa_cons (pe_c c_every hr (by decide) (by rfl) (pa_cons (pv 0) (pa_cons (pv 2) pa_nil))) (pa_cons (pv 1) pa_nil))) pa_nil)) (pe_callB (call_repr hgd hr) (by rfl) B.repr (by decide +kernel) (pa_cons (pe_c c_every hr (by decide) (by rfl) (pa_cons (pv 0) (pa_cons (pe_op op_mul (pv 1) (pv 2)) pa_nil))) pa_nil)) (nomark _)))))
      (pss_one (ps_ret pe_bl))
      pss_nil)
      (pss_cons (ps_par (i := 6) (j := 7) (by rfl) sc.nd rfl rfl (by decide) rfl rfl (pa_cons (pe_c c_every hr (by decide) (by rfl) (pa_cons (pv 5) (pa_cons (pv 1) pa_nil))) (pa_cons (pe_op op_add (pe_op op_fdivW (pe_op op_sub (pe_callB call_len_seq (by rfl) B.len_ (by decide +kernel) (pa_cons (pe_ix (show IxR _ (rIx K) from ix_seq) (pv 0) pe_int (fun _ _ => rfl)) pa_nil)) pe_int) (pv 1)) pe_int) pa_nil)) (by rfl))
      (pss_cons (ps_if (pt_cmpR op_ne (pe_callB (call_repr hgd hr) (by rfl) B.repr (by decide +kernel) (pa_cons (pv 6) pa_nil)) (pe_callB (call_repr hgd hr) (by rfl) B.repr (by decide +kernel) (pa_cons (pe_c c_redT hr (by decide) (by rfl) (pa_cons (pe_ix (show IxR _ (rIx K) from ix_seq) (pv 0) pe_int (fun _ _ => rfl)) (pa_cons (pe_slice sl_tupA (pe_ix (show IxR _ (rIx K) from ix_seq) (pv 0) pe_int (fun _ _ => rfl)) po_none (po_some (pv 7))) pa_nil))) pa_nil)) (nomark _))
      (pss_one (ps_ret pe_bl))
      pss_nil)
      (pss_cons (ps_set (i := 8) sc.nd rfl (Or.inl rfl) (pe_c c_twisted hr (by decide) (by rfl) (pa_cons (pe_c c_twisted hr (by decide) (by rfl) (pa_cons (pv 0) (pa_cons (pv 3) pa_nil))) (pa_cons (pv 3) pa_nil))))
      (pss_cons (ps_set (i := 9) sc.nd rfl (Or.inl rfl) (pe_c c__law_values hr (by decide) (by rfl) (pa_cons (pv 3) (pa_cons (pe_callB call_len_seq (by rfl) B.len_ (by decide +kernel) (pa_cons (pe_ix (show IxR _ (rIx K) from ix_seq) (pv 0) pe_int (fun _ _ => rfl)) pa_nil)) pa_nil))))
      (pss_cons (ps_if (pt_cmpR op_ne (pe_callB (call_repr hgd hr) (by rfl) B.repr (by decide +kernel) (pa_cons (pv 8) pa_nil)) (pe_callB (call_repr hgd hr) (by rfl) B.repr (by decide +kernel) (pa_cons (pe_c c__law_reduced hr (by decide) (by rfl) (pa_cons (pe_ix (show IxR _ (rIx K) from ix_seq) (pv 0) pe_int (fun _ _ => rfl)) (pa_cons (pe_lc (own := [("_law_x", 10), ("_law_value", 11)]) (g := gTup K 2 (gCons (gName 10) (gCons (gName 11) gNil))) (tt := tYes) (by rfl) sc.nd (pi_zipM (by rfl) B.zip (pa_cons (pe_ix (show IxR _ (rIx K) from ix_seq) (pv 0) pe_int (fun _ _ => rfl)) (pa_cons (pv 9) pa_nil))) (blkOk_by (own := [("_law_x", 10), ("_law_value", 11)]) (N := N__law_are_together) (sc := defScope s__law_are_together) (by decide +kernel)) (fun _ _ _ _ _ => (pg_tup rfl (pgs_cons (pg_name (i := 10) sc.nd rfl (Or.inl rfl) (Or.inr rfl)) (pgs_cons (pg_name (i := 11) sc.nd rfl (Or.inl rfl) (Or.inr rfl)) pgs_nil)))) (fun _ _ _ _ _ => pts_nil) (fun _ _ _ _ _ => (pe_op op_mulW (pe_op op_mulW (pv 10) (pv 11)) (pv 11)))) pa_nil))) pa_nil)) (nomark _))
      (pss_one (ps_ret pe_bl))
      pss_nil)
      (pss_one (ps_ret (pe_cmpR op_eq (pe_callB (call_repr hgd hr) (by rfl) B.repr (by decide +kernel) (pa_cons (pe_c c_twisted hr (by decide) (by rfl) (pa_cons (pe_c c_twisted hr (by decide) (by rfl) (pa_cons (pv 0) (pa_cons (pv 3) pa_nil))) (pa_cons (pv 4) pa_nil))) pa_nil)) (pe_callB (call_repr hgd hr) (by rfl) B.repr (by decide +kernel) (pa_cons (pe_c c_twisted hr (by decide) (by rfl) (pa_cons (pe_c c_twisted hr (by decide) (by rfl) (pa_cons (pv 0) (pa_cons (pv 4) pa_nil))) (pa_cons (pv 3) pa_nil))) pa_nil)) (nomark _))))))))))), ?_⟩
  have l1 := hb.2.1
  have l2 := hb.2.2
  have b1 := hb.1
  have bp : 0 < b := by omega
  have b8 : ∀ {c : Int}, c.natAbs < 2 ^ 140 → c.natAbs < 2 ^ 8000 := fun h => Nat.lt_trans h (Nat.pow_lt_pow_right (by decide) (by decide))
  have big : ∀ n : Nat, n ≤ 16 → n < 2 ^ 8000 := fun n hn => Nat.lt_of_le_of_lt (by omega : n ≤ 2 ^ 5) (Nat.pow_lt_pow_right (by decide) (by decide))
  have S0 : BgS b ts := ⟨bs, tss, by omega⟩
  have de : d * e ≤ 16 := Nat.mul_le_mul d4 e4
  have de1 : 1 ≤ d * e := Nat.mul_pos d1 e1
  have ede : (d : Int) * (e : Int) = ((d * e : Nat) : Int) := (Int.natCast_mul d e).symm
  have a0 : ∀ {a c : V}, atI [a, c] 0 = some a := fun {a c} => atI_nat (j := 0) rfl
  have a1 : ∀ {a c : V}, atI [a, c] 1 = some c := fun {a c} => atI_nat (j := 1) rfl
  refine ⟨_, rfl, _, rfl, v, b, ts, d, rfl, hv, hb, b8 bs, ⟨d1, big d (by omega)⟩, fun H1 u1 s1 g1 => ?_⟩
  have N1 := low_ok (spr_ok hb d)
  have N1s := low_short (spr_short S0 d)
  dsimp only [gName]
  refine tSeq_join (fun σ H' => Same H1 H' ∧ σ = [some v, some (.int (d : Int)), some (.int (e : Int)), some (.int x), some (.int y), some u1, none, none, none, none, none, none]) (fun N hN => ?_) ?_
  · refine ⟨_, rfl, _, rfl, u1, _, _, e, rfl, g1, N1, b8 N1s.hb, ⟨e1, big e (by omega)⟩, fun H2 u2 s2 g2 => ?_⟩
    have k2 := low_lin (lin_spr e) bp (sprL ts d)
    rw [k2.1, k2.2, spr_spr d1 e1] at g2
    dsimp only [tNil]
    refine rep_one g2 (low_short (spr_short S0 _)) fun w1 hw1 => ?_
    refine ⟨_, rfl, _, rfl, _, rfl, _, _, rfl, rfl, .inl ⟨by omega, by omega⟩, v, b, ts, d * e, ?_, hv.same (s1.trans s2), hb, b8 bs, ⟨de1, big _ de⟩, fun H3 u3 s3 g3 => ?_⟩
    · show [v, V.int ((d : Int) * (e : Int))] = _
      rw [ede]
    dsimp only [tNil]
    refine rep_one g3 (low_short (spr_short S0 _)) fun w2 hw2 => ?_
    obtain rfl : w1 = w2 := hw1.trans hw2.symm
    refine ⟨rfl, _, rfl, ifN (fun k => absurd rfl k) fun _ => ?_⟩
    refine ⟨_, rfl, _, rfl, v, b, ts, e, rfl, hv.same (s1.trans (s2.trans s3)), hb, b8 bs, e1, fun H4 u4 s4 g4 => ?_⟩
    refine ⟨_, rfl, u4, _, _, d, rfl, g4, low_ok (eve_ok hb e1), b8 (low_short (eve_short S0 e)).hb, d1, fun H5 u5 s5 g5 => ?_⟩
    have k5 := low_lin (lin_eve d) bp (eveL ts e)
    rw [k5.1, k5.2, eve_eve d1 e1 l1] at g5
    have s15 := s2.trans (s3.trans (s4.trans s5))
    dsimp only [tNil]
    refine rep_one g5 (low_short (eve_short S0 _)) fun w3 hw3 => ?_
    refine ⟨_, rfl, _, rfl, _, rfl, _, _, rfl, rfl, .inl ⟨by omega, by omega⟩, v, b, ts, d * e, ?_, hv.same (s1.trans s15), hb, b8 bs, de1, fun H6 u6 s6 g6 => ?_⟩
    · show [v, V.int ((d : Int) * (e : Int))] = _
      rw [ede]
    dsimp only [tNil]
    refine rep_one g6 (low_short (eve_short S0 _)) fun w4 hw4 => ?_
    obtain rfl : w3 = w4 := hw3.trans hw4.symm
    refine ⟨rfl, _, rfl, ifN (fun k => absurd rfl k) fun _ => ?_⟩
    exact hN _ _ ⟨s15.trans s6, rfl⟩
  · rintro _ H4 ⟨s4, rfl⟩
    refine ⟨_, rfl, _, rfl, u1, _, _, d, rfl, g1.same s4, N1, b8 N1s.hb, d1, fun H5 u5 s5 g5 => ?_⟩
    have k5 := low_lin (lin_eve d) bp (sprL ts d)
    rw [k5.1, k5.2, eve_spr d1 l1] at g5
    have s05 := s1.trans (s4.trans s5)
    obtain ⟨p, r, rfl, hp, hrt⟩ := hv.same s05
    have ll : (ts.map V.int).length = ts.length := List.length_map ..
    refine ⟨_, rfl, .inr (.inl ⟨p, _, 1, _, rfl, rfl, SqT.of hp, a1, r, _, rfl, .inr (SqT.of hrt), _, _, rfl, rfl, _, rfl, _, _, rfl, rfl, cdivN (by omega) (by omega), _, _, rfl, rfl, _, _, rfl, ?_⟩)⟩
    have eM : ((((ts.map V.int).length : Nat) : Int) - 1) / (d : Int) + 1 = (((ts.length - 1) / d + 1 : Nat) : Int) := by
      rw [ll, show ((ts.length : Nat) : Int) - 1 = ((ts.length - 1 : Nat) : Int) by omega]
      rfl
    dsimp only
    rw [eM]
    generalize hM : (ts.length - 1) / d + 1 = M at g5 ⊢
    refine tSeq_join (fun σ H' => Same H5 H' ∧ σ = [some (.ref p), some (.int (d : Int)), some (.int (e : Int)), some (.int x), some (.int y), some u1, some u5, some (.int (M : Int)), none, none, none, none]) (fun N hN => ?_) ?_
    · refine ⟨_, rfl, ?_⟩
      dsimp only [tNil]
      refine rep_one g5 (low_short (take_short S0 M)) fun w1 hw1 => ?_
      refine ⟨_, rfl, .inr (.inl ⟨p, _, 0, _, rfl, rfl, SqT.of hp, a0, ?_⟩)⟩
      refine ⟨_, rfl, .inr (.inl ⟨p, _, 1, _, rfl, rfl, SqT.of hp, a1, _, rfl, _, rfl, slA_all hrt fun H6 q6 s6 h6 => ?_⟩)⟩
      refine ⟨b, q6, ts.take M, rfl, h6, bp, b8 bs, (take_short S0 M).len, fun H7 u7 s7 g7 => ?_⟩
      dsimp only [tNil]
      refine rep_one g7 (low_short (take_short S0 M)) fun w2 hw2 => ?_
      obtain rfl : w1 = w2 := hw1.trans hw2.symm
      refine ⟨rfl, _, rfl, ifN (fun k => absurd rfl k) fun _ => ?_⟩
      exact hN _ _ ⟨s6.trans s7, rfl⟩
    rintro _ H6 ⟨s6, rfl⟩
    have hp6 := s6 _ _ hp
    have hrt6 := s6 _ _ hrt
    have hv6 : Bg H6 (.ref p) b ts := ⟨p, r, rfl, hp6, hrt6⟩
    have lvv : ((lawVals x ts.length).map V.int).length = ts.length := by rw [List.length_map, lawVals_len l1]
    refine ⟨_, rfl, _, rfl, _, b, ts, x, rfl, hv6, hb, b8 bs, hx, fun H7 u7 s7 g7 => ?_⟩
    refine ⟨_, rfl, u7, _, _, x, rfl, g7, low_ok (tw_ok hb x), b8 (low_short (tw_short S0 x)).hb, hx, fun H8 u8 s8 g8 => ?_⟩
    have k8 := low_lin (lin_tw x) bp (twL ts x)
    rw [k8.1, k8.2] at g8
    have s68 := s7.trans s8
    dsimp only [gName]
    refine ⟨_, rfl, _, rfl, .inr (.inl ⟨p, _, 1, _, rfl, rfl, SqT.of (s68 _ _ hp6), a1, r, _, rfl, .inr (SqT.of (s68 _ _ hrt6)), x, ts.length, ?_, l2, fun H9 pv s9 _ hpv => ?_⟩)⟩
    · show [V.int x, V.int (((ts.map V.int).length : Nat) : Int)] = _
      rw [ll]
    have s69 := s68.trans s9
    have SS := low_short (tw_short (tw_short S0 x) x)
    dsimp only [gName]
    refine tSeq_join (fun σ H' => Same H9 H' ∧ σ = [some (.ref p), some (.int (d : Int)), some (.int (e : Int)), some (.int x), some (.int y), some u1, some u5, some (.int (M : Int)), some u8, some (.ref pv), none, none]) (fun N hN => ?_) ?_
    · refine ⟨_, rfl, ?_⟩
      dsimp only [tNil]
      refine rep_one (g8.same s9) SS fun w1 hw1 => ?_
      refine ⟨_, rfl, .inr (.inl ⟨p, _, 0, _, rfl, rfl, SqT.of (s69 _ _ hp6), a0, ?_⟩)⟩
      refine ⟨_, rfl, .inr (.inl ⟨p, _, 1, _, rfl, rfl, SqT.of (s69 _ _ hp6), a1, _, rfl, r, pv, _, _, rfl, SqT.of (s69 _ _ hrt6), SqL.of hpv, fun D1 hD1 => ?_⟩)⟩
      refine lc_it (walk_zipM (xs := ts.map V.int) (ys := (lawVals x ts.length).map V.int) (n := ts.length) (by rw [ll, lvv, Nat.min_self])) (fun i H' => Same H9 H' ∧ H' D1 = some (.lst ((List.range i).map fun n : Nat => V.int (valueAt x (n : Int) * (valueAt x (n : Int) * ts.getD n 0))))) ⟨Same.upd_new hD1, upd_same⟩ (fun i H' _ ⟨t2, _⟩ => ⟨SqT.of (t2 _ _ (s69 _ _ hrt6)), SqL.of (t2 _ _ hpv)⟩) ?_ ?_
      · rintro i x0 H2 H3 hi ⟨t2, h2⟩ ⟨T, u, y0, rfl, hT, rfl, hu, hy0⟩
        obtain rfl : u = V.int (ts.getD i 0) := Option.some.inj (hu.symm.trans (getD_at hi))
        obtain rfl : y0 = V.int ((lawVals x ts.length).getD i 0) := Option.some.inj (hy0.symm.trans (getD_at (by rw [lawVals_len l1]; exact hi)))
        have t3 : Same H2 (upd H2 T (.tup [V.int (ts.getD i 0), V.int ((lawVals x ts.length).getD i 0)])) := Same.upd_new hT
        have v1 := getD_one (lawVals_one x ts.length) i
        have v2 : ((lawVals x ts.length).getD i 0).natAbs < 2 ^ 2 := by omega
        have c0 := getD_short tss i
        have c1 := wide_lt c0 v2
        refine ⟨T, _, rfl, SqT.of upd_same, rfl, ?_⟩
        refine ⟨_, _, rfl, _, _, rfl, rfl, rfl, ?_⟩
        refine ⟨_, rfl, _, rfl, _, _, rfl, rfl, wide_mul c0 v2 (by decide) (by decide) (by decide), _, rfl, _, _, rfl, rfl, wide_mul c1 v2 (by decide) (by decide) (by decide), _, t3 _ _ h2, ?_, fun b o e => ?_, ?_⟩
        · rw [List.length_map, List.length_range]
          exact Nat.lt_of_le_of_lt (by omega : i ≤ 400) (by decide)
        · rw [upd_ne (ne_of_none e hD1)]
          exact t3 _ _ (t2 _ _ e)
        · rw [upd_same, List.range_succ, List.map_append]
          show some (HO.lst (_ ++ [V.int (ts.getD i 0 * (lawVals x ts.length).getD i 0 * (lawVals x ts.length).getD i 0)])) = _
          rw [hval i hi, Int.mul_comm (ts.getD i 0), Int.mul_comm (valueAt x (i : Int) * ts.getD i 0)]
          rfl
      · rintro H2 ⟨t2, h2⟩
        have e2 : H2 D1 = some (.lst ((twL (twL ts x) x).map V.int)) := by
          rw [h2, twtw, List.map_map]
          rfl
        refine ⟨b, D1, twL (twL ts x) x, rfl, e2, bp, b8 bs, (tw_short (tw_short S0 x) x).len, fun H3 u3 t3 j3 => ?_⟩
        dsimp only [tNil]
        refine rep_one j3 SS fun w2 hw2 => ?_
        obtain rfl : w1 = w2 := hw1.trans hw2.symm
        refine ⟨rfl, _, rfl, ifN (fun k => absurd rfl k) fun _ => ?_⟩
        exact hN _ _ ⟨t2.trans t3, rfl⟩
    rintro _ H10 ⟨s10, rfl⟩
    have hvA : Bg H10 (.ref p) b ts := hv6.same (s69.trans s10)
    refine ⟨_, rfl, _, rfl, _, b, ts, x, rfl, hvA, hb, b8 bs, hx, fun I1 z1 t1 j1 => ?_⟩
    refine ⟨_, rfl, z1, _, _, y, rfl, j1, low_ok (tw_ok hb x), b8 (low_short (tw_short S0 x)).hb, hy, fun I2 z2 t2 j2 => ?_⟩
    have k2 := low_lin (lin_tw y) bp (twL ts x)
    rw [k2.1, k2.2] at j2
    dsimp only [tNil]
    refine rep_one j2 (low_short (tw_short (tw_short S0 x) y)) fun w1 hw1 => ?_
    refine ⟨_, rfl, _, rfl, _, b, ts, y, rfl, hvA.same (t1.trans t2), hb, b8 bs, hy, fun I3 z3 t3 j3 => ?_⟩
    refine ⟨_, rfl, z3, _, _, x, rfl, j3, low_ok (tw_ok hb y), b8 (low_short (tw_short S0 y)).hb, hx, fun I4 z4 t4 j4 => ?_⟩
    have k4 := low_lin (lin_tw x) bp (twL ts y)
    rw [k4.1, k4.2, tw_tw y x] at j4
    dsimp only [tNil]
    refine rep_one j4 (low_short (tw_short (tw_short S0 x) y)) fun w2 hw2 => ?_
    obtain rfl : w1 = w2 := hw1.trans hw2.symm
    refine ⟨rfl, ?_⟩
    rw [decide_eq_true rfl]
    exact q I4 (s05.trans (s6.trans (s69.trans (s10.trans (t1.trans (t2.trans (t3.trans t4)))))))
end
end Ft

set_option exponentiation.threshold 9000
namespace Ft
open PySem L2
def optS : Option Nat → Str
  | none => "None"
  | some n => toString (n : Int)
/-- repr of None or of a small integer -/
def rReprO : List V → Hp → VK → Prop := fun xs H Q => ∃ o : Option Nat, xs = [optV o] ∧ (∀ n, o = some n → n < 2 ^ 64) ∧ Q (.str (optS o)) H
theorem call_reprO {X : Cx} {k : Nat} (hr : Room k X.A) : CallR X (.builtin "repr") rReprO := by
  intro pins s σ H xs us Q I r h
  obtain ⟨o, rfl, ho, q⟩ := h
  cases o with
  | none =>
    obtain ⟨u, rfl, rx⟩ := vals1 r
    obtain rfl : u = Value.none := rx
    exact PySem.P.repr_of_none ⟨.str _, H, I.tok _, ⟨_, rfl⟩, q⟩
  | some n =>
    refine SkE.call_repr_int pins s σ H _ us Q I r ⟨(n : Int), rfl, ?_, q⟩
    have := ho n rfl
    exact Nat.lt_trans (PySem.Flt.log2_lt_of (by decide) (show ((n : Int)).natAbs < 2 ^ 64 by omega)) (by decide)
/-- where two rows part, by find? -/
theorem apartGo_find (b1 b2 : Int) (t1 t2 : List Int) : ∀ f i, apartGo b1 b2 t1 t2 f i = (List.range' i f).find? fun j => decide (¬ t1.getD j 0 * b2 = t2.getD j 0 * b1)
  | 0, _ => rfl
  | f + 1, i => by
    rw [List.range'_succ, List.find?_cons]
    show (if _ then _ else _) = _
    by_cases h : t1.getD i 0 * b2 = t2.getD i 0 * b1
    · rw [if_pos h, apartGo_find b1 b2 t1 t2 f (i + 1), decide_eq_false (fun k => k h)]
    · rw [if_neg h, decide_eq_true h]
def someL (ts : List Int) : List Nat := (List.range ts.length).filter fun n => decide (ts.getD n 0 ≠ 0)
def someO (ts : List Int) (s : Nat) : Option Nat := (someL ts).head?.map fun n => n + s
theorem lowT_getD {b : Int} (hb : 0 < b) (ts : List Int) (j : Nat) : (lowT b ts).getD j 0 = 0 ↔ ts.getD j 0 = 0 := by
  have g := gcdL_pos hb ts
  have e : ((gcdL b.natAbs ts : Nat) : Int) * (lowT b ts).getD j 0 = ts.getD j 0 := by
    have e1 := getD_mul ((gcdL b.natAbs ts : Nat) : Int) (lowT b ts) j
    rw [mul_lowT] at e1
    exact e1.symm
  constructor
  · intro h; rw [← e, h, Int.mul_zero]
  · intro h
    rw [h] at e
    rcases Int.mul_eq_zero.mp e with k | k
    · omega
    · exact k
theorem apart_zeros {b : Int} (hb : 0 < b) (ts : List Int) (s : Nat) : apart (lowB b (shfL ts s)) 1 (lowT b (shfL ts s)) (List.replicate (ts.length + s) 0) = someO ts s := by
  have l1 : (lowT b (shfL ts s)).length = s + ts.length := by unfold lowT shfL; rw [List.length_map, List.length_append, List.length_replicate]
  unfold apart
  rw [l1, List.length_replicate, show min (s + ts.length) (ts.length + s) = s + ts.length by omega, apartGo_find]
  have z : ∀ j, (List.replicate (ts.length + s) (0 : Int)).getD j 0 = 0 := fun j => by
    rw [List.getD_eq_getElem?_getD, List.getElem?_replicate]
    split <;> rfl
  have e : (fun j => decide (¬ (lowT b (shfL ts s)).getD j 0 * 1 = (List.replicate (ts.length + s) (0 : Int)).getD j 0 * lowB b (shfL ts s))) = fun j => decide ((shfL ts s).getD j 0 ≠ 0) := by
    funext j
    rw [z j, Int.mul_one, Int.zero_mul]
    exact decide_eq_decide.mpr (not_congr (lowT_getD hb _ j))
  rw [e, ← List.range'_append_1, List.find?_append]
  have f1 : (List.range' 0 s).find? (fun j => decide ((shfL ts s).getD j 0 ≠ 0)) = none := by
    rw [List.find?_eq_none]
    intro j hj
    have := (List.mem_range'_1.mp hj).2
    have e0 : (shfL ts s).getD j 0 = 0 := by
      unfold shfL
      rw [List.getD_eq_getElem?_getD, List.getElem?_append_left (by rw [List.length_replicate]; omega), List.getElem?_replicate]
      split <;> rfl
    rw [e0]
    decide
  rw [f1, Option.none_or, Nat.zero_add, show List.range' s ts.length = (List.range ts.length).map fun x => s + x from (List.range'_eq_map_range ..), List.find?_map]
  unfold someO someL
  rw [List.head?_filter]
  have e2 : (fun j => decide ((shfL ts s).getD j 0 ≠ 0)) ∘ (fun x => s + x) = fun n => decide (ts.getD n 0 ≠ 0) := by
    funext n
    show decide ((shfL ts s).getD (s + n) 0 ≠ 0) = _
    have e0 : (shfL ts s).getD (s + n) 0 = ts.getD n 0 := by
      unfold shfL
      rw [List.getD_eq_getElem?_getD, List.getElem?_append_right (by rw [List.length_replicate]; omega), List.length_replicate, show s + n - s = n by omega, ← List.getD_eq_getElem?_getD]
    rw [e0]
  rw [e2]
  congr 1
  funext n
  omega
theorem someO_lt {ts : List Int} {s n : Nat} (h : someO ts s = some n) : n < ts.length + s := by
  unfold someO at h
  cases e : (someL ts).head? with
  | none => rw [e] at h; cases h
  | some m =>
    rw [e] at h
    have hm : m ∈ someL ts := List.mem_of_mem_head? e
    unfold someL at hm
    have := List.mem_range.mp (List.mem_filter.mp hm).1
    have : m + s = n := Option.some.inj h
    omega
end Ft

set_option exponentiation.threshold 9000
namespace Ft
open PySem L2
theorem Bg.but {H H' : Hp} {d l : Addr} {v : V} {b : Int} {ts : List Int} (D : DeckAt H d l) (bt : But d l H H') (h : Bg H v b ts) : Bg H' v b ts := by
  obtain ⟨p, q, e, h1, h2⟩ := h
  obtain ⟨mx, dr, cs, d1, d2, _⟩ := D
  exact ⟨p, q, e, bt _ _ h1 (ne_of h1 d1 (by intro z; cases z)) (ne_of h1 d2 (by intro z; cases z)), bt _ _ h2 (ne_of h2 d1 (by intro z; cases z)) (ne_of h2 d2 (by intro z; cases z))⟩
theorem But.tup {H H' : Hp} {d l p : Addr} {xs : List V} (D : DeckAt H d l) (b : But d l H H') (h : H p = some (.tup xs)) : H' p = some (.tup xs) := by
  obtain ⟨mx, dr, cs, d1, d2, _⟩ := D
  exact b _ _ h (ne_of h d1 (by intro z; cases z)) (ne_of h d2 (by intro z; cases z))
def sp_law (K : PySem.W.Frag) : Sp := fun vs H Q _ => ∃ (a : Addr) (ns : List Int), vs = [.ref a] ∧ SqL K H a (ns.map V.int) ∧ ns.length ≤ 63 ∧ ∀ H', Q (.bl true) H'
section
variable {P : Program} {w : World} {K : PySem.W.Frag} {mg : Str → Option Value} {base : Heap}
set_option maxHeartbeats 0 in
theorem fn_law {f : Addr} {fd : FuncData} (F : Fun K "law" "law" s_law f fd) (B : Bi mg) (c__law_deck : Cal P w K mg base 1 "_law_deck" (sp_deck K)) (c__law_draw : Cal P w K mg base 1 "_law_draw" sp_draw) (c__law_sign : Cal P w K mg base 3 "_law_sign" sp_sign) (c__law_beginning : Cal P w K mg base 3 "_law_beginning" sp_beg) (c__law_pick : Cal P w K mg base 2 "_law_pick" (sp_pick K))
    (c_right : CalG P w K mg base 6 "_law_is_right" sp_right) (c_tog : CalG P w K mg base 6 "_law_are_together" sp_tog) (c_first_apart : Cal P w K mg base 5 "first_apart" sp_apart) (c_shifted : Cal P w K mg base 5 "shifted" (sp_deed shfL fun d => d ≤ 280))
    (VR : ∀ (z : Int) (many n : Nat), isSign z = true → many ≤ 120 → n < many → (lawVals z many).getD n 0 = valueAt z (n : Int)) :
    FnG P w K mg base 7 f fd ["_law_script"] (sp_law K) := by
  have sc := sc_law
  refine fun_g F sc (fun _ _ _ _ ⟨_, _, e, _⟩ => by rw [e]; rfl) (fun cdv A outer s H vs Q E hgd hr h => ?_)
  obtain ⟨a, ns, rfl, hS, hlen, q⟩ := h
  have h64 : (A.deeper (PyProof.Rows.envOfC "law" (defScope s_law) s.heap.objs.size f cdv)).units + 64 < cLine := by have := hr.un; omega
  refine ⟨_, (pss_cons (ps_set (i := 1) sc.nd rfl (Or.inl rfl) (pe_c c__law_deck hr (by decide) (by rfl) (pa_cons (pv 0) pa_nil)))
      (pss_cons (ps_set (i := 2) sc.nd rfl (Or.inl rfl) (pe_ifExp (pt_cmpR op_eq (pe_c c__law_draw hr (by decide) (by rfl) (pa_cons (pv 1) (pa_cons pe_int pa_nil))) pe_int (nomark _)) pe_int pe_int))
      (pss_cons (ps_for PassesOwn.never rfl (pi_range1 rfl B.range (pa_cons (pe_ifExp (pt_cmpR op_lt (pv 2) pe_int (nomark _)) pe_int pe_int) pa_nil)) (pg_name (i := 3) sc.nd rfl (Or.inl rfl))
      (pss_cons (ps_par3 (i := 4) (j := 5) (l := 6) (by rfl) sc.nd rfl rfl rfl (by decide) (by decide) (by decide) rfl rfl rfl (pa_cons (pe_c c__law_beginning hr (by decide) (by rfl) (pa_cons (pv 1) (pa_cons (pv 2) pa_nil))) (pa_cons (pe_c c__law_sign hr (by decide) (by rfl) (pa_cons (pv 1) pa_nil)) (pa_cons (pe_c c__law_sign hr (by decide) (by rfl) (pa_cons (pv 1) pa_nil)) pa_nil))) (by rfl))
        (pss_cons (ps_set (i := 7) sc.nd rfl (Or.inl rfl) (pe_c c__law_pick hr (by decide) (by rfl) (pa_cons (pv 1) (pa_cons (pe_lst (pa_cons (pe_op op_add pe_int (pe_c c__law_draw hr (by decide) (by rfl) (pa_cons (pv 1) (pa_cons pe_int pa_nil)))) (pa_cons (pe_op op_add pe_int (pe_c c__law_draw hr (by decide) (by rfl) (pa_cons (pv 1) (pa_cons (pe_op op_add (pe_callB call_len_seq (by rfl) B.len_ (by decide +kernel) (pa_cons (pe_ix (show IxR _ (rIx K) from ix_seq) (pv 4) pe_int (fun _ _ => rfl)) pa_nil)) pe_int) pa_nil)))) (pa_cons (pe_op op_pow pe_int pe_int) (pa_cons pe_int pa_nil))))) pa_nil))))
        (pss_cons (ps_set (i := 8) sc.nd rfl (Or.inl rfl) (pe_c c__law_pick hr (by decide) (by rfl) (pa_cons (pv 1) (pa_cons (pe_lst (pa_cons pe_int (pa_cons pe_int (pa_cons (pe_c c__law_draw hr (by decide) (by rfl) (pa_cons (pv 1) (pa_cons pe_int pa_nil))) (pa_cons (pe_c c__law_draw hr (by decide) (by rfl) (pa_cons (pv 1) (pa_cons pe_int pa_nil))) (pa_cons pe_int pa_nil)))))) pa_nil))))
        (pss_cons (ps_if (pt_not (pt_val (pe_g c_right hgd hr (by decide) (by rfl) (pa_cons (pv 4) (pa_cons (pv 7) (pa_cons (pv 5) (pa_cons (pv 8) (pa_cons (pe_op L2.op_odd (pv 3) pe_int) pa_nil))))))))
        (pss_one (ps_ret pe_bl))
        pss_nil)
        (pss_cons (ps_if (pt_not (pt_val (pe_g c_tog hgd hr (by decide) (by rfl) (pa_cons (pv 4) (pa_cons (pe_op op_add pe_int (pe_c c__law_draw hr (by decide) (by rfl) (pa_cons (pv 1) (pa_cons pe_int pa_nil)))) (pa_cons (pe_op op_add pe_int (pe_c c__law_draw hr (by decide) (by rfl) (pa_cons (pv 1) (pa_cons pe_int pa_nil)))) (pa_cons (pv 5) (pa_cons (pv 6) pa_nil))))))))
        (pss_one (ps_ret pe_bl))
        pss_nil)
        (pss_cons (ps_par (i := 11) (j := 12) (by rfl) sc.nd rfl rfl (by decide) rfl rfl (pa_cons (pe_tup (pa_cons pe_int (pa_cons (pe_op op_repZ (pe_tup (pa_cons pe_int pa_nil)) (pe_op op_add (pe_callB call_len_seq (by rfl) B.len_ (by decide +kernel) (pa_cons (pe_ix (show IxR _ (rIx K) from ix_seq) (pv 4) pe_int (fun _ _ => rfl)) pa_nil)) (pv 8))) pa_nil))) (pa_cons (pe_lc (own := [("_law_n", 9), ("_law_x", 10)]) (g := gTup K 2 (gCons (gName 9) (gCons (gName 10) gNil)))  (by rfl) sc.nd (pi_enumT (by rfl) B.enumerate (pa_cons (pe_ix (show IxR _ (rIx K) from ix_seq) (pv 4) pe_int (fun _ _ => rfl)) pa_nil)) (blkOk_by (own := [("_law_n", 9), ("_law_x", 10)]) (N := N_law) (sc := defScope s_law) (by decide +kernel)) (fun _ _ _ _ _ => (pg_tup rfl (pgs_cons (pg_name (i := 9) sc.nd rfl (Or.inl rfl) (Or.inr rfl)) (pgs_cons (pg_name (i := 10) sc.nd rfl (Or.inl rfl) (Or.inr rfl)) pgs_nil)))) (fun _ _ _ _ _ => (pts_one (pt_cmpR op_ne (pv 10) pe_int (nomark _)))) (fun _ _ _ _ _ => (pv 9))) pa_nil)) (by rfl))
        (pss_one (ps_if (PW.pt (pw_and (pt_cmpR op_le (pe_op op_add (pe_callB call_len_seq (by rfl) B.len_ (by decide +kernel) (pa_cons (pe_ix (show IxR _ (rIx K) from ix_seq) (pv 4) pe_int (fun _ _ => rfl)) pa_nil)) (pv 8)) pe_int (nomark _)) (pw_and1 (pt_cmpR op_ne (pe_callB (call_reprO hr) (by rfl) B.repr (by decide +kernel) (pa_cons (pe_c c_first_apart hr (by decide) (by rfl) (pa_cons (pe_c c_shifted hr (by decide) (by rfl) (pa_cons (pv 4) (pa_cons (pv 8) pa_nil))) (pa_cons (pv 11) pa_nil))) pa_nil)) (pe_callB (call_reprO hr) (by rfl) B.repr (by decide +kernel) (pa_cons (pe_ifExp (pt_cmpR (op_neD h64) (pv 12) (pe_lst pa_nil) (nomark _)) (pe_op op_add (pe_ix (show IxR _ (rIx K) from ix_seq) (pv 12) pe_int (fun _ _ => rfl)) (pv 8)) pe_non) pa_nil)) (nomark _)))))
        (pss_one (ps_ret pe_bl))
        pss_nil)))))))))
      (pss_one (ps_ret pe_bl))))), ?_⟩
  have a0 : ∀ {a c : V}, atI [a, c] 0 = some a := fun {a c} => atI_nat (j := 0) rfl
  have a1 : ∀ {a c : V}, atI [a, c] 1 = some c := fun {a c} => atI_nat (j := 1) rfl
  have b8 : ∀ {c : Nat}, c ≤ 2 ^ 140 → c < 2 ^ 8000 := fun h => Nat.lt_of_le_of_lt h (Nat.pow_lt_pow_right (by decide) (by decide))
  refine ⟨_, rfl, a, ns, rfl, hS, hlen, fun H1 d l D1 _ _ _ => ?_⟩
  dsimp only [gName]
  refine tSeq_join (fun σ H' => DeckAt H' d l ∧ ∃ many : Nat, (many = 120 ∨ many = 20) ∧ σ = [some (.ref a), some (.ref d), some (.int (many : Int)), none, none, none, none, none, none, none, none, none, none]) (fun N hN => ?_) ?_
  · refine ⟨_, rfl, d, l, _, rfl, D1, by decide, by decide, fun H2 r D2 b2 r0 r1 => ?_⟩
    refine ⟨rfl, _, rfl, ifI (fun _ => hN _ _ ⟨D2, 120, .inl rfl, rfl⟩) fun _ => hN _ _ ⟨D2, 20, .inr rfl, rfl⟩⟩
  rintro _ H2 ⟨D2, many, hm, rfl⟩
  have m1 : 1 ≤ many ∧ many ≤ 120 := by omega
  refine ⟨_, rfl, _, _, rfl, rfl, _, rfl, ?_⟩
  have K0 : ∃ o3 o4 o5 o6 o7 o8 o11 o12 : Option V, [some (.ref a), some (.ref d), some (.int (many : Int)), none, none, none, none, none, none, none, none, none, none] = [some (.ref a), some (.ref d), some (.int (many : Int)), o3, o4, o5, o6, o7, o8, none, none, o11, o12] := ⟨none, none, none, none, none, none, none, none, rfl⟩
  refine ifD (fun _ => ⟨3, rfl, by decide, by decide, for_range (lo := 0) (n := Int.toNat 3) (fun i σ H' => DeckAt H' d l ∧ ∃ o3 o4 o5 o6 o7 o8 o11 o12 : Option V, σ = [some (.ref a), some (.ref d), some (.int (many : Int)), o3, o4, o5, o6, o7, o8, none, none, o11, o12]) ⟨D2, K0⟩ ?_ ?_⟩) (fun _ => ⟨1, rfl, by decide, by decide, for_range (lo := 0) (n := Int.toNat 1) (fun i σ H' => DeckAt H' d l ∧ ∃ o3 o4 o5 o6 o7 o8 o11 o12 : Option V, σ = [some (.ref a), some (.ref d), some (.int (many : Int)), o3, o4, o5, o6, o7, o8, none, none, o11, o12]) ⟨D2, K0⟩ ?_ ?_⟩)
  rotate_left
  · rintro σ H3 _
    exact q _
  rotate_left
  · rintro σ H3 _
    exact q _
  all_goals
    rintro i σ H3 hi ⟨D3, o3, o4, o5, o6, o7, o8, o11, o12, rfl⟩
    refine ⟨_, rfl, _, rfl, d, l, many, rfl, D3, m1.1, m1.2, fun H4 v b ts D4 b4 g4 dr => ?_⟩
    refine ⟨_, rfl, d, l, rfl, D4, fun H5 z D5 b5 hz => ?_⟩
    refine ⟨_, rfl, d, l, rfl, D5, fun H6 y D6 b6 hy => ?_⟩
    refine ⟨_, _, _, rfl, ?_⟩
    obtain ⟨p, r, rfl, hp, hrt⟩ := (g4.but D4 b5).but D5 b6
    have ll : (ts.map V.int).length = ts.length := List.length_map ..
    have dl1 := dr.l1
    have dl2 := dr.l2
    have db1 := dr.b1
    have db2 := dr.b2
    have hbk : BgOk b ts := ⟨dr.b1, dr.l1, by omega⟩
    have hb140 : b.natAbs < 2 ^ 140 := by omega
    have ht140 : ∀ x ∈ ts, x.natAbs < 2 ^ 140 := fun x hx => Nat.lt_trans (dr.sm x hx) (by decide)
    have S0 : BgS b ts := ⟨hb140, ht140, by omega⟩
    refine ⟨_, rfl, _, rfl, d, l, _, rfl, D6, by decide, by decide, fun H7 r1 D7 b7 r10 r11 => ?_⟩
    have hp7 := b7.tup D6 hp
    have hrt7 := b7.tup D6 hrt
    refine ⟨_, _, rfl, rfl, _, rfl, _, rfl, .inr (.inl ⟨p, _, 1, _, rfl, rfl, SqT.of hp7, a1, r, _, rfl, .inr (SqT.of hrt7), ?_⟩)⟩
    refine ⟨_, _, rfl, rfl, d, l, _, rfl, D7, by omega, by omega, fun H8 r2 D8 b8' r20 r21 => ?_⟩
    rw [ll] at r21
    refine ⟨_, _, rfl, rfl, _, _, rfl, rfl, ⟨by decide, by decide, by decide⟩, (by show (4 : Nat) ≤ sizeLine; decide), fun pl hpl => ?_⟩
    refine ⟨d, l, pl, _, rfl, D8.same (Same.upd_new hpl), .inl ⟨upd_same, (D8.new hpl).2⟩, (by show 0 < 4; decide), (by show 4 < 2 ^ 64; decide), fun H9 v9 D9 b9 hv9 => ?_⟩
    obtain ⟨dd, rfl, dd1, dd2⟩ : ∃ dd : Nat, v9 = .int (dd : Int) ∧ 1 ≤ dd ∧ dd < 2 ^ 8000 := by
      simp only [List.mem_cons, List.not_mem_nil, or_false] at hv9
      rcases hv9 with h | h | h | h
      · exact ⟨(1 + r1).toNat, by rw [h]; congr 1; omega, by omega, b8 (Nat.le_trans (by omega : _ ≤ 2 ^ 10) (by decide))⟩
      · exact ⟨(1 + r2).toNat, by rw [h]; congr 1; omega, by omega, b8 (Nat.le_trans (by omega : _ ≤ 2 ^ 10) (by decide))⟩
      · exact ⟨10 ^ 39, by rw [h]; rfl, by decide, b8 (by decide)⟩
      · exact ⟨1, h, by decide, b8 (by decide)⟩
    have hp9 := b9.tup (D8.same (Same.upd_new hpl)) ((Same.upd_new hpl) _ _ (b8'.tup D7 hp7))
    have hrt9 := b9.tup (D8.same (Same.upd_new hpl)) ((Same.upd_new hpl) _ _ (b8'.tup D7 hrt7))
    dsimp only [gName]
    refine ⟨_, rfl, _, rfl, d, l, _, rfl, D9, by decide, by decide, fun H10 s1 D10 b10 s10 s11 => ?_⟩
    refine ⟨_, rfl, d, l, _, rfl, D10, by decide, by decide, fun H11 s2 D11 b11 s20 s21 => ?_⟩
    refine ⟨(by show (5 : Nat) ≤ sizeLine; decide), fun pm hpm => ?_⟩
    refine ⟨d, l, pm, _, rfl, D11.same (Same.upd_new hpm), .inl ⟨upd_same, (D11.new hpm).2⟩, (by show 0 < 5; decide), (by show 5 < 2 ^ 64; decide), fun H12 v12 D12 b12 hv12 => ?_⟩
    obtain ⟨ss, rfl, ss1⟩ : ∃ ss : Nat, v12 = .int (ss : Int) ∧ ss ≤ 280 := by
      simp only [List.mem_cons, List.not_mem_nil, or_false] at hv12
      rcases hv12 with h | h | h | h | h
      · exact ⟨0, h, by decide⟩
      · exact ⟨1, h, by decide⟩
      · exact ⟨s1.toNat, by rw [h]; congr 1; omega, by omega⟩
      · exact ⟨s2.toNat, by rw [h]; congr 1; omega, by omega⟩
      · exact ⟨280, h, by decide⟩
    have hp12 := b12.tup (D11.same (Same.upd_new hpm)) ((Same.upd_new hpm) _ _ (b11.tup D10 (b10.tup D9 hp9)))
    have hrt12 := b12.tup (D11.same (Same.upd_new hpm)) ((Same.upd_new hpm) _ _ (b11.tup D10 (b10.tup D9 hrt9)))
    have hv12 : Bg H12 (.ref p) b ts := ⟨p, r, rfl, hp12, hrt12⟩
    dsimp only [gName]
    -- right
    refine ⟨_, rfl, _, rfl, _, rfl, _, rfl, _, rfl, i, congrArg V.int (Int.zero_add _), rfl, ?_⟩
    refine ⟨.ref p, b, ts, dd, z, ss, i % 2, rfl, hv12, hbk, hb140, ht140, dd1, dd2, hz, ss1, fun n hn => VR z _ n hz (by omega) hn, fun H13 s13 => ?_⟩
    refine ⟨_, rfl, iteF ?_⟩
    dsimp only [tNext]
    have D13 := D12.same s13
    have hp13 := s13 _ _ hp12
    have hrt13 := s13 _ _ hrt12
    -- together
    refine ⟨_, rfl, _, rfl, d, l, _, rfl, D13, by decide, by decide, fun H14 e1 D14 b14 e10 e11 => ?_⟩
    refine ⟨_, _, rfl, rfl, _, rfl, d, l, _, rfl, D14, by decide, by decide, fun H15 e2 D15 b15 e20 e21 => ?_⟩
    refine ⟨_, _, rfl, rfl, _, rfl, _, rfl, ?_⟩
    obtain ⟨E1, hE1, hE11, hE12⟩ : ∃ E : Nat, 1 + e1 = (E : Int) ∧ 1 ≤ E ∧ E ≤ 4 := ⟨(1 + e1).toNat, by omega, by omega, by omega⟩
    obtain ⟨E2, hE2, hE21, hE22⟩ : ∃ E : Nat, 1 + e2 = (E : Int) ∧ 1 ≤ E ∧ E ≤ 4 := ⟨(1 + e2).toNat, by omega, by omega, by omega⟩
    have hp15 := b15.tup D14 (b14.tup D13 hp13)
    have hrt15 := b15.tup D14 (b14.tup D13 hrt13)
    refine ⟨.ref p, b, ts, E1, E2, z, y, ?_, ⟨p, r, rfl, hp15, hrt15⟩, hbk, hb140, ht140, hE11, hE12, hE21, hE22, hz, hy, fun n hn => VR z _ n hz (by omega) hn, fun H16 s16 => ?_⟩
    · show [V.ref p, V.int (1 + e1), V.int (1 + e2), V.int z, V.int y] = _
      rw [hE1, hE2]
    refine ⟨_, rfl, iteF ?_⟩
    dsimp only [tNext]
    have D16 := D15.same s16
    have hp16 := s16 _ _ hp15
    have hrt16 := s16 _ _ hrt15
    -- zeros
    refine ⟨(by show (1 : Nat) ≤ sizeLine; decide), fun pz hpz => ?_⟩
    have t1 : Same H16 (upd H16 pz (.tup [V.int 0])) := Same.upd_new hpz
    have hz1 : (upd H16 pz (.tup [V.int 0])) pz = some (.tup [V.int 0]) := upd_same
    generalize hH17 : upd H16 pz (.tup [V.int 0]) = H17 at t1 hz1
    have hp17 := t1 _ _ hp16
    have hrt17 := t1 _ _ hrt16
    refine ⟨_, rfl, .inr (.inl ⟨p, _, 1, _, rfl, rfl, SqT.of hp17, a1, r, _, rfl, .inr (SqT.of hrt17), _, rfl, _, _, rfl, rfl, ?_⟩)⟩
    have eK : (((ts.map V.int).length : Nat) : Int) + (ss : Int) = ((ts.length + ss : Nat) : Int) := by rw [ll]; omega
    dsimp only
    rw [eK]
    refine repZ_all hz1 (by omega) fun H18 pq s18 hq18 => ?_
    refine ⟨(by show (2 : Nat) ≤ sizeLine; decide), fun pt hpt => ?_⟩
    have t2 : Same H18 (upd H18 pt (.tup [V.int 1, .ref pq])) := Same.upd_new hpt
    have hpt2 : (upd H18 pt (.tup [V.int 1, .ref pq])) pt = some (.tup [V.int 1, .ref pq]) := upd_same
    generalize hH19 : upd H18 pt (.tup [V.int 1, .ref pq]) = H19 at t2 hpt2
    have s19 : Same H17 H19 := s18.trans t2
    have hzer : Bg H19 (.ref pt) 1 (List.replicate (ts.length + ss) 0) := ⟨pt, pq, rfl, hpt2, by rw [t2 _ _ hq18, List.map_replicate]⟩
    have hp19 := s19 _ _ hp17
    have hrt19 := s19 _ _ hrt17
    refine ⟨_, rfl, .inr (.inl ⟨p, _, 1, _, rfl, rfl, SqT.of hp19, a1, r, _, rfl, SqT.of hrt19, fun Dc hDc => ?_⟩)⟩
    refine lc_it (walk_enumT (xs := ts.map V.int)) (fun i H' => Same H19 H' ∧ H' Dc = some (.lst (((List.range i).filter fun n => decide (ts.getD n 0 ≠ 0)).map fun n : Nat => V.int (n : Int)))) ⟨Same.upd_new hDc, upd_same⟩ (fun i H' _ ⟨s2, _⟩ => SqT.of (s2 _ _ hrt19)) ?_ ?_
    · rintro i x H20 H21 hi ⟨s20, h20⟩ ⟨T, u, y, rfl, hT, rfl, hu, hy⟩
      rw [ll] at hi
      obtain rfl : u = V.int (i : Nat) := (Option.some.inj hu).symm
      obtain rfl : y = V.int (ts.getD i 0) := Option.some.inj (hy.symm.trans (getD_at hi))
      have s3 : Same H20 (upd H20 T (.tup [V.int (i : Nat), V.int (ts.getD i 0)])) := Same.upd_new hT
      refine ⟨T, _, rfl, SqT.of upd_same, rfl, ?_⟩
      refine ⟨_, _, rfl, _, _, rfl, rfl, rfl, ?_⟩
      refine ⟨_, rfl, rfl, _, rfl, ifNI (fun e => ?_) fun e => ?_⟩
      · refine ⟨_, rfl, _, s3 _ _ h20, ?_, fun b o e => ?_, ?_⟩
        · rw [List.length_map]
          exact Nat.lt_of_le_of_lt (Nat.le_trans (filter_len _ _) (by omega : i ≤ 400)) (by decide)
        · rw [upd_ne (ne_of_none e hDc)]
          exact s3 _ _ (s20 _ _ e)
        · rw [upd_same, filter_succ, if_pos (decide_eq_true e), List.map_append]
          rfl
      · refine ⟨s20.trans s3, ?_⟩
        rw [s3 _ _ h20, filter_succ, if_neg (by rw [e]; decide), List.append_nil]
    · rintro H20 ⟨s20, h20⟩
      rw [ll] at h20
      have s1620 := s19.trans s20
      have D20 := D16.same (t1.trans s1620)
      have hp20 := s1620 _ _ hp17
      have hrt20 := s1620 _ _ hrt17
      have hzer20 := hzer.same s20
      have hs20 : H20 Dc = some (.lst ((someL ts).map fun n : Nat => V.int (n : Int))) := h20
      refine ⟨_, _, rfl, ?_⟩
      refine ⟨_, rfl, .inr (.inl ⟨p, _, 1, _, rfl, rfl, SqT.of hp20, a1, r, _, rfl, .inr (SqT.of hrt20), _, rfl, _, _, rfl, rfl, ?_⟩)⟩
      refine ⟨_, _, rfl, rfl, _, rfl, ifD (fun _ => ?_) fun _ => ?_⟩
      · have SH := shf_short S0 (s := ss) (by omega)
        have SL := low_short SH
        have lsh : (shfL ts ss).length = ss + ts.length := by unfold shfL; rw [List.length_append, List.length_replicate]
        have okS : BgOk (lowB b (shfL ts ss)) (lowT b (shfL ts ss)) := low_ok ⟨dr.b1, by omega, by omega⟩
        have w8 : ∀ {x : Int}, x.natAbs < 2 ^ 140 → x.natAbs < 2 ^ 8000 := fun h => Nat.lt_trans h (Nat.pow_lt_pow_right (by decide) (by decide))
        refine ⟨_, rfl, _, rfl, .ref p, b, ts, ss, rfl, ⟨p, r, rfl, hp20, hrt20⟩, hbk, w8 hb140, ss1, fun H21 u s21 g21 => ?_⟩
        refine ⟨_, rfl, u, .ref pt, _, 1, _, _, rfl, g21, hzer20.same s21, okS, ⟨by decide, by rw [List.length_replicate]; omega, by rw [List.length_replicate]; omega⟩, w8 SL.hb, w8 (by decide), fun x hx => w8 (SL.hts x hx), fun x hx => by rw [List.eq_of_mem_replicate hx]; exact w8 (by decide), fun H22 s22 => ?_⟩
        rw [apart_zeros (by omega) ts ss]
        refine ⟨someO ts ss, rfl, fun n hn => Nat.lt_of_lt_of_le (someO_lt hn) (Nat.le_trans (by omega : ts.length + ss ≤ 2 ^ 10) (by decide)), ?_⟩
        have hs22 : H22 Dc = some (.lst (((someL ts).map fun n : Nat => (n : Int)).map V.int)) := by rw [s22 _ _ (s21 _ _ hs20), List.map_map]; rfl
        refine ⟨_, rfl, Nat.zero_le _, fun p2 hp2 => ?_⟩
        have s23 : Same H22 (upd H22 p2 (.lst [])) := Same.upd_new hp2
        refine ⟨_, _, .lst (SqL.of (s23 _ _ hs22)) (dp_ints _), .lst (SqL.of upd_same) .nil, ?_, by decide, _, rfl, ?_⟩
        · exact shaped_ints _
        rw [eqv_nil]
        have lso : ∀ n, someO ts ss = some n → n < 2 ^ 64 := fun n hn => Nat.lt_of_lt_of_le (someO_lt hn) (Nat.le_trans (by omega : ts.length + ss ≤ 2 ^ 10) (by decide))
        cases hso : someL ts with
        | nil =>
          have hO : someO ts ss = none := by unfold someO; rw [hso]; rfl
          rw [hO]
          refine iteF ⟨none, rfl, fun n h => (by cases h), ?_⟩
          refine ⟨rfl, _, rfl, ifN (fun k => absurd rfl k) fun _ => ?_⟩
          exact ⟨D20.same (s21.trans (s22.trans s23)), _, _, _, _, _, _, _, _, rfl⟩
        | cons m rest =>
          have hO : someO ts ss = some (m + ss) := by unfold someO; rw [hso]; rfl
          rw [hO] at lso ⊢
          have hg : ((((m :: rest : List Nat).map fun n : Nat => (n : Int)).map V.int))[0]? = some (V.int (m : Int)) := rfl
          rw [hso] at hs22
          refine iteT ⟨_, rfl, .inl ⟨Dc, _, _, _, rfl, rfl, SqL.of (s23 _ _ hs22), atI_nat (j := 0) hg, _, rfl, _, _, rfl, rfl, some (m + ss), rfl, lso, ?_⟩⟩
          refine ⟨rfl, _, rfl, ifN (fun k => absurd rfl k) fun _ => ?_⟩
          exact ⟨D20.same (s21.trans (s22.trans s23)), _, _, _, _, _, _, _, _, rfl⟩
      · exact ⟨D20, _, _, _, _, _, _, _, _, rfl⟩
end
end Ft

set_option exponentiation.threshold 9000
namespace Ft
open PySem L2
theorem df_mk {K : PySem.W.Frag} {h : Heap} {mg : Str → Option Value} {x : Str} {st : Stmt} {ps : List Str} {f : Addr} {oc kV doc pm cdv ct : Value} {od an : Option Addr} {osl : Array (Option Value)} (X : K.In h) (G : h.Ns mainGlobals mg)
    (a : PySem.W.nsIn K mainGlobals x = some (some (.ref f))) (l : K.lookup f = some ⟨oc, od, .func (PySem.W.fnOf x x (defArgs st) (defBody st) (defScope st) .none kV doc pm an cdv ct), osl⟩) (c : PySem.W.codeIn K cdv x = true) (k : PySem.W.keepIn K (.ref f) = true)
    (hb : ∀ (kV doc pm : Value) (an : Option Addr) (cdv ct : Value) (us : List Value), us.length = ps.length → bindArgs (PySem.W.fnOf x x (defArgs st) (defBody st) (defScope st) .none kV doc pm an cdv ct) ⟨us, []⟩ = pure (ps.zip us)) : Df K mg x st ps :=
  have F := fun_mk (st := st) l c k
  ⟨f, _, F, PySem.W.mg_of X G a, F.binds hb⟩
theorem b1 {x : Str} {st : Stmt} {p0 : Str} (h : ∀ (kV doc pm : Value) (an : Option Addr) (cdv ct u0 : Value), bindArgs (PySem.W.fnOf x x (defArgs st) (defBody st) (defScope st) .none kV doc pm an cdv ct) ⟨[u0], []⟩ = pure [(p0, u0)]) :
    ∀ (kV doc pm : Value) (an : Option Addr) (cdv ct : Value) (us : List Value), us.length = [p0].length → bindArgs (PySem.W.fnOf x x (defArgs st) (defBody st) (defScope st) .none kV doc pm an cdv ct) ⟨us, []⟩ = pure ([p0].zip us) :=
  fun kV doc pm an cdv ct us hl => match us, hl with | [u0], _ => h kV doc pm an cdv ct u0
theorem b2 {x : Str} {st : Stmt} {p0 p1 : Str} (h : ∀ (kV doc pm : Value) (an : Option Addr) (cdv ct u0 u1 : Value), bindArgs (PySem.W.fnOf x x (defArgs st) (defBody st) (defScope st) .none kV doc pm an cdv ct) ⟨[u0, u1], []⟩ = pure [(p0, u0), (p1, u1)]) :
    ∀ (kV doc pm : Value) (an : Option Addr) (cdv ct : Value) (us : List Value), us.length = [p0, p1].length → bindArgs (PySem.W.fnOf x x (defArgs st) (defBody st) (defScope st) .none kV doc pm an cdv ct) ⟨us, []⟩ = pure ([p0, p1].zip us) :=
  fun kV doc pm an cdv ct us hl => match us, hl with | [u0, u1], _ => h kV doc pm an cdv ct u0 u1
theorem b3 {x : Str} {st : Stmt} {p0 p1 p2 : Str} (h : ∀ (kV doc pm : Value) (an : Option Addr) (cdv ct u0 u1 u2 : Value), bindArgs (PySem.W.fnOf x x (defArgs st) (defBody st) (defScope st) .none kV doc pm an cdv ct) ⟨[u0, u1, u2], []⟩ = pure [(p0, u0), (p1, u1), (p2, u2)]) :
    ∀ (kV doc pm : Value) (an : Option Addr) (cdv ct : Value) (us : List Value), us.length = [p0, p1, p2].length → bindArgs (PySem.W.fnOf x x (defArgs st) (defBody st) (defScope st) .none kV doc pm an cdv ct) ⟨us, []⟩ = pure ([p0, p1, p2].zip us) :=
  fun kV doc pm an cdv ct us hl => match us, hl with | [u0, u1, u2], _ => h kV doc pm an cdv ct u0 u1 u2
theorem b5 {x : Str} {st : Stmt} {p0 p1 p2 p3 p4 : Str} (h : ∀ (kV doc pm : Value) (an : Option Addr) (cdv ct u0 u1 u2 u3 u4 : Value), bindArgs (PySem.W.fnOf x x (defArgs st) (defBody st) (defScope st) .none kV doc pm an cdv ct) ⟨[u0, u1, u2, u3, u4], []⟩ = pure [(p0, u0), (p1, u1), (p2, u2), (p3, u3), (p4, u4)]) :
    ∀ (kV doc pm : Value) (an : Option Addr) (cdv ct : Value) (us : List Value), us.length = [p0, p1, p2, p3, p4].length → bindArgs (PySem.W.fnOf x x (defArgs st) (defBody st) (defScope st) .none kV doc pm an cdv ct) ⟨us, []⟩ = pure ([p0, p1, p2, p3, p4].zip us) :=
  fun kV doc pm an cdv ct us hl => match us, hl with | [u0, u1, u2, u3, u4], _ => h kV doc pm an cdv ct u0 u1 u2 u3 u4
/-- the defs of the text, as the top has left them -/
structure Dfs (K : PySem.W.Frag) (mg : Str → Option Value) : Prop where
  is_integer : Df K mg "is_integer" s_is_integer ["thing"]
  is_from : Df K mg "is_from" s_is_from ["thing", "least"]
  is_between : Df K mg "is_between" s_is_between ["thing", "least", "most"]
  check_from : Df K mg "check_from" s_check_from ["thing", "least"]
  check_between : Df K mg "check_between" s_check_between ["thing", "least", "most"]
  is_sign : Df K mg "is_sign" s_is_sign ["thing"]
  check_sign : Df K mg "check_sign" s_check_sign ["sign"]
  value_at : Df K mg "value_at" s_value_at ["sign", "n"]
  value_at_two : Df K mg "value_at_two" s_value_at_two ["sign"]
  value_at_odd : Df K mg "value_at_odd" s_value_at_odd ["top", "bottom"]
  any_sign_of : Df K mg "any_sign_of" s_any_sign_of ["m"]
  without_squares : Df K mg "without_squares" s_without_squares ["m"]
  is_beginning : Df K mg "is_beginning" s_is_beginning ["thing"]
  check_beginning : Df K mg "check_beginning" s_check_beginning ["beginning"]
  lowered : Df K mg "lowered" s_lowered ["bottom", "tops"]
  spread : Df K mg "spread" s_spread ["beginning", "d"]
  every : Df K mg "every" s_every ["beginning", "d"]
  twisted : Df K mg "twisted" s_twisted ["beginning", "sign"]
  shifted : Df K mg "shifted" s_shifted ["beginning", "s"]
  first_apart : Df K mg "first_apart" s_first_apart ["one", "other"]
  ldeck : Df K mg "_law_deck" s__law_deck ["_law_script"]
  ldraw : Df K mg "_law_draw" s__law_draw ["_law_deck_here", "_law_many"]
  lpick : Df K mg "_law_pick" s__law_pick ["_law_deck_here", "_law_some"]
  lbeginning : Df K mg "_law_beginning" s__law_beginning ["_law_deck_here", "_law_many"]
  lis_sign : Df K mg "_law_is_sign" s__law_is_sign ["_law_number"]
  lsign : Df K mg "_law_sign" s__law_sign ["_law_deck_here"]
  lat_prime : Df K mg "_law_at_prime" s__law_at_prime ["_law_sign_here", "_law_p"]
  lvalues : Df K mg "_law_values" s__law_values ["_law_sign_here", "_law_many"]
  lreduced : Df K mg "_law_reduced" s__law_reduced ["_law_bottom", "_law_tops"]
  lspread : Df K mg "_law_spread" s__law_spread ["_law_one", "_law_d"]
  levery : Df K mg "_law_every" s__law_every ["_law_one", "_law_d"]
  ltwisted : Df K mg "_law_twisted" s__law_twisted ["_law_one", "_law_sign_here"]
  lis_right : Df K mg "_law_is_right" s__law_is_right ["_law_one", "_law_d", "_law_sign_here", "_law_s", "_law_way"]
  lare_together : Df K mg "_law_are_together" s__law_are_together ["_law_one", "_law_d", "_law_e", "_law_first", "_law_second"]
  law : Df K mg "law" s_law ["_law_script"]
theorem law_all {P : Program} {w : World} {K : PySem.W.Frag} {mg : Str → Option Value} {base : Heap} {f : Addr} {fd : FuncData}  (D : Dfs K mg) (B : Bi mg) (F : Fun K "law" "law" s_law f fd) : FnG P w K mg base 7 f fd ["_law_script"] (sp_law K) := by
  have c_int : Cal P w K mg base _ "is_integer" _ := ok_is_integer D.is_integer B
  have c_from : Cal P w K mg base _ "is_from" _ := ok_is_from D.is_from c_int
  have c_btw : Cal P w K mg base _ "is_between" _ := ok_is_between D.is_between c_int
  have c_cf : Cal P w K mg base _ "check_from" _ := ok_check_from D.check_from c_from
  have c_cb : Cal P w K mg base _ "check_between" _ := ok_check_between D.check_between c_btw
  have c_wo : Cal P w K mg base _ "without_squares" _ := ok_without_squares D.without_squares B
  have c_any : Cal P w K mg base _ "any_sign_of" _ := ok_any_sign_of D.any_sign_of c_wo
  have c_is : Cal P w K mg base _ "is_sign" _ := ok_is_sign D.is_sign c_any c_btw
  have c_cs : Cal P w K mg base _ "check_sign" _ := ok_check_sign D.check_sign c_is
  have c_two : Cal P w K mg base _ "value_at_two" _ := ok_value_at_two D.value_at_two
  have c_odd : Cal P w K mg base _ "value_at_odd" _ := ok_value_at_odd D.value_at_odd
  have c_va : Cal P w K mg base _ "value_at" _ := ok_value_at D.value_at B c_two c_odd
  have c_ib : Cal P w K mg base _ "is_beginning" _ := ok_is_beginning D.is_beginning B c_from c_int
  have c_cg : Cal P w K mg base _ "check_beginning" _ := ok_check_beginning D.check_beginning c_ib
  have c_lo : Cal P w K mg base _ "lowered" _ := ok_lowered D.lowered B
  have c_spr : Cal P w K mg base 5 "spread" (sp_deed sprL fun d => 1 ≤ d ∧ d < 2 ^ 8000) := by
    obtain ⟨f, fd, F, m, b⟩ := D.spread.ex
    exact ⟨f, fd, _, fn_spread F B c_cg c_cf c_lo, m, F.kp, b⟩
  have k_spr : CalK P w K mg base 5 "spread" ["d", "beginning"] swapV (sp_deed sprL fun d => 1 ≤ d ∧ d < 2 ^ 8000) := by
    obtain ⟨f, fd, F, m, b⟩ := D.spread.ex
    exact ⟨f, fd, _, _, fn_spread F B c_cg c_cf c_lo, m, F.kp, kb_spread F⟩
  have c_eve : Cal P w K mg base 5 "every" (sp_deed eveL fun d => 1 ≤ d) := by
    obtain ⟨f, fd, F, m, b⟩ := D.every.ex
    exact ⟨f, fd, _, fn_every F B c_cg c_cf c_lo, m, F.kp, b⟩
  have k_eve : CalK P w K mg base 5 "every" ["d", "beginning"] swapV (sp_deed eveL fun d => 1 ≤ d) := by
    obtain ⟨f, fd, F, m, b⟩ := D.every.ex
    exact ⟨f, fd, _, _, fn_every F B c_cg c_cf c_lo, m, F.kp, kb_every F⟩
  have c_tw : Cal P w K mg base 5 "twisted" sp_twist := by
    obtain ⟨f, fd, F, m, b⟩ := D.twisted.ex
    exact ⟨f, fd, _, fn_twisted F B c_cg c_cs c_lo c_va, m, F.kp, b⟩
  have k_tw : CalK P w K mg base 5 "twisted" ["sign", "beginning"] swapV sp_twist := by
    obtain ⟨f, fd, F, m, b⟩ := D.twisted.ex
    exact ⟨f, fd, _, _, fn_twisted F B c_cg c_cs c_lo c_va, m, F.kp, kb_twisted F⟩
  have c_shf : Cal P w K mg base 5 "shifted" (sp_deed shfL fun d => d ≤ 280) := by
    obtain ⟨f, fd, F, m, b⟩ := D.shifted.ex
    exact ⟨f, fd, _, fn_shifted F B c_cg c_cb c_lo, m, F.kp, b⟩
  have k_shf : CalK P w K mg base 5 "shifted" ["s", "beginning"] swapV (sp_deed shfL fun d => d ≤ 280) := by
    obtain ⟨f, fd, F, m, b⟩ := D.shifted.ex
    exact ⟨f, fd, _, _, fn_shifted F B c_cg c_cb c_lo, m, F.kp, kb_shifted F⟩
  have c_ap : Cal P w K mg base _ "first_apart" _ := ok_first_apart D.first_apart B c_cg
  have c_draw : Cal P w K mg base _ "_law_draw" _ := ok_draw D.ldraw B
  have c_pick : Cal P w K mg base _ "_law_pick" _ := ok_pick D.lpick B c_draw
  have c_deck : Cal P w K mg base _ "_law_deck" _ := ok_deck D.ldeck B
  have c_ls : Cal P w K mg base _ "_law_is_sign" _ := ok_lawSign D.lis_sign B
  have c_sgn : Cal P w K mg base _ "_law_sign" _ := ok_sign D.lsign B c_draw c_pick c_ls
  have c_beg : Cal P w K mg base _ "_law_beginning" _ := ok_beg D.lbeginning B c_draw c_pick
  have c_pr : Cal P w K mg base _ "_law_at_prime" _ := ok_prime D.lat_prime B
  have c_vals : Cal P w K mg base _ "_law_values" _ := ok_vals D.lvalues B c_pr
  have c_red : Cal P w K mg base _ "_law_reduced" _ := ok_reduced D.lreduced B
  have c_redT : Cal P w K mg base _ "_law_reduced" _ := ok_reducedT D.lreduced B
  have c_lspr : Cal P w K mg base _ "_law_spread" _ := ok_lspread D.lspread B c_red
  have c_leve : Cal P w K mg base _ "_law_every" _ := ok_levery D.levery B c_red
  have c_ltw : Cal P w K mg base _ "_law_twisted" _ := ok_ltwisted D.ltwisted B c_red c_vals
  have c_right : CalG P w K mg base 6 "_law_is_right" sp_right := by
    obtain ⟨f, fd, F, m, b⟩ := D.lis_right.ex
    exact ⟨f, fd, _, fn_right F B c_redT c_lspr c_leve c_ltw c_spr c_eve c_tw c_shf k_spr k_eve k_tw k_shf, m, F.kp, b⟩
  have c_tog : CalG P w K mg base 6 "_law_are_together" sp_tog := by
    obtain ⟨f, fd, F, m, b⟩ := D.lare_together.ex
    exact ⟨f, fd, _, fn_tog F B c_redT c_red c_vals c_spr c_eve c_tw, m, F.kp, b⟩
  exact fn_law F B c_deck c_draw c_sgn c_beg c_pick c_right c_tog c_ap c_shf fun z many n hs hm hn => vals_right hs hm hn
theorem walk {l : PySem.W.OpenLaw} {q : Program} {loose : List Str} {XP : (Str → Option Value) → Heap → Prop} {YP : World → Heap → Prop} {d : DefRec} {K : Params → PySem.W.Frag} (hn : l.most = some 63) (hdf : d.params.defaults = [])
    (hY : ∀ (w : World) (h : Heap), YP w h → (K w.params).In h)
    (F : ∀ (w : World) (mg : Str → Option Value) (fa : Addr) (h : Heap), (K w.params).In h → h.Ns mainGlobals mg → mg d.name = some (.ref fa) →
      ∃ fd : FuncData, (∀ (s : Shared) (u : Value), BindsTo s fd ⟨[u], []⟩ [("_law_script", u)]) ∧ ∀ base : Heap, (K w.params).In base → base.Ns mainGlobals mg → FnG l.prog w (K w.params) mg base 7 fa fd ["_law_script"] (sp_law (K w.params))) :
    PySem.W.WalkO q loose XP YP l.row.toRowW d [] (fun f vs => PySem.call f vs) :=
  walk_g (n := 63) (k := 7) (x := "_law_script") (sp := sp_law) hn (by decide) hdf ⟨rfl, by decide, by decide⟩ hY F (fun _ _ a ns hl hS => ⟨a, ns, rfl, hS, hl, fun _ => rfl⟩)
theorem law_at {l : PySem.W.OpenLaw} {w : World} {K : PySem.W.Frag} {mg : Str → Option Value} {h : Heap} {fa f : Addr} {oc kV doc pm cdv ct : Value} {od an : Option Addr} {osl : Array (Option Value)}  (X : K.In h) (G : h.Ns mainGlobals mg) (hfa : mg "law" = some (.ref fa))
    (a : PySem.W.nsIn K mainGlobals "law" = some (some (.ref f))) (lk : K.lookup f = some ⟨oc, od, .func (PySem.W.fnOf "law" "law" (defArgs s_law) (defBody s_law) (defScope s_law) .none kV doc pm an cdv ct), osl⟩) (c : PySem.W.codeIn K cdv "law" = true) (k : PySem.W.keepIn K (.ref f) = true)
    (D : Dfs K mg) (B : Bi mg) :
    ∃ fd : FuncData, (∀ (s : Shared) (u : Value), BindsTo s fd ⟨[u], []⟩ [("_law_script", u)]) ∧ ∀ base : Heap, K.In base → base.Ns mainGlobals mg → FnG l.prog w K mg base 7 fa fd ["_law_script"] (sp_law K) := by
  have e := hfa.symm.trans (PySem.W.mg_of X G a)
  cases e
  exact ⟨_, fun s u => .of_eq rfl, fun base _ _ => law_all  D B (fun_mk (st := s_law) lk c k)⟩
end Ft

open PySem PySem.W PyProof.Rows in
set_option maxRecDepth 100000 in
set_option maxHeartbeats 0 in
theorem PySem.Challenge.cw_firstterms_k12_spread_cut_twisted_and_sh_holds : PySem.Challenge.rw_firstterms_k12_spread_cut_twisted_and_sh.Holds := by
  w_on; o_law; k_head; (case hw => w_witness2)
  k_fill
  refine Ft.walk (l := PySem.Challenge.rw_firstterms_k12_spread_cut_twisted_and_sh) rfl rfl (fun w h Y => PySem.W.kIn_of Y) ?F
  case F =>
    intro w mg fa h KX G hmg
    refine' Ft.law_at  KX G hmg ?a ?lk ?c ?k ?D ?B
    (case a => k_is); (case lk => k_is); (case c => k_is); (case k => k_is)
    case D =>
      refine ⟨?d0, ?d1, ?d2, ?d3, ?d4, ?d5, ?d6, ?d7, ?d8, ?d9, ?d10, ?d11, ?d12, ?d13, ?d14, ?d15, ?d16, ?d17, ?d18, ?d19, ?d20, ?d21, ?d22, ?d23, ?d24, ?d25, ?d26, ?d27, ?d28, ?d29, ?d30, ?d31, ?d32, ?d33, ?d34⟩
      (case d0 => refine' Ft.df_mk KX G ?a0 ?l0 ?c0 ?k0 (Ft.b1 fun _ _ _ _ _ _ _ => rfl); (case a0 => k_is); (case l0 => k_is); (case c0 => k_is); (case k0 => k_is))
      (case d1 => refine' Ft.df_mk KX G ?a1 ?l1 ?c1 ?k1 (Ft.b2 fun _ _ _ _ _ _ _ _ => rfl); (case a1 => k_is); (case l1 => k_is); (case c1 => k_is); (case k1 => k_is))
      (case d2 => refine' Ft.df_mk KX G ?a2 ?l2 ?c2 ?k2 (Ft.b3 fun _ _ _ _ _ _ _ _ _ => rfl); (case a2 => k_is); (case l2 => k_is); (case c2 => k_is); (case k2 => k_is))
      (case d3 => refine' Ft.df_mk KX G ?a3 ?l3 ?c3 ?k3 (Ft.b2 fun _ _ _ _ _ _ _ _ => rfl); (case a3 => k_is); (case l3 => k_is); (case c3 => k_is); (case k3 => k_is))
      (case d4 => refine' Ft.df_mk KX G ?a4 ?l4 ?c4 ?k4 (Ft.b3 fun _ _ _ _ _ _ _ _ _ => rfl); (case a4 => k_is); (case l4 => k_is); (case c4 => k_is); (case k4 => k_is))
      (case d5 => refine' Ft.df_mk KX G ?a5 ?l5 ?c5 ?k5 (Ft.b1 fun _ _ _ _ _ _ _ => rfl); (case a5 => k_is); (case l5 => k_is); (case c5 => k_is); (case k5 => k_is))
      (case d6 => refine' Ft.df_mk KX G ?a6 ?l6 ?c6 ?k6 (Ft.b1 fun _ _ _ _ _ _ _ => rfl); (case a6 => k_is); (case l6 => k_is); (case c6 => k_is); (case k6 => k_is))
      (case d7 => refine' Ft.df_mk KX G ?a7 ?l7 ?c7 ?k7 (Ft.b2 fun _ _ _ _ _ _ _ _ => rfl); (case a7 => k_is); (case l7 => k_is); (case c7 => k_is); (case k7 => k_is))
      (case d8 => refine' Ft.df_mk KX G ?a8 ?l8 ?c8 ?k8 (Ft.b1 fun _ _ _ _ _ _ _ => rfl); (case a8 => k_is); (case l8 => k_is); (case c8 => k_is); (case k8 => k_is))
      (case d9 => refine' Ft.df_mk KX G ?a9 ?l9 ?c9 ?k9 (Ft.b2 fun _ _ _ _ _ _ _ _ => rfl); (case a9 => k_is); (case l9 => k_is); (case c9 => k_is); (case k9 => k_is))
      (case d10 => refine' Ft.df_mk KX G ?a10 ?l10 ?c10 ?k10 (Ft.b1 fun _ _ _ _ _ _ _ => rfl); (case a10 => k_is); (case l10 => k_is); (case c10 => k_is); (case k10 => k_is))
      (case d11 => refine' Ft.df_mk KX G ?a11 ?l11 ?c11 ?k11 (Ft.b1 fun _ _ _ _ _ _ _ => rfl); (case a11 => k_is); (case l11 => k_is); (case c11 => k_is); (case k11 => k_is))
      (case d12 => refine' Ft.df_mk KX G ?a12 ?l12 ?c12 ?k12 (Ft.b1 fun _ _ _ _ _ _ _ => rfl); (case a12 => k_is); (case l12 => k_is); (case c12 => k_is); (case k12 => k_is))
      (case d13 => refine' Ft.df_mk KX G ?a13 ?l13 ?c13 ?k13 (Ft.b1 fun _ _ _ _ _ _ _ => rfl); (case a13 => k_is); (case l13 => k_is); (case c13 => k_is); (case k13 => k_is))
      (case d14 => refine' Ft.df_mk KX G ?a14 ?l14 ?c14 ?k14 (Ft.b2 fun _ _ _ _ _ _ _ _ => rfl); (case a14 => k_is); (case l14 => k_is); (case c14 => k_is); (case k14 => k_is))
      (case d15 => refine' Ft.df_mk KX G ?a15 ?l15 ?c15 ?k15 (Ft.b2 fun _ _ _ _ _ _ _ _ => rfl); (case a15 => k_is); (case l15 => k_is); (case c15 => k_is); (case k15 => k_is))
      (case d16 => refine' Ft.df_mk KX G ?a16 ?l16 ?c16 ?k16 (Ft.b2 fun _ _ _ _ _ _ _ _ => rfl); (case a16 => k_is); (case l16 => k_is); (case c16 => k_is); (case k16 => k_is))
      (case d17 => refine' Ft.df_mk KX G ?a17 ?l17 ?c17 ?k17 (Ft.b2 fun _ _ _ _ _ _ _ _ => rfl); (case a17 => k_is); (case l17 => k_is); (case c17 => k_is); (case k17 => k_is))
      (case d18 => refine' Ft.df_mk KX G ?a18 ?l18 ?c18 ?k18 (Ft.b2 fun _ _ _ _ _ _ _ _ => rfl); (case a18 => k_is); (case l18 => k_is); (case c18 => k_is); (case k18 => k_is))
      (case d19 => refine' Ft.df_mk KX G ?a19 ?l19 ?c19 ?k19 (Ft.b2 fun _ _ _ _ _ _ _ _ => rfl); (case a19 => k_is); (case l19 => k_is); (case c19 => k_is); (case k19 => k_is))
      (case d20 => refine' Ft.df_mk KX G ?a20 ?l20 ?c20 ?k20 (Ft.b1 fun _ _ _ _ _ _ _ => rfl); (case a20 => k_is); (case l20 => k_is); (case c20 => k_is); (case k20 => k_is))
      (case d21 => refine' Ft.df_mk KX G ?a21 ?l21 ?c21 ?k21 (Ft.b2 fun _ _ _ _ _ _ _ _ => rfl); (case a21 => k_is); (case l21 => k_is); (case c21 => k_is); (case k21 => k_is))
      (case d22 => refine' Ft.df_mk KX G ?a22 ?l22 ?c22 ?k22 (Ft.b2 fun _ _ _ _ _ _ _ _ => rfl); (case a22 => k_is); (case l22 => k_is); (case c22 => k_is); (case k22 => k_is))
      (case d23 => refine' Ft.df_mk KX G ?a23 ?l23 ?c23 ?k23 (Ft.b2 fun _ _ _ _ _ _ _ _ => rfl); (case a23 => k_is); (case l23 => k_is); (case c23 => k_is); (case k23 => k_is))
      (case d24 => refine' Ft.df_mk KX G ?a24 ?l24 ?c24 ?k24 (Ft.b1 fun _ _ _ _ _ _ _ => rfl); (case a24 => k_is); (case l24 => k_is); (case c24 => k_is); (case k24 => k_is))
      (case d25 => refine' Ft.df_mk KX G ?a25 ?l25 ?c25 ?k25 (Ft.b1 fun _ _ _ _ _ _ _ => rfl); (case a25 => k_is); (case l25 => k_is); (case c25 => k_is); (case k25 => k_is))
      (case d26 => refine' Ft.df_mk KX G ?a26 ?l26 ?c26 ?k26 (Ft.b2 fun _ _ _ _ _ _ _ _ => rfl); (case a26 => k_is); (case l26 => k_is); (case c26 => k_is); (case k26 => k_is))
      (case d27 => refine' Ft.df_mk KX G ?a27 ?l27 ?c27 ?k27 (Ft.b2 fun _ _ _ _ _ _ _ _ => rfl); (case a27 => k_is); (case l27 => k_is); (case c27 => k_is); (case k27 => k_is))
      (case d28 => refine' Ft.df_mk KX G ?a28 ?l28 ?c28 ?k28 (Ft.b2 fun _ _ _ _ _ _ _ _ => rfl); (case a28 => k_is); (case l28 => k_is); (case c28 => k_is); (case k28 => k_is))
      (case d29 => refine' Ft.df_mk KX G ?a29 ?l29 ?c29 ?k29 (Ft.b2 fun _ _ _ _ _ _ _ _ => rfl); (case a29 => k_is); (case l29 => k_is); (case c29 => k_is); (case k29 => k_is))
      (case d30 => refine' Ft.df_mk KX G ?a30 ?l30 ?c30 ?k30 (Ft.b2 fun _ _ _ _ _ _ _ _ => rfl); (case a30 => k_is); (case l30 => k_is); (case c30 => k_is); (case k30 => k_is))
      (case d31 => refine' Ft.df_mk KX G ?a31 ?l31 ?c31 ?k31 (Ft.b2 fun _ _ _ _ _ _ _ _ => rfl); (case a31 => k_is); (case l31 => k_is); (case c31 => k_is); (case k31 => k_is))
      (case d32 => refine' Ft.df_mk KX G ?a32 ?l32 ?c32 ?k32 (Ft.b5 fun _ _ _ _ _ _ _ _ _ _ _ => rfl); (case a32 => k_is); (case l32 => k_is); (case c32 => k_is); (case k32 => k_is))
      (case d33 => refine' Ft.df_mk KX G ?a33 ?l33 ?c33 ?k33 (Ft.b5 fun _ _ _ _ _ _ _ _ _ _ _ => rfl); (case a33 => k_is); (case l33 => k_is); (case c33 => k_is); (case k33 => k_is))
      (case d34 => refine' Ft.df_mk KX G ?a34 ?l34 ?c34 ?k34 (Ft.b1 fun _ _ _ _ _ _ _ => rfl); (case a34 => k_is); (case l34 => k_is); (case c34 => k_is); (case k34 => k_is))
    case B =>
      refine' ⟨PySem.W.mg_none_of KX G ?z0, PySem.W.mg_none_of KX G ?z1, PySem.W.mg_none_of KX G ?z2, PySem.W.mg_none_of KX G ?z3, PySem.W.mg_of KX G ?z4, PySem.W.mg_none_of KX G ?z5, PySem.W.mg_none_of KX G ?z6, PySem.W.mg_none_of KX G ?z7, PySem.W.mg_of KX G ?z8, PySem.W.mg_none_of KX G ?z9, PySem.W.mg_none_of KX G ?z10, PySem.W.mg_none_of KX G ?z11, PySem.W.mg_none_of KX G ?z12, PySem.W.mg_none_of KX G ?z13, PySem.W.mg_none_of KX G ?z14, PySem.W.mg_none_of KX G ?z15, PySem.W.mg_none_of KX G ?z16, PySem.W.mg_none_of KX G ?z17, PySem.W.mg_none_of KX G ?z18, PySem.W.mg_none_of KX G ?z19⟩
      (case z0 => k_is)
      (case z1 => k_is)
      (case z2 => k_is)
      (case z3 => k_is)
      (case z4 => k_is)
      (case z5 => k_is)
      (case z6 => k_is)
      (case z7 => k_is)
      (case z8 => k_is)
      (case z9 => k_is)
      (case z10 => k_is)
      (case z11 => k_is)
      (case z12 => k_is)
      (case z13 => k_is)
      (case z14 => k_is)
      (case z15 => k_is)
      (case z16 => k_is)
      (case z17 => k_is)
      (case z18 => k_is)
      (case z19 => k_is)

