import PyProof.Rows.All
import Wide.All
import OpenK.AllK
import Wide.FinOn
import HandS.ForMost
import HandS.Flow
import HandS.Wide
import HandS.Gcd
import HandS.IsInst
import HandS.Zip
import HandS.Ends
import HandS.Walk
import KE.KMathGC
import Flt.RightSqrt
import HandS.Style
import PyProof.ReprBulk
import PyProof.Rows.StrJoinMade
import HandS.ExcOwn
import HandS.TryOnly
import HandS.WordsExc
import KE.GoesMore
import KE.GoesEnum
import PyProof.Draws
import HandS.Iter
import KE.GoesZip
import HandS.TupMul
import HandS.TupAny
import HandS.Lambda
import HandS.WideBits
import PySem.Challenge.RW_firstterms_k11_powers_and_what_undoes_th
set_option Elab.async false
set_option maxRecDepth 100000
namespace Ft
open PySem L2

/-! ### general: what a def may be called for -/
structure Cal (P : Program) (w : World) (K : PySem.W.Frag) (mg : Str → Option Value) (base : Heap) (k : Nat) (x : Str) (sp : Sp) : Prop where
  ex : ∃ (f : Addr) (fd : FuncData) (ps : List Str), FnOk P w K mg base CX0 k f fd ps sp ∧ mg x = some (.ref f) ∧ PySem.W.keepIn K (.ref f) = true ∧ Binds K fd ps []
/-- a def of the top: its text stands, its name leads to it, its arguments bind -/
structure Df (K : PySem.W.Frag) (mg : Str → Option Value) (x : Str) (st : Stmt) (ps : List Str) : Prop where
  ex : ∃ (f : Addr) (fd : FuncData), Fun K x x st f fd ∧ mg x = some (.ref f) ∧ Binds K fd ps []
section
variable {X : Cx} {k j : Nat} {x : Str} {sp : Sp} {p pos : Pos} {e : Expr} {es : List Expr} {t : TA}
theorem pe_c (c : Cal X.prog X.w X.K X.mg X.base k x sp) (hr : Room j X.A) (hk : k ≤ j) (hg : Gl X x) (ha : PA X (e :: es) t)
    (hdb : (x == ("__debug__" : Str)) = false := by decide) (he : starEach (e :: es) X.env = (false, eval e X.env) :: starEach es X.env := by rfl) (hpl : (backTo pos (starEach es X.env)).any (·.1) = false := by rfl) :
    PE X (.Call (.Name x p) (e :: es) [] pos) (tCall sp [] E0 t) := by
  obtain ⟨f, fd, ps, F, hm, kp, b⟩ := c.ex
  exact pe_call F (hr.mono hk) hg hm kp b .nil pass0 ha hdb he hpl
end
/-- what may be called for by keywords alone, in this order -/
structure CalK (P : Program) (w : World) (K : PySem.W.Frag) (mg : Str → Option Value) (base : Heap) (k : Nat) (x : Str) (ks : List Str) (gV : List V → List V → List V) (sp : Sp) : Prop where
  ex : ∃ (f : Addr) (fd : FuncData) (ps : List Str) (g : List Value → List Value → List Value), FnOk P w K mg base CX0 k f fd ps sp ∧ mg x = some (.ref f) ∧ PySem.W.keepIn K (.ref f) = true ∧ KBinds K fd ps ks g gV
section
variable {X : Cx} {k j : Nat} {x : Str} {ks : List Str} {gV : List V → List V → List V} {sp : Sp} {p pos : Pos} {kws : List Keyword} {tk : TA}
theorem pe_k0 (c : CalK X.prog X.w X.K X.mg X.base k x ks gV sp) (hr : Room j X.A) (hk : k ≤ j) (hg : Gl X x) (hkw : PK X kws tk)
    (hall : (backToKw pos (keywordEach kws X.env)).all (·.1.isSome) = true := by rfl) (hks : (backToKw pos (keywordEach kws X.env)).filterMap (·.1) = ks := by rfl) (hdb : (x == ("__debug__" : Str)) = false := by decide)
    (hpl : ((backTo pos (starEach [] X.env)).any (·.1) || (backToKw pos (keywordEach kws X.env)).any (·.1.isNone)) = false := by rfl) :
    PE X (.Call (.Name x p) [] kws pos) (tCallK sp gV E0 tNil tk) := by
  obtain ⟨f, fd, ps, g, F, hm, kp, b⟩ := c.ex
  refine ⟨fun pins s σ H Q I h => wpAny_Call_Name_kw (ld_glob I hg hm ?_ hdb)⟩
  refine PySem.W.callWith_KW0 (h₀ := X.base) I.ok.mod.kin kp hall (thn (hkw.run pos pins s σ H _ I h) fun ws s2 ⟨zs, H2, I2, rz, q2⟩ => ⟨I2.kIn, ?_⟩) hpl
  rw [hks]
  exact run_fnk F (hr.mono hk) b pass0 I2 .nil rz q2
end
section
variable {X : Cx}
theorem pe_ty {x : Str} {n : String} {pos : Pos} (hg : Gl X x) (hm : X.mg x = none) (hv : bootBuiltins x = some (.type n)) (hn : x ≠ "__name__" := by decide) (hd : (x == ("__debug__" : Str)) = false := by decide) : PE X (.Name x pos) (tC (.ty n)) := pe_bltn hg hm hv rfl hn hd
end
theorem kit_int_int {K : PySem.W.Frag} : PySem.W.kitOne K (.type "int") (.type "int") = some true := kit_ty (by decide +kernel)
theorem kit_int_bool {K : PySem.W.Frag} : PySem.W.kitOne K (.type "int") (.type "bool") = some false := kit_ty (by decide +kernel)
theorem ifD {c A B : Prop} [Decidable c] (h1 : c → A) (h2 : ¬ c → B) : if decide c = true then A else B := by
  by_cases h : c
  · rw [decide_eq_true h]; exact iteT (h1 h)
  · rw [decide_eq_false h]; exact iteF (h2 h)
theorem ifI {i j : Int} {A B : Prop} (h1 : i = j → A) (h2 : i ≠ j → B) : if decide (V.int i = V.int j) = true then A else B :=
  ifD (fun h => h1 (V.int.inj h)) fun h => h2 fun e => h (congrArg V.int e)
theorem ifN {c A B : Prop} [Decidable c] (h1 : ¬ c → A) (h2 : c → B) : if (!decide c) = true then A else B := by
  by_cases h : c
  · rw [decide_eq_true h]; exact iteF (h2 h)
  · rw [decide_eq_false h]; exact iteT (h1 h)
theorem ifNI {i j : Int} {A B : Prop} (h1 : i ≠ j → A) (h2 : i = j → B) : if (!decide (V.int i = V.int j)) = true then A else B :=
  ifN (fun h => h1 fun e => h (congrArg V.int e)) fun h => h2 (V.int.inj h)
/-- what follows, said once for all ways that lead there -/
theorem tSeq_join {a b : TS} {D : Ends} {σ : L2.St} {H : Hp} (J : L2.St → Hp → Prop) (h1 : ∀ N : L2.St → Hp → Prop, (∀ σ H, J σ H → N σ H) → a { D with nx := N } σ H) (h2 : ∀ σ H, J σ H → b D σ H) : tSeq a b D σ H := h1 (b D) h2
/-- while, by an invariant and a measure -/
theorem while_go {c : TT} {tb : TS} {D : Ends} {σ : L2.St} {H : Hp} (Pv : L2.St → Hp → Prop) (μ : L2.St → Hp → Nat) (h0 : Pv σ H)
    (hs : ∀ σ H, Pv σ H → c σ H fun b H1 => if b = true then ∃ N : L2.St → Hp → Prop, (∀ σ' H', N σ' H' → ∃ m', m' < μ σ H ∧ m' = μ σ' H' ∧ Pv σ' H') ∧ tb { D with nx := N, ct := N, bk := D.nx } σ H1 else D.nx σ H1) :
    tWhile c tb D σ H := by
  refine ⟨fun m σ H => m = μ σ H ∧ Pv σ H, ⟨_, rfl, h0⟩, ?_⟩
  rintro m σ H ⟨rfl, p⟩
  exact hs σ H p
/-- math.isqrt below 2 ^ 64 -/
def rIsqrt : List V → Hp → VK → Prop := fun vs H Q => ∃ a : Int, vs = [.int a] ∧ 0 ≤ a ∧ a < 2 ^ 64 ∧ Q (.int ((Float64.isqrt a.toNat : Nat) : Int)) H
theorem cr_isqrt {X : Cx} : CallR X (.builtin "math.isqrt") rIsqrt := by
  intro pins s σ H vs us Q I r h
  obtain ⟨a, rfl, h0, h1, q⟩ := h
  obtain ⟨u, rfl, t, rfl⟩ := vals1 r
  exact PySem.W.mg_isqrt h0 h1 ⟨.int _, H, I.tok _, ⟨_, rfl⟩, q⟩
/-- the built-ins of the text -/
structure Bi (mg : Str → Option Value) : Prop where
  abs : mg "abs" = none
  all : mg "all" = none
  bool : mg "bool" = none
  dict : mg "dict" = none
  gcd : mg "gcd" = some (.builtin "math.gcd")
  int : mg "int" = none
  int_ : mg "int" = none
  isinstance : mg "isinstance" = none
  len : mg "len" = none
  len_ : mg "len" = none
  list : mg "list" = none
  max : mg "max" = none
  max_ : mg "max" = none
  min : mg "min" = none
  min_ : mg "min" = none
  range : mg "range" = none
  repr : mg "repr" = none
  sum : mg "sum" = none
  tuple : mg "tuple" = none
/-- math.comb of ints from 0 to 18000 -/
def rComb : List V → Hp → VK → Prop := fun vs H Q => ∃ a b : Int, vs = [.int a, .int b] ∧ 0 ≤ a ∧ 0 ≤ b ∧ a ≤ 18000 ∧ Q (.int (PySem.W.mcComb a b)) H
theorem cr_comb {X : Cx} : CallR X (.builtin "math.comb") rComb := by
  intro pins s σ H vs us Q I r h
  obtain ⟨a, b, rfl, h0, h1, h2, q⟩ := h
  obtain ⟨t, u, rfl⟩ := Vals.int2 r
  exact PySem.W.mc_comb h0 h1 (by omega) (.inr h2) fun _ => ⟨.int _, H, I.tok _, ⟨_, rfl⟩, q⟩
end Ft

namespace Ft
open PySem L2
def top (i : Nat) : Stmt := PySem.Challenge.pw_firstterms_k11_powers_and_what_undoes_th.main.body.getD i (.Pass ⟨0, 0, 0, 0⟩)
abbrev s_is_integer : Stmt := top 7
abbrev N_is_integer : List Str := ["thing"]
theorem sc_is_integer : FnScope N_is_integer ["thing"] (defScope s_is_integer) := ⟨rfl, rfl, rfl, by decide +kernel, rfl, by decide +kernel, by decide +kernel⟩
abbrev s_is_from : Stmt := top 8
abbrev N_is_from : List Str := ["thing", "least"]
theorem sc_is_from : FnScope N_is_from ["thing", "least"] (defScope s_is_from) := ⟨rfl, rfl, rfl, by decide +kernel, rfl, by decide +kernel, by decide +kernel⟩
abbrev s_check_integer : Stmt := top 9
abbrev N_check_integer : List Str := ["thing"]
theorem sc_check_integer : FnScope N_check_integer ["thing"] (defScope s_check_integer) := ⟨rfl, rfl, rfl, by decide +kernel, rfl, by decide +kernel, by decide +kernel⟩
abbrev s_raised : Stmt := top 11
abbrev N_raised : List Str := ["base", "exponent", "result", "square"]
theorem sc_raised : FnScope N_raised ["base", "exponent"] (defScope s_raised) := ⟨rfl, rfl, rfl, by decide +kernel, rfl, by decide +kernel, by decide +kernel⟩
abbrev s_is_beginning : Stmt := top 13
abbrev N_is_beginning : List Str := ["thing", "bottom", "tops", "top"]
theorem sc_is_beginning : FnScope N_is_beginning ["thing"] (defScope s_is_beginning) := ⟨rfl, rfl, rfl, by decide +kernel, rfl, by decide +kernel, by decide +kernel⟩
abbrev s_check_beginning : Stmt := top 14
abbrev N_check_beginning : List Str := ["beginning"]
theorem sc_check_beginning : FnScope N_check_beginning ["beginning"] (defScope s_check_beginning) := ⟨rfl, rfl, rfl, by decide +kernel, rfl, by decide +kernel, by decide +kernel⟩
abbrev s_lowered : Stmt := top 15
abbrev N_lowered : List Str := ["bottom", "tops", "common", "top"]
theorem sc_lowered : FnScope N_lowered ["bottom", "tops"] (defScope s_lowered) := ⟨rfl, rfl, rfl, by decide +kernel, rfl, by decide +kernel, by decide +kernel⟩
abbrev s_multiplied : Stmt := top 16
abbrev N_multiplied : List Str := ["one", "other"]
theorem sc_multiplied : FnScope N_multiplied ["one", "other"] (defScope s_multiplied) := ⟨rfl, rfl, rfl, by decide +kernel, rfl, by decide +kernel, by decide +kernel⟩
abbrev s_product_tops : Stmt := top 17
abbrev N_product_tops : List Str := ["one", "other", "many", "i", "n"]
theorem sc_product_tops : FnScope N_product_tops ["one", "other"] (defScope s_product_tops) := ⟨rfl, rfl, rfl, by decide +kernel, rfl, by decide +kernel, by decide +kernel⟩
abbrev s_power : Stmt := top 18
abbrev N_power : List Str := ["beginning", "k", "bottom", "tops", "lowest_bottom", "lowest_tops"]
theorem sc_power : FnScope N_power ["beginning", "k"] (defScope s_power) := ⟨rfl, rfl, rfl, by decide +kernel, rfl, by decide +kernel, by decide +kernel⟩
abbrev s_power_tops : Stmt := top 19
abbrev N_power_tops : List Str := ["tops", "k", "result", "square"]
theorem sc_power_tops : FnScope N_power_tops ["tops", "k"] (defScope s_power_tops) := ⟨rfl, rfl, rfl, by decide +kernel, rfl, by decide +kernel, by decide +kernel⟩
abbrev s_power_below : Stmt := top 20
abbrev N_power_below : List Str := ["bottom", "tops", "k", "first", "last", "i", "made", "factor", "n", "result"]
theorem sc_power_below : FnScope N_power_below ["bottom", "tops", "k"] (defScope s_power_below) := ⟨rfl, rfl, rfl, by decide +kernel, rfl, by decide +kernel, by decide +kernel⟩
abbrev s_power_of_one : Stmt := top 21
abbrev N_power_of_one : List Str := ["tops", "k", "result", "n", "i", "total"]
theorem sc_power_of_one : FnScope N_power_of_one ["tops", "k"] (defScope s_power_of_one) := ⟨rfl, rfl, rfl, by decide +kernel, rfl, by decide +kernel, by decide +kernel⟩
abbrev s__law_deck : Stmt := top 23
abbrev N__law_deck : List Str := ["_law_script", "_law_mixed", "_law_cell"]
theorem sc__law_deck : FnScope N__law_deck ["_law_script"] (defScope s__law_deck) := ⟨rfl, rfl, rfl, by decide +kernel, rfl, by decide +kernel, by decide +kernel⟩
abbrev s__law_draw : Stmt := top 24
abbrev N__law_draw : List Str := ["_law_deck_here", "_law_many", "_law_number", "_law_cell"]
theorem sc__law_draw : FnScope N__law_draw ["_law_deck_here", "_law_many"] (defScope s__law_draw) := ⟨rfl, rfl, rfl, by decide +kernel, rfl, by decide +kernel, by decide +kernel⟩
abbrev s__law_pick : Stmt := top 25
abbrev N__law_pick : List Str := ["_law_deck_here", "_law_some"]
theorem sc__law_pick : FnScope N__law_pick ["_law_deck_here", "_law_some"] (defScope s__law_pick) := ⟨rfl, rfl, rfl, by decide +kernel, rfl, by decide +kernel, by decide +kernel⟩
abbrev s__law_beginning : Stmt := top 26
abbrev N__law_beginning : List Str := ["_law_deck_here", "_law_many", "_law_thin", "_law_factor", "_law_bottom", "_law_size", "_law_at", "_law_tops", "_law_top"]
theorem sc__law_beginning : FnScope N__law_beginning ["_law_deck_here", "_law_many"] (defScope s__law_beginning) := ⟨rfl, rfl, rfl, by decide +kernel, rfl, by decide +kernel, by decide +kernel⟩
abbrev s__law_reduced : Stmt := top 27
abbrev N__law_reduced : List Str := ["_law_bottom", "_law_tops", "_law_common", "_law_top", "_law_one", "_law_other"]
theorem sc__law_reduced : FnScope N__law_reduced ["_law_bottom", "_law_tops"] (defScope s__law_reduced) := ⟨rfl, rfl, rfl, by decide +kernel, rfl, by decide +kernel, by decide +kernel⟩
abbrev s__law_multiplied : Stmt := top 28
abbrev N__law_multiplied : List Str := ["_law_one", "_law_other", "_law_many", "_law_i", "_law_n", "_law_tops"]
theorem sc__law_multiplied : FnScope N__law_multiplied ["_law_one", "_law_other"] (defScope s__law_multiplied) := ⟨rfl, rfl, rfl, by decide +kernel, rfl, by decide +kernel, by decide +kernel⟩
abbrev s__law_power : Stmt := top 29
abbrev N__law_power : List Str := ["_law_one", "_law_k", "_law_found", "_law_turn"]
theorem sc__law_power : FnScope N__law_power ["_law_one", "_law_k"] (defScope s__law_power) := ⟨rfl, rfl, rfl, by decide +kernel, rfl, by decide +kernel, by decide +kernel⟩
abbrev s__law_is_lowest : Stmt := top 30
abbrev N__law_is_lowest : List Str := ["_law_one", "_law_many", "_law_x"]
theorem sc__law_is_lowest : FnScope N__law_is_lowest ["_law_one", "_law_many"] (defScope s__law_is_lowest) := ⟨rfl, rfl, rfl, by decide +kernel, rfl, by decide +kernel, by decide +kernel⟩
abbrev s__law_is_short : Stmt := top 31
abbrev N__law_is_short : List Str := ["_law_one", "_law_top"]
theorem sc__law_is_short : FnScope N__law_is_short ["_law_one"] (defScope s__law_is_short) := ⟨rfl, rfl, rfl, by decide +kernel, rfl, by decide +kernel, by decide +kernel⟩
abbrev s__law_is_undone : Stmt := top 32
abbrev N__law_is_undone : List Str := ["_law_one", "_law_k", "_law_told"]
theorem sc__law_is_undone : FnScope N__law_is_undone ["_law_one", "_law_k", "_law_told"] (defScope s__law_is_undone) := ⟨rfl, rfl, rfl, by decide +kernel, rfl, by decide +kernel, by decide +kernel⟩
abbrev s__law_is_refused : Stmt := top 33
abbrev N__law_is_refused : List Str := ["_law_one", "_law_k", "_law_way"]
theorem sc__law_is_refused : FnScope N__law_is_refused ["_law_one", "_law_k", "_law_way"] (defScope s__law_is_refused) := ⟨rfl, rfl, rfl, by decide +kernel, rfl, by decide +kernel, by decide +kernel⟩
abbrev s__law_are_together : Stmt := top 34
abbrev N__law_are_together : List Str := ["_law_one", "_law_other", "_law_j", "_law_k", "_law_near", "_law_far", "_law_both", "_law_last"]
theorem sc__law_are_together : FnScope N__law_are_together ["_law_one", "_law_other", "_law_j", "_law_k"] (defScope s__law_are_together) := ⟨rfl, rfl, rfl, by decide +kernel, rfl, by decide +kernel, by decide +kernel⟩
abbrev s_law : Stmt := top 35
abbrev N_law : List Str := ["_law_script", "_law_deck_here", "_law_many", "_law_turn", "_law_one", "_law_way", "_law_k", "_law_told", "_law_is_one", "_law_at", "_law_tops", "_law_other", "_law_few", "_law_j"]
theorem sc_law : FnScope N_law ["_law_script"] (defScope s_law) := ⟨rfl, rfl, rfl, by decide +kernel, rfl, by decide +kernel, by decide +kernel⟩
end Ft

namespace Ft
open PySem L2

/-! ### the mirror of the program's defs -/
def valueTwo (s : Int) : Int := if s % 2 = 0 then 0 else if s % 8 = 1 then 1 else -1
/-- a sign as an int: true is 1 -/
def sg (v : Bool) : Int := if v = true then 1 else -1
def halve (b : Nat) : Nat → Nat → Bool → Nat × Bool
  | 0, t, v => (t, v)
  | f + 1, t, v => if t % 2 = 0 then halve b f (t / 2) (if b % 8 = 3 ∨ b % 8 = 5 then !v else v) else (t, v)
def jac : Nat → Nat → Nat → Bool → Nat × Bool
  | 0, _, b, v => (b, v)
  | f + 1, t, b, v => if t = 0 then (b, v) else
    let r := halve b t t v
    jac f (b % r.1) r.1 (if r.1 % 4 = 3 ∧ b % 4 = 3 then !r.2 else r.2)
def valueOdd (top : Int) (b : Nat) : Int :=
  let r := jac b (top % (b : Int)).toNat b true
  if r.1 = 1 then sg r.2 else 0
def twos (z : Int) : Nat → Nat → Int → Nat × Int
  | 0, r, v => (r, v)
  | f + 1, r, v => if r % 2 = 0 then twos z f (r / 2) (v * z) else (r, v)
def valueRest (s : Int) (r : Nat) : Int :=
  if r = 0 then (if s = 1 then 1 else 0) else
    let q := twos (valueTwo s) r r 1
    q.2 * valueOdd s q.1
def valueAt (s n : Int) : Int := valueRest s (n % (s.natAbs : Int)).toNat
def sqs (p : Nat) : Nat → Nat → Nat
  | 0, r => r
  | f + 1, r => if r % (p * p) = 0 then sqs p f (r / (p * p)) else r
def wsq : Nat → Nat → Int → Nat → Nat × Int
  | 0, r, b, _ => (r, b)
  | f + 1, r, b, p => if p * p * p ≤ r then
      let r1 := sqs p r r
      if r1 % p = 0 then wsq f (r1 / p) (b * p) (p + 1) else wsq f r1 b (p + 1)
    else (r, b)
def without (m : Int) : Int :=
  let q := wsq m.natAbs m.natAbs (if 0 < m then 1 else -1) 2
  if Float64.isqrt q.1 * Float64.isqrt q.1 = q.1 then q.2 else q.2 * q.1
def anySign (m : Int) : Int := if without m % 4 = 1 then without m else 4 * without m
def isSign (n : Int) : Bool := decide (-400 ≤ n) && (decide (n ≤ 400) && (decide (n ≠ 0) && decide (anySign n = n)))

/-! ### promises -/
def sp1 (C : Int → Prop) (g : Int → V) : Sp := fun vs H Q _ => ∃ n, vs = [.int n] ∧ C n ∧ Q (g n) H
def sp2 (C : Int → Int → Prop) (g : Int → Int → V) : Sp := fun vs H Q _ => ∃ m n, vs = [.int m, .int n] ∧ C m n ∧ Q (g m n) H
def sp3 (C : Int → Int → Int → Prop) (g : Int → Int → Int → V) : Sp := fun vs H Q _ => ∃ l m n, vs = [.int l, .int m, .int n] ∧ C l m n ∧ Q (g l m n) H
theorem sp1_len {C g} : ∀ vs H Q E, sp1 C g vs H Q E → vs.length = 1 := fun _ _ _ _ ⟨_, e, _⟩ => by rw [e]; rfl
theorem sp2_len {C g} : ∀ vs H Q E, sp2 C g vs H Q E → vs.length = 2 := fun _ _ _ _ ⟨_, _, e, _⟩ => by rw [e]; rfl
theorem sp3_len {C g} : ∀ vs H Q E, sp3 C g vs H Q E → vs.length = 3 := fun _ _ _ _ ⟨_, _, _, e, _⟩ => by rw [e]; rfl
def sp_is_integer : Sp := sp1 (fun _ => True) fun _ => .bl true
def sp_is_between : Sp := sp3 (fun _ _ _ => True) fun n a b => .bl (decide (a ≤ n) && decide (n ≤ b))
def sp_check_integer : Sp := sp1 (fun _ => True) fun _ => .non
def sp_is_sign : Sp := sp1 (fun _ => True) fun n => .bl (isSign n)
def sp_check_sign : Sp := sp1 (fun n => isSign n = true) fun _ => .non
def sp_value_at_two : Sp := sp1 (fun _ => True) fun n => .int (valueTwo n)
def sp_value_at_odd : Sp := sp2 (fun _ b => 0 < b) fun t b => .int (valueOdd t b.toNat)
def sp_value_at : Sp := sp2 (fun s _ => s ≠ 0) fun s n => .int (valueAt s n)
def sp_sign_at : Sp := sp2 (fun s _ => isSign s = true) fun s n => .int (valueAt s n)
def sp_without_squares : Sp := sp1 (fun m => m ≠ 0 ∧ m.natAbs ≤ 160000) fun m => .int (without m)
def sp_any_sign_of : Sp := sp1 (fun m => m ≠ 0 ∧ m.natAbs ≤ 160000) fun m => .int (anySign m)
def sp_joined_sign : Sp := sp2 (fun a b => isSign a = true ∧ isSign b = true) fun a b => .int (anySign (a * b))

section
variable {P : Program} {w : World} {K : PySem.W.Frag} {mg : Str → Option Value} {base : Heap}
theorem ok_is_integer (D : Df K mg "is_integer" s_is_integer ["thing"]) (B : Bi mg)  : Cal P w K mg base 1 "is_integer" sp_is_integer := by
  obtain ⟨f, fd, F, m, b⟩ := D.ex
  have sc := sc_is_integer
  refine ⟨f, fd, _, F.ok sc sp1_len (fun cdv A outer s H vs Q E hr h => ?_), m, F.kp, b⟩
  obtain ⟨n, rfl, _, q⟩ := h
  have hu := hu_of hr
  refine ⟨_, (pss_one (ps_ret (pe_and (pe_callB call_isi (by rfl) B.isinstance (by decide +kernel) (pa_cons (pv 0) (pa_cons (pe_ty (n := "int") (by rfl) B.int_ (by decide +kernel)) pa_nil))) (pe_one (pe_not (pe_callB call_isi (by rfl) B.isinstance (by decide +kernel) (pa_cons (pv 0) (pa_cons (pe_ty (n := "bool") (by rfl) B.bool (by decide +kernel)) pa_nil)))))))), ?_⟩
  refine ⟨_, rfl, _, _, _, _, true, rfl, .ty _, .base (.int n), kit_int_int, true, rfl, iteT ?_⟩
  refine ⟨_, rfl, _, _, _, _, false, rfl, .ty _, .base (.int n), kit_int_bool, false, rfl, ?_⟩
  exact q
theorem ok_check_integer (D : Df K mg "check_integer" s_check_integer ["thing"]) (c_is_integer : Cal P w K mg base 1 "is_integer" sp_is_integer) : Cal P w K mg base 2 "check_integer" sp_check_integer := by
  obtain ⟨f, fd, F, m, b⟩ := D.ex
  have sc := sc_check_integer
  refine ⟨f, fd, _, F.ok sc sp1_len (fun cdv A outer s H vs Q E hr h => ?_), m, F.kp, b⟩
  obtain ⟨n, rfl, _, q⟩ := h
  refine ⟨_, (pss_one (ps_if (pt_not (pt_val (pe_c c_is_integer hr (by decide) (by rfl) (pa_cons (pv 0) pa_nil))))
      (pss_one ps_never)
      pss_nil)), ?_⟩
  refine ⟨_, rfl, n, rfl, trivial, true, rfl, iteF ?_⟩
  exact q
end
end Ft

namespace Ft
open PySem L2
theorem sg_not (v : Bool) : -(sg v) = sg (!v) := by cases v <;> decide
theorem sg_true : sg true = 1 := by decide
/-- the int in slot i, as a measure -/
def m0 (i : Nat) (σ : L2.St) : Nat := match σ[i]? with
  | some (some (.int z)) => z.toNat
  | _ => 0
theorem st3 {a b c a' b' c' : Int} (h1 : a = a') (h2 : b = b') (h3 : c = c') : [some (V.int a), some (V.int b), some (V.int c)] = [some (V.int a'), some (V.int b'), some (V.int c')] := by rw [h1, h2, h3]
theorem halve_go {b f t : Nat} {v : Bool} (h : t % 2 = 0) : halve b (f + 1) t v = halve b f (t / 2) (if b % 8 = 3 ∨ b % 8 = 5 then !v else v) := by
  show (if t % 2 = 0 then _ else _) = _
  rw [if_pos h]
theorem halve_stop {b f t : Nat} {v : Bool} (h : ¬ t % 2 = 0) : halve b f t v = (t, v) := by
  cases f with
  | zero => rfl
  | succ f => show (if t % 2 = 0 then _ else _) = _; rw [if_neg h]
theorem jac_stop {b f : Nat} {v : Bool} : jac f 0 b v = (b, v) := by
  cases f with
  | zero => rfl
  | succ f => show (if (0:Nat) = 0 then _ else _) = _; rw [if_pos rfl]
theorem jac_go {b f t t' : Nat} {v v' : Bool} (h : t ≠ 0) (e : halve b t t v = (t', v')) : jac (f + 1) t b v = jac f (b % t') t' (if t' % 4 = 3 ∧ b % 4 = 3 then !v' else v') := by
  show (if t = 0 then _ else _) = _
  rw [if_neg h]
  dsimp only
  rw [e]

section
variable {P : Program} {w : World} {K : PySem.W.Frag} {mg : Str → Option Value} {base : Heap}
end
end Ft

namespace Ft
open PySem L2
theorem st4 {a b c d a' b' c' d' : Int} (h1 : a = a') (h2 : b = b') (h3 : c = c') (h4 : d = d') : [some (V.int a), some (V.int b), some (V.int c), some (V.int d)] = [some (V.int a'), some (V.int b'), some (V.int c'), some (V.int d')] := by rw [h1, h2, h3, h4]
theorem cdivN {i : Int} {n : Nat} (h0 : 0 < n) (h : n < 2 ^ 64) : CDivW i (n : Int) := wide_div (b := 64) (by omega) (by omega) (by decide) (by decide)
theorem cmulL {i : Int} {n : Nat} (h : n < 2 ^ 64) : CMul (n : Int) i := .inl ⟨by omega, by omega⟩
theorem cmulR {i : Int} {n : Nat} (h : n < 2 ^ 64) : CMul i (n : Int) := .inr ⟨by omega, by omega⟩
theorem twos_go {z : Int} {f r : Nat} {v : Int} (h : r % 2 = 0) : twos z (f + 1) r v = twos z f (r / 2) (v * z) := by
  show (if r % 2 = 0 then _ else _) = _
  rw [if_pos h]
theorem twos_stop {z : Int} {f r : Nat} {v : Int} (h : ¬ r % 2 = 0) : twos z f r v = (r, v) := by
  cases f with
  | zero => rfl
  | succ f => show (if r % 2 = 0 then _ else _) = _; rw [if_neg h]
theorem valueTwo_le (s : Int) : -1 ≤ valueTwo s ∧ valueTwo s ≤ 1 := by
  unfold valueTwo
  split
  · omega
  · split <;> omega
theorem sqs_go {p f r : Nat} (h : r % (p * p) = 0) : sqs p (f + 1) r = sqs p f (r / (p * p)) := by
  show (if r % (p * p) = 0 then _ else _) = _
  rw [if_pos h]
theorem sqs_stop {p f r : Nat} (h : ¬ r % (p * p) = 0) : sqs p f r = r := by
  cases f with
  | zero => rfl
  | succ f => show (if r % (p * p) = 0 then _ else _) = _; rw [if_neg h]
theorem wsq_stop {f r p : Nat} {b : Int} (h : ¬ p * p * p ≤ r) : wsq f r b p = (r, b) := by
  cases f with
  | zero => rfl
  | succ f => show (if p * p * p ≤ r then _ else _) = _; rw [if_neg h]
theorem wsq_go1 {f r p r1 : Nat} {b : Int} (h : p * p * p ≤ r) (e : sqs p r r = r1) (h1 : r1 % p = 0) : wsq (f + 1) r b p = wsq f (r1 / p) (b * p) (p + 1) := by
  show (if p * p * p ≤ r then _ else _) = _
  rw [if_pos h]
  dsimp only
  rw [e, if_pos h1]
theorem wsq_go2 {f r p r1 : Nat} {b : Int} (h : p * p * p ≤ r) (e : sqs p r r = r1) (h1 : ¬ r1 % p = 0) : wsq (f + 1) r b p = wsq f r1 b (p + 1) := by
  show (if p * p * p ≤ r then _ else _) = _
  rw [if_pos h]
  dsimp only
  rw [e, if_neg h1]
theorem cube_le {p r : Nat} (h : p * p * p ≤ r) (hp : 2 ≤ p) : p < r := by
  have h1 : 2 * p ≤ p * p := Nat.mul_le_mul_right p hp
  have h2 : p * p * 2 ≤ p * p * p := Nat.mul_le_mul_left (p * p) hp
  omega
theorem div_small {r q : Nat} (h : r % q = 0) (hr : 0 < r) (hq : 2 ≤ q) : 0 < r / q ∧ r / q < r := by
  refine ⟨?_, Nat.div_lt_self hr hq⟩
  have e := Nat.div_add_mod r q
  rw [h, Nat.add_zero] at e
  refine Nat.pos_of_ne_zero fun z => ?_
  rw [z, Nat.mul_zero] at e
  omega
theorem sq_small {p : Nat} (h : p ≤ 160001) : p * p < 2 ^ 64 := Nat.lt_of_le_of_lt (Nat.mul_le_mul h h) (by decide)
theorem isqrt_le (n : Nat) : Float64.isqrt n ≤ n := by
  have h := (Float64.isqrt_spec n).1
  rcases Nat.eq_zero_or_pos (Float64.isqrt n) with z | z
  · omega
  · exact Nat.le_trans (Nat.le_mul_of_pos_left _ z) h

section
variable {P : Program} {w : World} {K : PySem.W.Frag} {mg : Str → Option Value} {base : Heap}
theorem isSign_le {z : Int} (h : isSign z = true) : z.natAbs ≤ 400 ∧ z ≠ 0 ∧ anySign z = z := by
  unfold isSign at h
  simp only [Bool.and_eq_true, decide_eq_true_eq] at h
  omega
theorem mul_le_160000 {a b : Int} (ha : a.natAbs ≤ 400) (hb : b.natAbs ≤ 400) : (a * b).natAbs ≤ 160000 := by
  rw [Int.natAbs_mul]
  exact Nat.mul_le_mul ha hb
end
end Ft

/-! Defs that are called where no repr is under way (A.guards = some []): their texts may say repr of a list or a tuple. -/
namespace Ft
open PySem L2 PySem.Spec PyProof.Rows

structure FnG (P : Program) (w : World) (K : PySem.W.Frag) (mg : Str → Option Value) (base : Heap) (k : Nat) (f : Addr) (fd : FuncData) (ps : List Str) (sp : Sp) : Prop where
  len : ∀ vs H Q E, sp vs H Q E → vs.length = ps.length
  go : ∀ (A : Around) (outer : List Env) (s : Shared) (H : Hp) (args : Args) (us : List Value) (vs : List V) (Q : VK) (E : XK), A.guards = some [] → Room k A →
    Env0 P w K mg base A outer s H → BindsTo s fd args (ps.zip us) → Vals vs us → sp vs H Q E → codeAny (model P w) A (.call (.ref f) args) (CR CX0 outer P w H s Q E) s
theorem FnG.of {P : Program} {w : World} {K : PySem.W.Frag} {mg : Str → Option Value} {base : Heap} {k : Nat} {f : Addr} {fd : FuncData} {ps : List Str} {sp : Sp} (F : FnOk P w K mg base CX0 k f fd ps sp) : FnG P w K mg base k f fd ps sp :=
  ⟨F.len, fun A outer s H args us vs Q E _ => F.run A outer s H args us vs Q E⟩
/-- what may be called for, where no repr is under way -/
structure CalG (P : Program) (w : World) (K : PySem.W.Frag) (mg : Str → Option Value) (base : Heap) (k : Nat) (x : Str) (sp : Sp) : Prop where
  ex : ∃ (f : Addr) (fd : FuncData) (ps : List Str), FnG P w K mg base k f fd ps sp ∧ mg x = some (.ref f) ∧ PySem.W.keepIn K (.ref f) = true ∧ Binds K fd ps []
section
variable {X : Cx} {k j : Nat} {x : Str} {sp : Sp} {p pos : Pos} {e : Expr} {es : List Expr} {t : TA}
theorem pe_g (c : CalG X.prog X.w X.K X.mg X.base k x sp) (hgd : X.A.guards = some []) (hr : Room j X.A) (hk : k ≤ j) (hg : Gl X x) (ha : PA X (e :: es) t)
    (hdb : (x == ("__debug__" : Str)) = false := by decide) (he : starEach (e :: es) X.env = (false, eval e X.env) :: starEach es X.env := by rfl) (hpl : (backTo pos (starEach es X.env)).any (·.1) = false := by rfl) :
    PE X (.Call (.Name x p) (e :: es) [] pos) (tCall sp [] E0 t) := by
  obtain ⟨f, fd, ps, F, hm, kp, b⟩ := c.ex
  refine ⟨fun pins s σ H Q I h => wpAny_Call_Name_kw (ld_glob I hg hm ?_ hdb)⟩
  refine PySem.W.callWith_K (h₀ := X.base) I.ok.mod.kin kp (thn (ha.run pos pins s σ H _ I h) fun us s1 ⟨vs, H1, I1, rv, q1⟩ => ⟨I1.kIn, ?_⟩) he hpl
  have rv' : Vals (vs ++ []) us := by rw [List.append_nil]; exact rv
  have hl : us.length = ps.length := by
    have z := F.len _ _ _ _ q1
    rw [rv'.length] at z
    exact z
  have bd := b s1 us I1.kIn (by rw [List.append_nil]; exact hl)
  rw [List.append_nil] at bd
  refine wpAny_call (codeAny_mono (F.go X.A X.stack s1 H1 ⟨us, []⟩ us (vs ++ []) Q E0 hgd (hr.mono hk) I1.env0 bd rv' q1) fun r s2 hq => ?_)
  match r, hq with
  | .error _, hq => exact (hq : False).elim
  | .ok (.ret _), hq => exact I1.after hq
  | .ok .next, hq => exact (hq : False).elim
  | .ok .brk, hq => exact (hq : False).elim
  | .ok .cont, hq => exact (hq : False).elim
end
/-- a def by its body, where no repr is under way -/
theorem fun_g {P : Program} {w : World} {K : PySem.W.Frag} {mg : Str → Option Value} {base : Heap} {x qual : Str} {st : Stmt} {f : Addr} {fd : FuncData} {N ps : List Str} {k : Nat} {sp : Sp} (F : Fun K x qual st f fd) (S : FnScope N ps (defScope st))
    (len : ∀ vs H Q E, sp vs H Q E → vs.length = ps.length)
    (body : ∀ (cdv : Value) (A : Around) (outer : List Env) (s : Shared) (H : Hp) (vs : List V) (Q : VK) (E : XK), (A.deeper (envOfC qual (defScope st) s.heap.objs.size f cdv)).guards = some [] →
      Room k (A.deeper (envOfC qual (defScope st) s.heap.objs.size f cdv)) → sp vs H Q E →
      ∃ t, PSs (cxOf CX0 P w K mg base N qual (defScope st) f cdv A outer s H E).nox (defBody st) t ∧ t { nx := fun _ H' => Q .non H', rt := Q } (start N vs) H) : FnG P w K mg base (k + 1) f fd ps sp := by
  obtain ⟨oc, od, kV, doc, pm, an, cdv, ct, osl, rfl, lk, hcd⟩ := F.ex
  refine ⟨len, fun A outer s H args us vs Q E hgd hr e0 hb rv hsp => ?_⟩
  have inK : K.In s.heap := e0.mod.kin.keeps fun b o e => (e0.bs b o e).1
  have noL : s.heap.NoLimit := e0.mod.nolimit.keeps fun b o e => (e0.bs b o e).1
  have kinds : ∀ y ∈ ps.zip us, (defScope st).names.lookup y.1 = some .local ∨ ((defScope st).names.lookup y.1 = some .cell ∧ ((cellsFrom (s.heap.objs.size + 1) (defScope st).names []).lookup y.1).isSome = true) := by
    intro y hy
    rcases S.par y.1 (List.of_mem_zip hy).1 with q | q
    · exact .inl q
    · exact .inr ⟨q, PySem.W.cellsFrom_some _ _ _ (.inl q)⟩
  refine codeAny_call_function hr.depth (inK _ _ lk) rfl S.co S.gen rfl (PySem.W.codeRec_of inK hcd) (hb _ _ _ _ ?_)
  refine wpAny_newFunctionEnv_cells S.kind kinds fun env he s1 made => ?_
  subst he
  refine ⟨noL.keeps made.toInCall.keep, codeAny_func ?_⟩
  obtain ⟨t, ht, hq⟩ := body cdv A outer s H vs Q E hgd (hr.deeper _) hsp
  have J0 : Inv (cxOf CX0 P w K mg base N qual (defScope st) f cdv A outer s H E) [] (start N vs) H s1 := inv_start S hr.hd e0 (len _ _ _ _ hsp) rv made
  refine wpAny_mono (ht.nox.run [] s1 (start N vs) H _ J0 hq) (fun fl s' hs => ?_) fun _ _ hs => hs
  match fl, hs with
  | .ret u, hs =>
    obtain ⟨v, σ', H', J, rv', q⟩ := hs
    exact ⟨v, H', J.os, J.bare, J.base, J.hok, rv', q⟩
  | .next, hs =>
    obtain ⟨σ', H', J, q⟩ := hs
    exact ⟨V.non, H', J.os, J.bare, J.base, J.hok, rfl, q⟩
  | .brk, hs => exact (hs.choose_spec.choose_spec.2 : False).elim
  | .cont, hs => exact (hs.choose_spec.choose_spec.2 : False).elim
end Ft

/-! The law's call, from a promise that holds where no repr is under way. -/
namespace Ft
open PySem L2 PySem.Spec PyProof.Rows

/-- the heap behind the top, seen with the script tracked (or nothing) -/
theorem call_of {P : Program} {w : World} {K : PySem.W.Frag} {mg mb : Str → Option Value} {k : Nat} {fa a : Addr} {fd : FuncData} {x : Str} {sp : Sp} {s1 : Shared} {vs : List Value} {H : Hp}
    (inK : K.In s1.heap) (hns : s1.heap.Ns mainGlobals mg) (hb : s1.heap.Ns builtinsNs mb) (hbb : ∀ x : Str, x ≠ "__name__" → mb x = bootBuiltins x) (hlim : s1.heap.NoLimit) (hg : s1.gens = #[])
    (ha : s1.heap.get? a = some { cls := .type "list", data := .seq vs.toArray }) (hr : Room k callerA)
    (F : ∀ base : Heap, K.In base → base.Ns mainGlobals mg → FnG P w K mg base k fa fd [x] sp) (hbind : ∀ (s : Shared) (u : Value), BindsTo s fd ⟨[u], []⟩ [(x, u)])
    (hO : Only H) (hp : sp [.ref a] H (fun v _ => v = .bl true) fun _ _ _ => False) (hok : HOk P w H s1.heap) (only : ∀ b, H b ≠ none → b = a) (notK : H a ≠ none → K.lookup a = none) :
    codeAny (model P w) callerA (.call (.ref fa) ⟨[.ref a], []⟩) (fun r s2 => r = .ok (.ret (.bool true)) ∧ OldK s1.heap s2.heap ∧ s2.os = s1.os ∧ AllBare s2.gens) s1 := by
  have below : ∀ {b : Addr} {o : Obj}, s1.heap.get? b = some o → H b = none → (hidT s1.heap H).get? b = some o := fun e n => hidT_get e n
  have dictFree : ∀ {b : Addr} {o : Obj} {es : Array DictEntry} {ep : Nat}, s1.heap.get? b = some o → o.data = .dict es ep → H b = none := by
    intro b o es ep e d
    cases q : H b with
    | none => rfl
    | some z =>
      obtain rfl : b = a := only b (fun n => by rw [n] at q; cases q)
      rw [ha] at e
      cases e
      exact absurd (show Data.seq vs.toArray _ = Data.dict es ep from d) (fun z => by cases z)
  have spaces : ∀ {b : Addr} {m : Str → Option Value}, s1.heap.Ns b m → (hidT s1.heap H).Ns b m := fun {b m} ⟨o, es, ep, e, d, r⟩ => ⟨o, es, ep, below e (dictFree e d), d, r⟩
  have inB : K.In (hidT s1.heap H) := by
    intro b o e
    refine below (inK b o e) ?_
    cases q : H b with
    | none => rfl
    | some z =>
      have nz : H b ≠ none := fun n => by rw [n] at q; cases q
      obtain rfl : b = a := only b nz
      rw [notK nz] at e
      cases e
  have hM : Mod K mg (hidT s1.heap H) := ⟨inB, spaces hns, ⟨mb, spaces hb, hbb⟩, hlim.elim fun mc z => ⟨mc, spaces z.1, z.2⟩⟩
  have noFr : ∀ b ∈ frs ([] : List Env), H b = none := fun b z => absurd (show b ∈ ([] : List Addr) from z) List.not_mem_nil
  have e0 : Env0 P w K mg (hidT s1.heap H) callerA [] s1 H := ⟨rfl, hM, fun b o e => of_hidT e, Nat.le_of_eq (hidT_size _ _), trivial, noFr, hok, .of_eq hg⟩
  refine codeAny_mono ((F _ inB (spaces hns)).go callerA [] s1 H ⟨[.ref a], []⟩ [.ref a] [.ref a] _ _ rfl hr e0 (hbind s1 (.ref a)) (.cons rfl .nil) hp) fun r s2 h => ?_
  match r, h with
  | .error _, h => exact (h : False).elim
  | .ok .next, h => exact (h : False).elim
  | .ok .brk, h => exact (h : False).elim
  | .ok .cont, h => exact (h : False).elim
  | .ok (.ret u), h =>
    obtain ⟨v, H2, os, bare, un, hok2, rv, q⟩ := h
    obtain rfl : v = .bl true := q
    obtain rfl : u = Value.bool true := rv
    refine ⟨rfl, OldK.of_keep fun b o e => ?_, os, bare⟩
    cases q : H b with
    | none => exact un.keep b o e q (fun z => absurd (show b ∈ ([] : List Addr) from z) List.not_mem_nil) List.not_mem_nil
    | some z =>
      rcases hO b with n | ⟨ob, xs, y⟩
      · rw [q] at n; cases n
      · have k1 := (hok b _ y).1
        have k2 := (hok2 b _ (un.frzs b ob _ y)).1
        rw [e] at k1
        cases k1
        exact k2
/-- what k_head leaves, from the law's promise -/
theorem walk_g {l : PySem.W.OpenLaw} {n k : Nat} {q : Program} {loose : List Str} {XP : (Str → Option Value) → Heap → Prop} {YP : World → Heap → Prop} {d : DefRec} {K : Params → PySem.W.Frag} {sp : PySem.W.Frag → Sp} {x : Str}
    (hn : l.most = some n) (hn2 : n ≤ sizeLine) (hdf : d.params.defaults = []) (hr : Room k callerA)
    (hY : ∀ (w : World) (h : Heap), YP w h → (K w.params).In h)
    (F : ∀ (w : World) (mg : Str → Option Value) (fa : Addr) (h : Heap), (K w.params).In h → h.Ns mainGlobals mg → mg d.name = some (.ref fa) →
      ∃ fd : FuncData, (∀ (s : Shared) (u : Value), BindsTo s fd ⟨[u], []⟩ [(x, u)]) ∧
        ∀ base : Heap, (K w.params).In base → base.Ns mainGlobals mg → FnG l.prog w (K w.params) mg base k fa fd [x] (sp (K w.params)))
    (hsp : ∀ (K : PySem.W.Frag) (H : Hp) (a : Addr) (ns : List Int), ns.length ≤ n → SqL K H a (ns.map V.int) → sp K [.ref a] H (fun v _ => v = .bl true) fun _ _ _ => False) :
    PySem.W.WalkO q loose XP YP l.row.toRowW d [] (fun f vs => PySem.call f vs) := by
  refine Att.attach_call hn hdf fun w s0 s1 mg mb fa o pm cd doc a vs ns G Y ho hd hcd hmg hobj hints hlen hg => ?_
  have inK := hY w _ Y
  obtain ⟨fd, hb, hF⟩ := F w mg fa _ inK G.T.g hmg
  have rv := vals_ints hints
  have lv := hints.length
  have main := fun (H : Hp) (hO : Only H) (hS : SqL (K w.params) H a (ns.map V.int)) => call_of (H := H) inK G.T.g G.T.b G.T.builtins G.T.nolimit hg hobj hr hF hb hO (hsp (K w.params) H a ns hlen hS)
  cases hk : (K w.params).lookup a with
  | some ob =>
    have e := inK a ob hk
    rw [hobj] at e
    cases e
    have none_ : ∀ {b : Addr} {z : HO}, (fun _ => none : Hp) b = some z → False := fun z => by cases z
    exact main (fun _ => none) (fun _ => .inl rfl) (.inr ⟨_, vs.toArray, _, hk, rfl, rfl, rfl, by rw [List.size_toArray, lv]; exact Nat.le_trans hlen hn2, by simpa using rv⟩) (fun b z y => (none_ (b := b) y).elim) (fun b z => absurd rfl z) fun z => absurd rfl z
  | none =>
    let ob : Obj := { cls := .type "list", data := .seq vs.toArray }
    have at_a : ∀ {b : Addr}, b = a → (fun b => if b = a then some (HO.frz ob (.lst (ns.map V.int))) else none : Hp) b = some (.frz ob (.lst (ns.map V.int))) := fun h => if_pos h
    have off_a : ∀ {b : Addr}, ¬ b = a → (fun b => if b = a then some (HO.frz ob (.lst (ns.map V.int))) else none : Hp) b = none := fun h => if_neg h
    refine main (fun b => if b = a then some (.frz ob (.lst (ns.map V.int))) else none) (fun b => ?_) (.inl (.inr ⟨ob, at_a rfl⟩)) (fun b u z => ?_) (fun b z => ?_) fun _ => hk
    · exact (Decidable.em (b = a)).elim (fun h => .inr ⟨_, _, at_a h⟩) fun h => .inl (off_a h)
    · by_cases h : b = a
      · have y := (at_a h).symm.trans z
        cases y
        subst h
        exact ⟨hobj, by rw [List.length_map]; exact Nat.le_trans hlen hn2, vs, _, rv, hobj⟩
      · exact absurd ((off_a h).symm.trans z) (fun y => by cases y)
    · exact (Decidable.em (b = a)).elim id fun h => absurd (off_a h) z
end Ft

/-! repr of data; the deck of draws -/
namespace Ft
open PySem L2 PySem.Spec PyProof.Rows

def rRepr (K : PySem.W.Frag) : List V → Hp → VK → Prop := fun xs H Q => ∃ a d, xs = [.ref a] ∧ Dp K H (.ref a) d ∧ d.showable = true ∧ d.hasDict = false ∧ d.depth ≤ 64 ∧ d.shown.length ≤ sizeLine ∧ Q (.str d.shown) H
theorem call_repr {X : Cx} {k : Nat} (hgd : X.A.guards = some []) (hr : Room k X.A) : CallR X (.builtin "repr") (rRepr X.K) := by
  intro pins s σ H xs us Q I r h
  obtain ⟨a, d, rfl, hd, h1, h2, h3, h4, q⟩ := h
  obtain ⟨u, rfl, rx⟩ := vals1 r
  obtain ⟨as, rd⟩ := Dp.reads I d (.ref a) u hd rx
  obtain rfl : u = Value.ref a := rx
  exact repr_of_reads' rd h1 (fun z => by rw [h2] at z; cases z) hgd (by have := hr.un; omega) (fun _ _ e => e) (fun h' u tk kept => ⟨.str d.shown, H, I.kept kept, ⟨_, rfl⟩, q⟩) h4

/-! ### the deck -/
def kCells : Key := .inr "cells"
def kMixed : Key := .inr "mixed"
def kDraws : Key := .inr "draws"
theorem ncm : ¬ kCells = kMixed := by decide +kernel
theorem ncd : ¬ kCells = kDraws := by decide +kernel
theorem nmd : ¬ kMixed = kDraws := by decide +kernel
theorem nmc : ¬ kMixed = kCells := by decide +kernel
theorem ndc : ¬ kDraws = kCells := by decide +kernel
def deckL (l : Addr) (mx dr : Int) : List (Key × V) := [(kCells, .ref l), (kMixed, .int mx), (kDraws, .int dr)]
theorem deck_cells {l : Addr} {mx dr : Int} : valV (deckL l mx dr) kCells = some (.ref l) := valV_pos rfl
theorem deck_mixed {l : Addr} {mx dr : Int} : valV (deckL l mx dr) kMixed = some (.int mx) := by
  unfold deckL
  rw [valV_neg ncm]
  exact valV_pos rfl
theorem deck_draws {l : Addr} {mx dr : Int} : valV (deckL l mx dr) kDraws = some (.int dr) := by
  unfold deckL
  rw [valV_neg ncd, valV_neg nmd]
  exact valV_pos rfl
theorem deck_put {l : Addr} {mx dr z : Int} : putK (deckL l mx dr) kDraws (.int z) = deckL l mx z := by
  unfold putK deckL
  rw [if_pos (by simp)]
  simp only [List.map_cons, List.map_nil, if_neg ncd, if_neg nmd, if_true]
/-- a deck at d, its list at l -/
def DeckAt (H : Hp) (d l : Addr) : Prop := ∃ (mx dr : Int) (cs : List Int), H d = some (.dK (deckL l mx dr)) ∧ H l = some (.lst (cs.map V.int)) ∧ cs.length ≤ 63
/-- all that was tracked is as it was, but at d and l -/
def But (d l : Addr) (H H' : Hp) : Prop := ∀ b o, H b = some o → b ≠ d → b ≠ l → H' b = some o
theorem But.refl {d l : Addr} {H : Hp} : But d l H H := fun _ _ h _ _ => h
theorem But.trans {d l : Addr} {H H1 H2 : Hp} (a : But d l H H1) (b : But d l H1 H2) : But d l H H2 := fun c o h h1 h2 => b c o (a c o h h1 h2) h1 h2
theorem But.of {d l : Addr} {H H' : Hp} (s : Same H H') : But d l H H' := fun b o h _ _ => s b o h
theorem Same.upd_new {H : Hp} {p : Addr} {o : HO} (h : H p = none) : Same H (upd H p o) := fun b u e => by rw [upd_ne (ne_of_none e h)]; exact e
theorem DeckAt.same {H H' : Hp} {d l : Addr} (D : DeckAt H d l) (s : Same H H') : DeckAt H' d l := by
  obtain ⟨mx, dr, cs, h1, h2, h3⟩ := D
  exact ⟨mx, dr, cs, s _ _ h1, s _ _ h2, h3⟩
theorem DeckAt.ne {H : Hp} {d l : Addr} (D : DeckAt H d l) : d ≠ l := by
  obtain ⟨mx, dr, cs, h1, h2, h3⟩ := D
  exact ne_of h1 h2 (by intro z; cases z)
/-- a new address is neither -/
theorem DeckAt.new {H : Hp} {d l p : Addr} (D : DeckAt H d l) (h : H p = none) : p ≠ d ∧ p ≠ l := by
  obtain ⟨mx, dr, cs, h1, h2, h3⟩ := D
  exact ⟨fun e => (by rw [e, h1] at h; cases h), fun e => (by rw [e, h2] at h; cases h)⟩
/-- draws: from 0 to below many; the deck stays a deck, all else stays -/
def sp_draw : Sp := fun vs H Q _ => ∃ (d l : Addr) (n : Int), vs = [.ref d, .int n] ∧ DeckAt H d l ∧ 0 < n ∧ n < 2 ^ 64 ∧ ∀ (H' : Hp) (r : Int), DeckAt H' d l → But d l H H' → 0 ≤ r → r < n → Q (.int r) H'
theorem sp_draw_len : ∀ vs H Q E, sp_draw vs H Q E → vs.length = 2 := fun _ _ _ _ ⟨_, _, _, e, _⟩ => by rw [e]; rfl
theorem dp_ints {K : PySem.W.Frag} {H : Hp} : ∀ ns : List Int, DpAll K H (ns.map V.int) (ns.map PyData.int)
  | [] => .nil
  | n :: ns => .cons (.int n) (dp_ints ns)
theorem eqv_nil : ∀ ds : List PyData, PyData.eqv (.list ds) (.list []) = ds.isEmpty
  | [] => rfl
  | _ :: _ => rfl
theorem deck_merge {l : Addr} {mx dr : Int} : mergeK [] (deckL l mx dr) = deckL l mx dr := by
  unfold mergeK deckL
  simp only [List.foldl_cons, List.foldl_nil]
  have h1 : putK ([] : List (Key × V)) kCells (.ref l) = [(kCells, V.ref l)] := rfl
  rw [h1]
  have h2 : putK [(kCells, V.ref l)] kMixed (.int mx) = [(kCells, V.ref l), (kMixed, V.int mx)] := putK_new _ (by rw [valV_neg ncm]; rfl)
  rw [h2]
  exact putK_new _ (by rw [valV_neg ncd, valV_neg nmd]; rfl)
/-- a slice of ints is one -/
theorem cut_ints (ns : List Int) (lo hi : Option Int) : ∃ ms : List Int, cutV (ns.map V.int) lo hi = ms.map V.int ∧ ms.length ≤ ns.length := by
  have hl := cutV_length (ns.map V.int) lo hi
  rw [List.length_map] at hl
  have h : cutV (ns.map V.int) lo hi = ((ns.drop (HT.sIx (ns.map V.int).length 0 lo)).take (HT.sIx (ns.map V.int).length (ns.map V.int).length hi - HT.sIx (ns.map V.int).length 0 lo)).map V.int := by
    unfold cutV
    rw [List.map_take, List.map_drop]
  refine ⟨_, h, ?_⟩
  rw [h, List.length_map] at hl
  exact hl
theorem int_at {ns : List Int} {i : Nat} {v : V} (h : (ns.map V.int)[i]? = some v) : ∃ z, v = .int z ∧ ns[i]? = some z := by
  rw [List.getElem?_map] at h
  cases e : ns[i]? with
  | none => rw [e] at h; cases h
  | some z => rw [e] at h; exact ⟨z, (Option.some.inj h).symm, rfl⟩
def sp_deck (K : PySem.W.Frag) : Sp := fun vs H Q _ => ∃ (a : Addr) (ns : List Int), vs = [.ref a] ∧ SqL K H a (ns.map V.int) ∧ ns.length ≤ 63 ∧ ∀ (H' : Hp) (d l : Addr), DeckAt H' d l → Same H H' → H d = none → H l = none → Q (.ref d) H'
theorem sp_deck_len {K : PySem.W.Frag} : ∀ vs H Q E, sp_deck K vs H Q E → vs.length = 1 := fun _ _ _ _ ⟨_, _, e, _⟩ => by rw [e]; rfl
/-- an item of a list that stands -/
def sp_pick (K : PySem.W.Frag) : Sp := fun vs H Q _ => ∃ (d l p : Addr) (xs : List V), vs = [.ref d, .ref p] ∧ DeckAt H d l ∧ (H p = some (.lst xs) ∧ p ≠ l ∨ H p = some (.tup xs)) ∧ 0 < xs.length ∧ xs.length < 2 ^ 64 ∧
  ∀ (H' : Hp) (v : V), DeckAt H' d l → But d l H H' → v ∈ xs → Q v H'
theorem sp_pick_len {K : PySem.W.Frag} : ∀ vs H Q E, sp_pick K vs H Q E → vs.length = 2 := fun _ _ _ _ ⟨_, _, _, _, e, _⟩ => by rw [e]; rfl
end Ft

namespace Ft
open PySem L2
theorem canLay_ints : ∀ ns : List Int, PyData.canLayAll0 (ns.map PyData.int) = true
  | [] => rfl
  | n :: ns => by
    show (true && PyData.canLayAll0 (ns.map PyData.int)) = true
    rw [canLay_ints ns]
    rfl
theorem depth_ints : ∀ ns : List Int, PyData.depthAll (ns.map PyData.int) = 0
  | [] => rfl
  | n :: ns => by
    show max 0 (PyData.depthAll (ns.map PyData.int)) = 0
    rw [depth_ints ns]
    rfl
theorem shaped_ints (ns : List Int) : SeqAt.shaped (.list (ns.map PyData.int)) = true := by
  unfold SeqAt.shaped
  rw [show PyData.canLay0 (.list (ns.map PyData.int)) = true from canLay_ints ns, show PyData.depth (.list (ns.map PyData.int)) = 0 + 1 from by rw [← depth_ints ns]; rfl]
  rfl
section
variable {P : Program} {w : World} {K : PySem.W.Frag} {mg : Str → Option Value} {base : Heap}
theorem ok_draw (D : Df K mg "_law_draw" s__law_draw ["_law_deck_here", "_law_many"]) (B : Bi mg) : Cal P w K mg base 1 "_law_draw" sp_draw := by
  obtain ⟨f, fd, F, m, b⟩ := D.ex
  have sc := sc__law_draw
  refine ⟨f, fd, _, F.ok sc sp_draw_len (fun cdv A outer s H vs Q E hr h => ?_), m, F.kp, b⟩
  obtain ⟨d, l, n, rfl, DK, hn0, hn1, q⟩ := h
  have hu := hu_of hr
  have h64 : (A.deeper (PyProof.Rows.envOfC "_law_draw" (defScope s__law_draw) s.heap.objs.size f cdv)).units + 64 < cLine := by have := hr.un; omega
  refine ⟨_, (pss_cons (ps_dput hu (pv 0) pe_str (pe_op op_add (pe_dget hu (pv 0) pe_str (fun _ _ => rfl)) pe_int) rfl)
      (pss_cons (ps_set (i := 2) sc.nd rfl (Or.inl rfl) (pe_op op_add (pe_dget hu (pv 0) pe_str (fun _ _ => rfl)) (pe_op op_mul pe_int (pe_dget hu (pv 0) pe_str (fun _ _ => rfl)))))
      (pss_cons (ps_if (pt_cmpR (op_neD h64) (pe_dget hu (pv 0) pe_str (fun _ _ => rfl)) (pe_lst pa_nil) (nomark _))
      (pss_cons (ps_set (i := 3) sc.nd rfl (Or.inl rfl) (pe_bm0 PySem.F.plainAttrs_list PySem.F.slot_list_pop PySem.F.type_list_pop mt_pop (pe_dget hu (pv 0) pe_str (fun _ _ => rfl))))
        (pss_cons (ps_if (pt_cmpR op_ge (pv 3) (pe_op op_pow pe_int pe_int) (nomark _))
        (pss_cons (ps_expr (pe_bm PySem.F.plainAttrs_list PySem.F.slot_list_append PySem.F.type_list_append mt_append (pe_dget hu (pv 0) pe_str (fun _ _ => rfl)) (pa_cons (pe_op op_fdivW (pv 3) (pe_callB (call_max2 rfl) (by rfl) B.max_ (by decide +kernel) (pa_cons pe_int (pa_cons (pv 1) pa_nil)))) pa_nil)))
          (pss_one (ps_ret (pe_op op_mod (pe_callTy call_int1 (by rfl) B.int_ (by decide +kernel) (pa_cons (pv 3) pa_nil)) (pv 1)))))
        pss_nil)
        (pss_one (ps_set (i := 2) sc.nd rfl (Or.inl rfl) (pe_op op_add (pv 2) (pe_op op_mod (pe_callTy call_int1 (by rfl) B.int_ (by decide +kernel) (pa_cons (pv 3) pa_nil)) pe_int))))))
      pss_nil)
      (pss_cons (ps_set (i := 2) sc.nd rfl (Or.inl rfl) (pe_op op_mod (pe_callTy call_int1 (by rfl) B.int_ (by decide +kernel) (pa_cons (pe_op op_add (pe_op op_mul (pv 2) pe_int) pe_int) pa_nil)) pe_int))
      (pss_cons (ps_set (i := 2) sc.nd rfl (Or.inl rfl) (pe_op op_mod (pe_callTy call_int1 (by rfl) B.int_ (by decide +kernel) (pa_cons (pe_op op_add (pe_op op_add (pe_op op_mul (pv 2) (pv 2)) (pe_op op_mul pe_int (pe_dget hu (pv 0) pe_str (fun _ _ => rfl)))) pe_int) pa_nil)) pe_int))
      (pss_cons (ps_set (i := 2) sc.nd rfl (Or.inl rfl) (pe_op op_mod (pe_callTy call_int1 (by rfl) B.int_ (by decide +kernel) (pa_cons (pe_op op_mul (pv 2) pe_int) pa_nil)) pe_int))
      (pss_one (ps_ret (pe_op op_mod (pe_callTy call_int1 (by rfl) B.int_ (by decide +kernel) (pa_cons (pe_op op_fdivW (pv 2) pe_int) pa_nil)) (pv 1)))))))))), ?_⟩
  have dl := DK.ne
  obtain ⟨mx, dr, cs, hd, hl, hcs⟩ := DK
  -- draws + 1
  have gd := DGet.k (k := kDraws) hd
  rw [deck_draws] at gd
  have pd := DPut.k (k := kDraws) (v := .int (dr + 1)) hd (Nat.lt_of_le_of_lt (Nat.le_of_eq rfl : (deckL l mx dr).length ≤ 3) (by decide))
  rw [deck_put] at pd
  refine ⟨_, rfl, d, _, rfl, gd, _, _, rfl, rfl, _, rfl, d, _, rfl, pd, ?_⟩
  generalize hH1 : upd H d (.dK (deckL l mx (dr + 1))) = H1
  have hd1 : H1 d = some (.dK (deckL l mx (dr + 1))) := by rw [← hH1]; exact upd_same
  have hl1 : H1 l = some (.lst (cs.map V.int)) := by rw [← hH1, upd_ne dl.symm]; exact hl
  have b1 : But d l H H1 := fun b o e h1 h2 => by rw [← hH1, upd_ne h1]; exact e
  have gd1 := DGet.k (k := kDraws) hd1
  rw [deck_draws] at gd1
  have gm1 := DGet.k (k := kMixed) hd1
  rw [deck_mixed] at gm1
  have gc1 := DGet.k (k := kCells) hd1
  rw [deck_cells] at gc1
  refine ⟨_, rfl, d, _, rfl, gm1, _, rfl, d, _, rfl, gd1, _, _, rfl, rfl, .inl ⟨by decide, by decide⟩, _, _, rfl, rfl, ?_⟩
  dsimp only [gName]
  refine tSeq_join (fun σ H2 => ∃ (z : Int) (o : Option V), σ = [some (.ref d), some (.int n), some (.int z), o] ∧ DeckAt H2 d l ∧ But d l H H2) (fun N hN => ?_) ?_
  · -- if cells != []
    refine ⟨_, rfl, d, _, rfl, gc1, Nat.zero_le _, fun p hp => ?_⟩
    have s2 : Same H1 (upd H1 p (.lst [])) := Same.upd_new hp
    generalize hH2 : upd H1 p (.lst []) = H2 at s2
    have hd2 := s2 _ _ hd1
    have hl2 := s2 _ _ hl1
    have hp2 : H2 p = some (.lst []) := by rw [← hH2]; exact upd_same
    have b2 : But d l H H2 := b1.trans (But.of s2)
    have gc2 := DGet.k (k := kCells) hd2
    rw [deck_cells] at gc2
    refine ⟨_, _, .lst (SqL.of hl2) (dp_ints cs), .lst (SqL.of hp2) .nil, shaped_ints cs, by decide, _, rfl, ?_⟩
    rw [eqv_nil]
    cases hcc : cs with
    | nil =>
      refine iteF ?_
      exact hN _ _ ⟨_, none, rfl, ⟨mx, dr + 1, [], hd2, by rw [hcc] at hl2; exact hl2, by decide⟩, b2⟩
    | cons c0 cr =>
      refine iteT ?_
      -- cell = cells.pop()
      have hlast : ∃ c, (cs.map V.int)[(cs.map V.int).length - 1]? = some (V.int c) := by
        have hn : cs.length - 1 < cs.length := by rw [hcc]; exact Nat.sub_lt (Nat.succ_pos _) (by decide)
        exact ⟨cs[cs.length - 1], by rw [List.length_map, List.getElem?_map, List.getElem?_eq_getElem hn]; rfl⟩
      obtain ⟨c, hlast⟩ := hlast
      have hdrop : (cs.map V.int).dropLast = cs.dropLast.map V.int := by rw [List.map_dropLast]
      have ldrop : cs.dropLast.length ≤ 62 := by rw [List.length_dropLast]; omega
      have hne : l ≠ d := dl.symm
      refine ⟨_, rfl, d, _, rfl, gc2, .inl ⟨rfl, _, SqL.of hl2⟩, l, _, _, rfl, rfl, hl2, hlast, ?_⟩
      rw [hdrop]
      generalize hH3 : upd H2 l (.lst (cs.dropLast.map V.int)) = H3
      have hl3 : H3 l = some (.lst (cs.dropLast.map V.int)) := by rw [← hH3]; exact upd_same
      have hd3 : H3 d = some (.dK (deckL l mx (dr + 1))) := by rw [← hH3, upd_ne dl]; exact hd2
      have b3 : But d l H H3 := b2.trans fun b o e _ h2 => by rw [← hH3, upd_ne h2]; exact e
      have gc3 := DGet.k (k := kCells) hd3
      rw [deck_cells] at gc3
      refine ⟨_, rfl, _, _, rfl, rfl, ⟨by decide, by decide, by decide⟩, _, _, rfl, rfl, _, rfl, ifD (fun hbig => ?_) fun hbig => ?_⟩
      · -- cells.append(cell // max(2, many)); return int(cell) % many
        have hmx : (if n > 2 then n else 2) = max 2 n := by by_cases h : n > 2 <;> simp only [h, if_true, if_false] <;> omega
        refine ⟨_, rfl, d, _, rfl, gc3, .inl ⟨rfl, _, SqL.of hl3⟩, _, rfl, _, rfl, 2, n, rfl, _, _, rfl, rfl, ?_, ?_⟩
        · show CDivW c (if n > 2 then n else 2)
          exact wide_div (b := 64) (by split <;> omega) (by split <;> omega) (by decide) (by decide)
        refine ⟨l, _, _, rfl, rfl, hl3, Nat.lt_of_le_of_lt (by rw [List.length_map]; exact ldrop) (by decide : (62 : Nat) < sizeLine), ?_⟩
        have happ : cs.dropLast.map V.int ++ [V.int (c / (if n > 2 then n else 2))] = (cs.dropLast ++ [c / (if n > 2 then n else 2)]).map V.int := by rw [List.map_append]; rfl
        refine ⟨_, rfl, .inl ⟨c, rfl, ?_⟩⟩
        refine ⟨_, rfl, _, _, rfl, rfl, hn0, ?_⟩
        refine q _ _ ⟨mx, dr + 1, cs.dropLast ++ [c / (if n > 2 then n else 2)], by rw [upd_ne dl]; exact hd3, by rw [upd_same]; exact congrArg (fun z => some (HO.lst z)) happ, by rw [List.length_append]; exact Nat.add_le_add ldrop (Nat.le_refl 1)⟩ (b3.trans fun b o e _ h2 => by rw [upd_ne h2]; exact e) (Int.emod_nonneg _ (by omega)) (Int.emod_lt_of_pos _ hn0)
      · refine ⟨_, rfl, _, rfl, .inl ⟨c, rfl, ?_⟩⟩
        refine ⟨_, _, rfl, rfl, (by show (0 : Int) < 2147483629; decide), _, _, rfl, rfl, ?_⟩
        exact hN _ _ ⟨_, _, rfl, ⟨mx, dr + 1, cs.dropLast, hd3, hl3, Nat.le_trans ldrop (by decide)⟩, b3⟩
  · rintro _ H4 ⟨z, o, rfl, DK4, b4⟩
    obtain ⟨mx, dr, cs, hd4, hl4, hcs4⟩ := id DK4
    have gd4 := DGet.k (k := kDraws) hd4
    rw [deck_draws] at gd4
    refine ⟨_, rfl, _, _, rfl, rfl, .inr ⟨by decide, by decide⟩, _, _, rfl, rfl, .inl ⟨_, rfl, _, _, rfl, rfl, (by show (0 : Int) < 2147483647; decide), ?_⟩⟩
    have y0 := Int.emod_nonneg (z * 39373 + 61) (b := 2147483647) (by decide)
    have y1 := Int.emod_lt_of_pos (z * 39373 + 61) (b := 2147483647) (by decide)
    refine ⟨_, rfl, _, rfl, _, _, rfl, rfl, .inl ⟨by omega, by omega⟩, _, rfl, d, _, rfl, gd4, _, _, rfl, rfl, .inl ⟨by decide, by decide⟩, _, _, rfl, rfl, _, _, rfl, rfl, .inl ⟨_, rfl, _, _, rfl, rfl, (by show (0 : Int) < 2147483587; decide), ?_⟩⟩
    refine ⟨_, rfl, _, _, rfl, rfl, .inr ⟨by decide, by decide⟩, .inl ⟨_, rfl, _, _, rfl, rfl, (by show (0 : Int) < 2147483563; decide), ?_⟩⟩
    refine ⟨_, rfl, _, _, rfl, rfl, ⟨by decide, by decide⟩, .inl ⟨_, rfl, _, rfl, _, _, rfl, rfl, hn0, ?_⟩⟩
    exact q _ _ DK4 b4 (Int.emod_nonneg _ (by omega)) (Int.emod_lt_of_pos _ hn0)
end
end Ft

namespace Ft
open PySem L2
section
variable {P : Program} {w : World} {K : PySem.W.Frag} {mg : Str → Option Value} {base : Heap}
theorem ok_pick (D : Df K mg "_law_pick" s__law_pick ["_law_deck_here", "_law_some"]) (B : Bi mg) (c__law_draw : Cal P w K mg base 1 "_law_draw" sp_draw) : Cal P w K mg base 2 "_law_pick" (sp_pick K) := by
  obtain ⟨f, fd, F, m, b⟩ := D.ex
  have sc := sc__law_pick
  refine ⟨f, fd, _, F.ok sc sp_pick_len (fun cdv A outer s H vs Q E hr h => ?_), m, F.kp, b⟩
  obtain ⟨d, l, p, xs, rfl, DK, hp, h0, h1, q⟩ := h
  refine ⟨_, (pss_one (ps_ret (pe_ix ix_seq (pv 1) (pe_c c__law_draw hr (by decide) (by rfl) (pa_cons (pv 0) (pa_cons (pe_callB call_len_seq (by rfl) B.len_ (by decide +kernel) (pa_cons (pv 1) pa_nil)) pa_nil))) (fun _ _ => rfl)))), ?_⟩
  have hs : SqL K H p xs ∨ SqT K H p xs := hp.imp (fun z => SqL.of z.1) SqT.of
  refine ⟨_, rfl, _, rfl, _, rfl, p, xs, rfl, hs, d, l, _, rfl, DK, by omega, by omega, fun H1 r DK1 b1 r0 r1 => ?_⟩
  obtain ⟨n, rfl⟩ : ∃ n : Nat, r = n := ⟨r.toNat, by omega⟩
  have hn : n < xs.length := by omega
  obtain ⟨mx, dr, cs, hd, hl, _⟩ := DK
  rcases hp with ⟨hp, hpl⟩ | hp
  · have hp1 := b1 _ _ hp (ne_of hp hd (by intro z; cases z)) hpl
    exact .inl ⟨p, xs, _, _, rfl, rfl, SqL.of hp1, atI_nat (List.getElem?_eq_getElem hn), q _ _ DK1 b1 (List.getElem_mem hn)⟩
  · have hp1 := b1 _ _ hp (ne_of hp hd (by intro z; cases z)) (ne_of hp hl (by intro z; cases z))
    exact .inr (.inl ⟨p, xs, _, _, rfl, rfl, SqT.of hp1, atI_nat (List.getElem?_eq_getElem hn), q _ _ DK1 b1 (List.getElem_mem hn)⟩)
theorem ok_deck (D : Df K mg "_law_deck" s__law_deck ["_law_script"]) (B : Bi mg)  : Cal P w K mg base 1 "_law_deck" (sp_deck K) := by
  obtain ⟨f, fd, F, m, b⟩ := D.ex
  have sc := sc__law_deck
  refine ⟨f, fd, _, F.ok sc sp_deck_len (fun cdv A outer s H vs Q E hr h => ?_), m, F.kp, b⟩
  obtain ⟨a, ns, rfl, hS, hlen, q⟩ := h
  have hu := hu_of hr
  refine ⟨_, (pss_cons (ps_set (i := 1) sc.nd rfl (Or.inl rfl) pe_int)
      (pss_cons (ps_for PassesOwn.never rfl (pi_list (pe_slice sl_list (pv 0) po_none (po_some pe_int))) (pg_name (i := 2) sc.nd rfl (Or.inl rfl))
      (pss_one (ps_set (i := 1) sc.nd rfl (Or.inl rfl) (pe_op op_mod (pe_callTy call_int1 (by rfl) B.int_ (by decide +kernel) (pa_cons (pe_op op_add (pe_op op_add (pe_op op_mul (pv 1) pe_int) (pe_op op_mod (pe_callTy call_int1 (by rfl) B.int_ (by decide +kernel) (pa_cons (pv 2) pa_nil)) pe_int)) pe_int) pa_nil)) pe_int))))
      (pss_one (ps_ret (pe_disp (pps_cons pe_str (pe_revL (pe_callTy call_list_of (by rfl) B.list (by decide +kernel) (pa_cons (pe_slice sl_list (pv 0) po_none (po_some pe_int)) pa_nil))) (pps_cons pe_str (pv 1) (pps_cons pe_str pe_int pps_nil))) (by rfl) (by rfl) (fun z => by cases z) (by decide)))))), ?_⟩
  refine ⟨_, rfl, _, rfl, a, _, rfl, hS, fun p hp => ?_⟩
  obtain ⟨ms, hms, lms⟩ := cut_ints ns none (some 63)
  rw [hms]
  have s1 : Same H (upd H p (.lst (ms.map V.int))) := Same.upd_new hp
  generalize hH1 : upd H p (.lst (ms.map V.int)) = H1 at s1
  have hp1 : H1 p = some (.lst (ms.map V.int)) := by rw [← hH1]; exact upd_same
  refine ⟨p, rfl, ⟨_, SqL.of hp1⟩, for_list (K := K) (a := p) (xs := ms.map V.int) (fun i σ H2 => H1 = H2 ∧ ∃ (z : Int) (o : Option V), σ = [some (.ref a), some (.int z), o]) ⟨rfl, _, none, rfl⟩ (fun i σ H2 _ ⟨e, _⟩ => by rw [← e]; exact SqL.of hp1) ?_ ?_⟩
  · rintro i x σ _ hi ⟨rfl, z, o, rfl⟩
    obtain ⟨c, rfl, _⟩ := int_at hi
    refine ⟨_, rfl, _, _, rfl, rfl, .inr ⟨by decide, by decide⟩, _, rfl, .inl ⟨c, rfl, _, _, rfl, rfl, (by show (0 : Int) < 2147483629; decide), _, _, rfl, rfl, _, _, rfl, rfl, .inl ⟨_, rfl, _, _, rfl, rfl, (by show (0 : Int) < 2147483587; decide), ?_⟩⟩⟩
    exact ⟨rfl, _, _, rfl⟩
  · rintro σ _ ⟨rfl, z, o, rfl⟩
    intro d hd
    have s2 : Same H1 (upd H1 d (.dK [])) := Same.upd_new hd
    generalize hH2 : upd H1 d (.dK []) = H2 at s2
    have hd2 : H2 d = some (.dK []) := by rw [← hH2]; exact upd_same
    refine ⟨_, rfl, _, rfl, a, _, rfl, s2.seq (s1.seq hS), fun p2 hp2 => ?_⟩
    rw [hms]
    have s3 : Same H2 (upd H2 p2 (.lst (ms.map V.int))) := Same.upd_new hp2
    generalize hH3 : upd H2 p2 (.lst (ms.map V.int)) = H3 at s3
    have h3 : H3 p2 = some (.lst (ms.map V.int)) := by rw [← hH3]; exact upd_same
    refine ⟨p2, _, rfl, .inl (SqL.of h3), fun p3 hp3 => ?_⟩
    have s4 : Same H3 (upd H3 p3 (.lst (ms.map V.int))) := Same.upd_new hp3
    generalize hH4 : upd H3 p3 (.lst (ms.map V.int)) = H4 at s4
    have h4 : H4 p3 = some (.lst (ms.map V.int)) := by rw [← hH4]; exact upd_same
    refine ⟨p3, _, rfl, SqL.of h4, fun l hl => ?_⟩
    have s5 : Same H4 (upd H4 l (.lst (ms.map V.int).reverse)) := Same.upd_new hl
    generalize hH5 : upd H4 l (.lst (ms.map V.int).reverse) = H5 at s5
    have h5 : H5 l = some (.lst (ms.reverse.map V.int)) := by rw [← hH5, List.map_reverse]; exact upd_same
    have sA := s1.trans (s2.trans (s3.trans (s4.trans s5)))
    have hd5 : H5 d = some (.dK []) := s5 _ _ (s4 _ _ (s3 _ _ hd2))
    have dl : d ≠ l := ne_of hd5 h5 (by intro z; cases z)
    refine ⟨_, rfl, hd5, deckL l z 0, rfl, (by show (3 : Nat) ≤ 15; decide), ?_⟩
    rw [deck_merge]
    have hd0 : H d = none := s1.free hd
    have hl0 : H l = none := s1.free (s2.free (s3.free (s4.free hl)))
    refine q _ d l ⟨z, 0, ms.reverse, upd_same, by rw [upd_ne dl.symm]; exact h5, by rw [List.length_reverse]; omega⟩ (fun b u e => ?_) hd0 hl0
    rw [upd_ne (ne_of_none e hd0)]
    exact sA _ _ e
end
end Ft

set_option exponentiation.threshold 9000
namespace Ft
open PySem L2
/-! ### beginnings: a number and a tuple of numbers -/
theorem kit_tup_tup {K : PySem.W.Frag} : PySem.W.kitOne K (.type "tuple") (.type "tuple") = some true := kit_ty (by decide +kernel)
theorem kit_int_int' {K : PySem.W.Frag} : PySem.W.kitOne K (.type "int") (.type "int") = some true := kit_ty (by decide +kernel)
def Bg (H : Hp) (v : V) (b : Int) (ts : List Int) : Prop := ∃ p q, v = .ref p ∧ H p = some (.tup [.int b, .ref q]) ∧ H q = some (.tup (ts.map V.int))
theorem Bg.same {H H' : Hp} {v : V} {b : Int} {ts : List Int} (h : Bg H v b ts) (s : Same H H') : Bg H' v b ts := by
  obtain ⟨p, q, e, h1, h2⟩ := h
  exact ⟨p, q, e, s _ _ h1, s _ _ h2⟩
/-- what the document calls a beginning -/
def BgOk (b : Int) (ts : List Int) : Prop := 1 ≤ b ∧ 1 ≤ ts.length ∧ ts.length ≤ 400
def gcdL (g : Nat) (ts : List Int) : Nat := ts.foldl (fun g t => Nat.gcd g t.natAbs) g
def lowB (b : Int) (ts : List Int) : Int := b / ((gcdL b.natAbs ts : Nat) : Int)
def lowT (b : Int) (ts : List Int) : List Int := ts.map fun t => t / ((gcdL b.natAbs ts : Nat) : Int)
theorem gcdL_one : ∀ ts : List Int, gcdL 1 ts = 1
  | [] => rfl
  | t :: ts => by
    show gcdL (Nat.gcd 1 t.natAbs) ts = 1
    rw [Nat.gcd_one_left]
    exact gcdL_one ts
theorem gcdL_dvd : ∀ (ts : List Int) (g : Nat), gcdL g ts ∣ g
  | [], g => Nat.dvd_refl g
  | t :: ts, g => Nat.dvd_trans (gcdL_dvd ts (Nat.gcd g t.natAbs)) (Nat.gcd_dvd_left _ _)
theorem gcdL_drop {ts : List Int} {i : Nat} {z : Int} (h : ts[i]? = some z) (g : Nat) : gcdL g (ts.drop i) = gcdL (Nat.gcd g z.natAbs) (ts.drop (i + 1)) := by
  obtain ⟨hi, rfl⟩ := List.getElem?_eq_some_iff.mp h
  rw [List.drop_eq_getElem_cons hi]
  rfl
theorem take_snoc {ts : List Int} {i : Nat} {z : Int} (h : ts[i]? = some z) : ts.take (i + 1) = ts.take i ++ [z] := by
  rw [List.take_add_one, h]
  rfl
theorem all_true : ∀ n : Nat, (List.replicate n true).all id = true
  | 0 => rfl
  | n + 1 => by rw [List.replicate_succ, List.all_cons, all_true n]; rfl
def sp_from : Sp := fun vs H Q _ => ∃ n a : Int, vs = [.int n, .int a] ∧ Q (.bl (decide (a ≤ n))) H
def sp_checkFrom : Sp := fun vs H Q _ => ∃ n a : Int, vs = [.int n, .int a] ∧ a ≤ n ∧ Q .non H
def sp_isBeg : Sp := fun vs H Q _ => ∃ v b ts, vs = [v] ∧ Bg H v b ts ∧ BgOk b ts ∧ ∀ H', Same H H' → Q (.bl true) H'
def sp_checkBeg : Sp := fun vs H Q _ => ∃ v b ts, vs = [v] ∧ Bg H v b ts ∧ BgOk b ts ∧ ∀ H', Same H H' → Q .non H'
def sp_lowered : Sp := fun vs H Q _ => ∃ (b : Int) (p : Addr) (ts : List Int), vs = [.int b, .ref p] ∧ H p = some (.lst (ts.map V.int)) ∧ 0 < b ∧ b.natAbs < 2 ^ 8000 ∧ ts.length ≤ 1000 ∧ ∀ H' v, Same H H' → Bg H' v (lowB b ts) (lowT b ts) → Q v H'
section
variable {P : Program} {w : World} {K : PySem.W.Frag} {mg : Str → Option Value} {base : Heap}
theorem ok_is_from (D : Df K mg "is_from" s_is_from ["thing", "least"]) (c_is_integer : Cal P w K mg base 1 "is_integer" sp_is_integer) : Cal P w K mg base 2 "is_from" sp_from := by
  obtain ⟨f, fd, F, m, b⟩ := D.ex
  have sc := sc_is_from
  refine ⟨f, fd, _, F.ok sc (fun _ _ _ _ ⟨_, _, e, _⟩ => by rw [e]; rfl) (fun cdv A outer s H vs Q E hr h => ?_), m, F.kp, b⟩
  obtain ⟨n, a, rfl, q⟩ := h
  refine ⟨_, (pss_one (ps_ret (pe_and (pe_c c_is_integer hr (by decide) (by rfl) (pa_cons (pv 0) pa_nil)) (pe_one (pe_cmpR op_ge (pv 0) (pv 1) (nomark _)))))), ?_⟩
  refine ⟨_, rfl, n, rfl, trivial, true, rfl, iteT ?_⟩
  exact ⟨_, rfl, _, rfl, _, _, rfl, rfl, q⟩
theorem ok_is_beginning (D : Df K mg "is_beginning" s_is_beginning ["thing"]) (B : Bi mg) (c_is_from : Cal P w K mg base 2 "is_from" sp_from) (c_is_integer : Cal P w K mg base 1 "is_integer" sp_is_integer) : Cal P w K mg base 3 "is_beginning" sp_isBeg := by
  obtain ⟨f, fd, F, m, b⟩ := D.ex
  have sc := sc_is_beginning
  refine ⟨f, fd, _, F.ok sc (fun _ _ _ _ ⟨_, _, _, e, _⟩ => by rw [e]; rfl) (fun cdv A outer s H vs Q E hr h => ?_), m, F.kp, b⟩
  obtain ⟨v, b, ts, rfl, ⟨p, r, rfl, hp, hr2⟩, hb, q⟩ := h
  refine ⟨_, (pss_cons (ps_if (PW.pt (pw_or (pt_not (pt_val (pe_callB (id := "isinstance") (r := rIsi K) call_isi (by rfl) B.isinstance (by decide +kernel) (pa_cons (pv 0) (pa_cons (pe_ty (n := "tuple") (by rfl) B.tuple (by decide +kernel)) pa_nil))))) (pw_or1 (pt_cmpR op_ne (pe_callB call_len_seq (by rfl) B.len_ (by decide +kernel) (pa_cons (pv 0) pa_nil)) pe_int (nomark _)))))
      (pss_one (ps_ret pe_bl))
      pss_nil)
      (pss_cons (ps_asg (pv 0) (pg_tup rfl (pgs_cons (pg_name (i := 1) sc.nd rfl (Or.inl rfl)) (pgs_cons (pg_name (i := 2) sc.nd rfl (Or.inl rfl)) pgs_nil))))
      (pss_cons (ps_if (PW.pt (pw_or (pt_not (pt_val (pe_c c_is_from hr (by decide) (by rfl) (pa_cons (pv 1) (pa_cons pe_int pa_nil))))) (pw_or1 (pt_not (pt_val (pe_callB (id := "isinstance") (r := rIsi K) call_isi (by rfl) B.isinstance (by decide +kernel) (pa_cons (pv 2) (pa_cons (pe_ty (n := "tuple") (by rfl) B.tuple (by decide +kernel)) pa_nil))))))))
      (pss_one (ps_ret pe_bl))
      pss_nil)
      (pss_one (ps_ret (pe_and (pe_chain op_le op_le pe_int (pe_callB call_len_seq (by rfl) B.len_ (by decide +kernel) (pa_cons (pv 2) pa_nil)) pe_int) (pe_one (pe_callB (cr_all rfl) (by rfl) B.all (by decide +kernel) (pa_cons (pe_lc (own := [("top", 3)]) (g := gName 3) (tt := tYes) (by rfl) sc.nd (pi_tup (pv 2)) (blkOk_by (own := [("top", 3)]) (N := N_is_beginning) (sc := defScope s_is_beginning) (by decide +kernel)) (fun _ _ _ _ _ => (pg_name (i := 3) sc.nd rfl (Or.inl rfl))) (fun _ _ _ _ _ => pts_nil) (fun _ _ _ _ _ => (pe_c c_is_integer hr (by decide) (by rfl) (pa_cons (pv 3) pa_nil)))) pa_nil))))))))), ?_⟩
  have l1 := hb.2.1
  have l2 := hb.2.2
  refine ⟨_, rfl, _, _, _, _, true, rfl, .ty _, .base (.tup hp), kit_tup_tup, true, rfl, iteF ?_⟩
  refine ⟨_, rfl, p, _, rfl, .inr (SqT.of hp), rfl, _, rfl, ifNI (fun e => absurd rfl e) fun _ => ?_⟩
  dsimp only [tNext]
  refine ⟨_, rfl, p, _, rfl, SqT.of hp, rfl, ?_⟩
  refine ⟨_, _, rfl, _, _, rfl, rfl, ?_⟩
  refine ⟨_, rfl, b, 1, rfl, _, rfl, ?_⟩
  rw [decide_eq_true hb.1]
  refine iteF ?_
  refine ⟨_, rfl, _, _, _, _, true, rfl, .ty _, .base (.tup hr2), kit_tup_tup, true, rfl, iteF ?_⟩
  dsimp only [tNext]
  have ll : (ts.map V.int).length = ts.length := List.length_map ..
  refine ⟨_, rfl, r, _, rfl, .inr (SqT.of hr2), 1, _, rfl, rfl, _, rfl, ifD (fun _ => ?_) fun h => absurd (by rw [ll]; omega) h⟩
  refine ⟨_, _, rfl, rfl, _, rfl, ifD (fun _ => ?_) fun h => absurd (by rw [ll]; omega) h⟩
  refine ⟨_, rfl, r, rfl, ⟨_, SqT.of hr2⟩, fun D1 hD1 => ?_⟩
  refine lc_it (walk_tup (xs := ts.map V.int)) (fun i H' => Same H H' ∧ H' D1 = some (.lst ((List.replicate i true).map V.bl))) ⟨Same.upd_new hD1, upd_same⟩ (fun i H' _ ⟨s2, _⟩ => SqT.of (s2 _ _ hr2)) ?_ ?_
  · rintro i u H2 H3 hi ⟨s2, h2⟩ ⟨rfl, hu⟩
    obtain ⟨z, rfl, _⟩ := int_at hu
    refine ⟨rfl, ?_⟩
    refine ⟨_, rfl, z, rfl, trivial, _, h2, ?_, fun b o e => ?_, ?_⟩
    · rw [List.length_map, List.length_replicate]
      exact Nat.lt_of_le_of_lt (by omega : i ≤ 400) (by decide)
    · rw [upd_ne (ne_of_none e hD1)]
      exact s2 _ _ e
    · rw [upd_same, List.replicate_succ', List.map_append]
      rfl
  · rintro H2 ⟨s2, h2⟩
    refine ⟨D1, _, rfl, SqL.of h2, ?_⟩
    rw [all_true]
    exact q H2 s2
theorem ok_check_beginning (D : Df K mg "check_beginning" s_check_beginning ["beginning"]) (c_is_beginning : Cal P w K mg base 3 "is_beginning" sp_isBeg) : Cal P w K mg base 4 "check_beginning" sp_checkBeg := by
  obtain ⟨f, fd, F, m, b⟩ := D.ex
  have sc := sc_check_beginning
  refine ⟨f, fd, _, F.ok sc (fun _ _ _ _ ⟨_, _, _, e, _⟩ => by rw [e]; rfl) (fun cdv A outer s H vs Q E hr h => ?_), m, F.kp, b⟩
  obtain ⟨v, b, ts, rfl, hv, hb, q⟩ := h
  refine ⟨_, (pss_one (ps_if (pt_not (pt_val (pe_c c_is_beginning hr (by decide) (by rfl) (pa_cons (pv 0) pa_nil))))
      (pss_one ps_never)
      pss_nil)), ?_⟩
  refine ⟨_, rfl, v, b, ts, rfl, hv, hb, fun H1 s1 => ⟨_, rfl, iteF ?_⟩⟩
  exact q H1 s1
theorem ok_lowered (D : Df K mg "lowered" s_lowered ["bottom", "tops"]) (B : Bi mg)  : Cal P w K mg base 1 "lowered" sp_lowered := by
  obtain ⟨f, fd, F, m, b⟩ := D.ex
  have sc := sc_lowered
  refine ⟨f, fd, _, F.ok sc (fun _ _ _ _ ⟨_, _, _, e, _⟩ => by rw [e]; rfl) (fun cdv A outer s H vs Q E hr h => ?_), m, F.kp, b⟩
  obtain ⟨b, p, ts, rfl, hp, b0, b1, tl, q⟩ := h
  refine ⟨_, (pss_cons (ps_set (i := 2) sc.nd rfl (Or.inr rfl) (pe_callB call_abs (by rfl) B.abs (by decide +kernel) (pa_cons (pv 0) pa_nil)))
      (pss_cons (ps_for PassesOwn.never rfl (pi_list (pv 1)) (pg_name (i := 3) sc.nd rfl (Or.inl rfl))
      (pss_cons (ps_if (pt_cmpR op_eq (pv 2) pe_int (nomark _))
        (pss_one ps_break)
        pss_nil)
        (pss_one (ps_set (i := 2) sc.nd rfl (Or.inr rfl) (pe_callBfun cr_gcd (by rfl) B.gcd (pa_cons (pv 2) (pa_cons (pv 3) pa_nil)))))))
      (pss_cons (ps_if (pt_cmpR op_lt (pv 0) pe_int (nomark _))
      (pss_one (ps_set (i := 2) sc.nd rfl (Or.inr rfl) (pe_un un_neg (pv 2))))
      pss_nil)
      (pss_one (ps_ret (pe_tup (pa_cons (pe_op op_fdivW (pv 0) (pv 2)) (pa_cons (pe_callTy call_tuple_of (by rfl) B.tuple (by decide +kernel) (pa_cons (pe_lc (own := [("top", 3)]) (g := gName 3) (tt := tYes) (by rfl) sc.nd (pi_list (pv 1)) (blkOk_by (own := [("top", 3)]) (N := N_lowered) (sc := defScope s_lowered) (by decide +kernel)) (fun _ _ _ _ _ => (pg_name (i := 3) sc.nd rfl (Or.inl rfl))) (fun _ _ _ _ _ => pts_nil) (fun _ _ _ _ _ => (pe_op op_fdivW (pv 3) (pv 2)))) pa_nil)) pa_nil)))))))), ?_⟩
  have ea : (if b < 0 then -b else b) = (b.natAbs : Int) := by split <;> omega
  refine ⟨_, rfl, b, rfl, ?_⟩
  rw [ea]
  dsimp only [gName]
  refine tSeq_join (fun σ H' => H = H' ∧ ∃ o : Option V, σ = [some (.int b), some (.ref p), some (.int ((gcdL b.natAbs ts : Nat) : Int)), o]) (fun N hN => ?_) ?_
  · refine ⟨_, rfl, p, rfl, ⟨_, SqL.of hp⟩, for_list (K := K) (a := p) (xs := ts.map V.int) (fun i σ H' => H = H' ∧ ∃ (g : Nat) (o : Option V), σ = [some (.int b), some (.ref p), some (.int (g : Int)), o] ∧ gcdL g (ts.drop i) = gcdL b.natAbs ts) ⟨rfl, _, none, rfl, rfl⟩ (fun i σ H2 _ ⟨e, _⟩ => by rw [← e]; exact SqL.of hp) ?_ ?_⟩
    · rintro i x σ _ hi ⟨rfl, g, o, rfl, hg⟩
      obtain ⟨z, rfl, hz⟩ := int_at hi
      rw [gcdL_drop hz] at hg
      refine ⟨_, rfl, rfl, _, rfl, ifI (fun e => ?_) fun e => ?_⟩
      · have e' : g = 1 := by omega
        subst e'
        rw [Nat.gcd_one_left, gcdL_one] at hg
        exact hN _ _ ⟨rfl, _, by rw [← hg]; rfl⟩
      · refine ⟨_, rfl, _, rfl, _, _, rfl, ?_⟩
        exact ⟨rfl, _, _, rfl, hg⟩
    · rintro σ _ ⟨rfl, g, o, rfl, hg⟩
      rw [List.length_map, List.drop_length] at hg
      exact hN _ _ ⟨rfl, o, by rw [← hg]; rfl⟩
  rintro _ _ ⟨rfl, o, rfl⟩
  have gd := gcdL_dvd ts b.natAbs
  have bp : 0 < b.natAbs := by omega
  have gl := Nat.le_of_dvd bp gd
  have gp := Nat.pos_of_dvd_of_pos gd bp
  generalize hG : gcdL b.natAbs ts = G at gl gp
  have cd : ∀ i : Int, CDivW i (G : Int) := fun i => wide_div (b := 8000) (by omega) (Nat.lt_of_le_of_lt gl b1) (by decide) (by decide)
  refine ⟨_, rfl, _, _, rfl, rfl, _, rfl, ifD (fun e => absurd e (by omega)) fun _ => ?_⟩
  dsimp only [tNext]
  refine ⟨_, rfl, _, rfl, _, _, rfl, rfl, cd b, ?_⟩
  refine ⟨_, rfl, p, rfl, ⟨_, SqL.of hp⟩, fun D1 hD1 => ?_⟩
  refine lc_list (K := K) (a := p) (xs := ts.map V.int) (fun i H' => Same H H' ∧ H' D1 = some (.lst ((ts.take i).map fun t => V.int (t / (G : Int))))) ⟨Same.upd_new hD1, upd_same⟩ (fun i H' _ ⟨s2, _⟩ => SqL.of (s2 _ _ hp)) ?_ ?_
  · rintro i x H2 hx ⟨s2, h2⟩
    obtain ⟨z, rfl, hz⟩ := int_at hx
    have hi := (List.getElem?_eq_some_iff.mp hz).1
    refine ⟨rfl, ?_⟩
    refine ⟨_, rfl, _, rfl, _, _, rfl, rfl, cd z, _, h2, ?_, fun b o e => ?_, ?_⟩
    · rw [List.length_map, List.length_take]
      exact Nat.lt_of_le_of_lt (Nat.le_trans (Nat.min_le_right _ _) tl) (by decide)
    · rw [upd_ne (ne_of_none e hD1)]
      exact s2 _ _ e
    · rw [upd_same, take_snoc hz, List.map_append]
      rfl
  · rintro H2 ⟨s2, h2⟩
    have e1 : (ts.take (ts.map V.int).length).map (fun t => V.int (t / (G : Int))) = (lowT b ts).map V.int := by
      unfold lowT
      rw [hG, List.length_map, List.take_length, List.map_map]
      rfl
    rw [e1] at h2
    refine ⟨D1, _, rfl, .inl ⟨SqL.of h2, fun T1 hT1 => ?_⟩⟩
    have s3 : Same H2 (upd H2 T1 (.tup ((lowT b ts).map V.int))) := Same.upd_new hT1
    have h3 : (upd H2 T1 (.tup ((lowT b ts).map V.int))) T1 = some (.tup ((lowT b ts).map V.int)) := upd_same
    generalize hH3 : upd H2 T1 (.tup ((lowT b ts).map V.int)) = H3 at s3 h3
    refine ⟨(by show (2 : Nat) ≤ sizeLine; decide), fun T2 hT2 => ?_⟩
    have s4 : Same H3 (upd H3 T2 (.tup [V.int (b / (G : Int)), V.ref T1])) := Same.upd_new hT2
    refine q _ _ (s2.trans (s3.trans s4)) ⟨T2, T1, rfl, ?_, s4 _ _ h3⟩
    unfold lowB
    rw [hG]
    exact upd_same
end
end Ft

set_option exponentiation.threshold 9000
namespace Ft
open PySem L2
def sprL (ts : List Int) (d : Nat) : List Int := (List.range ts.length).map fun n => if n % d = 0 then ts.getD (n / d) 0 else 0
def eveL (ts : List Int) (d : Nat) : List Int := ((List.range ts.length).filter fun n => decide (n % d = 0)).map fun n => ts.getD n 0
def shfL (ts : List Int) (s : Nat) : List Int := List.replicate s 0 ++ ts
def sp_deed (f : List Int → Nat → List Int) (C : Nat → Prop) : Sp := fun vs H Q _ => ∃ v b ts d, vs = [v, .int ((d : Nat) : Int)] ∧ Bg H v b ts ∧ BgOk b ts ∧ b.natAbs < 2 ^ 8000 ∧ C d ∧ ∀ H' u, Same H H' → Bg H' u (lowB b (f ts d)) (lowT b (f ts d)) → Q u H'
theorem filter_succ (f : Nat → Bool) (j : Nat) : (List.range (j + 1)).filter f = (List.range j).filter f ++ if f j = true then [j] else [] := by
  rw [List.range_succ, List.filter_append]
  congr 1
  cases h : f j <;> simp [h]
theorem filter_len (f : Nat → Bool) (j : Nat) : ((List.range j).filter f).length ≤ j := by
  have := List.length_filter_le f (List.range j)
  rw [List.length_range] at this
  exact this
theorem getD_at {l : List Int} {i : Nat} (h : i < l.length) : (l.map V.int)[i]? = some (V.int (l.getD i 0)) := by
  rw [List.getElem?_map, List.getElem?_eq_getElem h, List.getD_eq_getElem?_getD, List.getElem?_eq_getElem h]
  rfl
section
variable {P : Program} {w : World} {K : PySem.W.Frag} {mg : Str → Option Value} {base : Heap}
end
end Ft

set_option exponentiation.threshold 9000
namespace Ft
open PySem L2
theorem flat_one {α : Type} (x : α) : ∀ n : Nat, (List.replicate n [x]).flatten = List.replicate n x
  | 0 => rfl
  | n + 1 => by rw [List.replicate_succ, List.flatten_cons, flat_one x n, List.replicate_succ]; rfl
/-- the first place where two rows part -/
def apartGo (b1 b2 : Int) (t1 t2 : List Int) : Nat → Nat → Option Nat
  | 0, _ => none
  | f + 1, i => if t1.getD i 0 * b2 = t2.getD i 0 * b1 then apartGo b1 b2 t1 t2 f (i + 1) else some i
def apart (b1 b2 : Int) (t1 t2 : List Int) : Option Nat := apartGo b1 b2 t1 t2 (min t1.length t2.length) 0
def optV : Option Nat → V
  | none => .non
  | some n => .int (n : Int)
def sp_apart : Sp := fun vs H Q _ => ∃ u v b1 b2 t1 t2, vs = [u, v] ∧ Bg H u b1 t1 ∧ Bg H v b2 t2 ∧ BgOk b1 t1 ∧ BgOk b2 t2 ∧ b1.natAbs < 2 ^ 8000 ∧ b2.natAbs < 2 ^ 8000 ∧ (∀ x ∈ t1, x.natAbs < 2 ^ 8000) ∧ (∀ x ∈ t2, x.natAbs < 2 ^ 8000) ∧ ∀ H', Same H H' → Q (optV (apart b1 b2 t1 t2)) H'
theorem mul8 {i j : Int} (h1 : i.natAbs < 2 ^ 8000) (h2 : j.natAbs < 2 ^ 8000) : CMulW i j := wide_mul h1 h2 (by decide) (by decide) (by decide)
theorem getD_mem {l : List Int} {i : Nat} (h : i < l.length) : l.getD i 0 ∈ l := by
  rw [List.getD_eq_getElem?_getD, List.getElem?_eq_getElem h]
  exact List.getElem_mem h
section
variable {P : Program} {w : World} {K : PySem.W.Frag} {mg : Str → Option Value} {base : Heap}
end
end Ft

set_option exponentiation.threshold 9000
namespace Ft
open PySem L2
/-! ### lowest terms of rows -/
theorem gcdL_mul (c : Nat) : ∀ (ts : List Int) (g : Nat), gcdL (c * g) (ts.map fun t => (c : Int) * t) = c * gcdL g ts
  | [], g => rfl
  | t :: ts, g => by
    show gcdL (Nat.gcd (c * g) ((c : Int) * t).natAbs) (ts.map fun t => (c : Int) * t) = c * gcdL (Nat.gcd g t.natAbs) ts
    rw [Int.natAbs_mul, Int.natAbs_natCast, Nat.gcd_mul_left]
    exact gcdL_mul c ts _
theorem gcdL_mem : ∀ (ts : List Int) (g : Nat) (t : Int), t ∈ ts → gcdL g ts ∣ t.natAbs
  | u :: ts, g, t, h => by
    show gcdL (Nat.gcd g u.natAbs) ts ∣ t.natAbs
    rcases List.mem_cons.mp h with rfl | h
    · exact Nat.dvd_trans (gcdL_dvd ts _) (Nat.gcd_dvd_right _ _)
    · exact gcdL_mem ts _ t h
theorem low_mul {c : Nat} (hc : 0 < c) {b : Int} (hb : 0 < b) (ts : List Int) : lowB ((c : Int) * b) (ts.map fun t => (c : Int) * t) = lowB b ts ∧ lowT ((c : Int) * b) (ts.map fun t => (c : Int) * t) = lowT b ts := by
  have e : gcdL ((c : Int) * b).natAbs (ts.map fun t => (c : Int) * t) = c * gcdL b.natAbs ts := by
    rw [Int.natAbs_mul, Int.natAbs_natCast]
    exact gcdL_mul c ts _
  have c0 : (0 : Int) < (c : Int) := by omega
  unfold lowB lowT
  rw [e, Int.natCast_mul]
  refine ⟨Int.mul_ediv_mul_of_pos _ _ c0, ?_⟩
  rw [List.map_map]
  exact List.map_congr_left fun t _ => Int.mul_ediv_mul_of_pos _ _ c0
theorem gcdL_pos {b : Int} (hb : 0 < b) (ts : List Int) : 0 < gcdL b.natAbs ts := Nat.pos_of_dvd_of_pos (gcdL_dvd ts _) (by omega)
theorem mul_lowB {b : Int} (ts : List Int) : ((gcdL b.natAbs ts : Nat) : Int) * lowB b ts = b :=
  Int.mul_ediv_cancel' (Int.dvd_natAbs.mp (Int.natCast_dvd_natCast.mpr (gcdL_dvd ts _)))
theorem mul_lowT {b : Int} (ts : List Int) : (lowT b ts).map (fun t => ((gcdL b.natAbs ts : Nat) : Int) * t) = ts := by
  unfold lowT
  rw [List.map_map]
  conv => rhs; rw [← List.map_id ts]
  exact List.map_congr_left fun t ht => Int.mul_ediv_cancel' (Int.dvd_natAbs.mp (Int.natCast_dvd_natCast.mpr (gcdL_mem ts _ t ht)))
theorem lowB_pos {b : Int} (hb : 0 < b) (ts : List Int) : 0 < lowB b ts := by
  have h1 := mul_lowB (b := b) ts
  have h2 := gcdL_pos hb ts
  rcases Int.lt_trichotomy (lowB b ts) 0 with h | h | h
  · have := Int.mul_neg_of_pos_of_neg (a := ((gcdL b.natAbs ts : Nat) : Int)) (b := lowB b ts) (by omega) h
    omega
  · rw [h, Int.mul_zero] at h1
    omega
  · exact h
theorem lowB_le {b : Int} (hb : 0 < b) (ts : List Int) : lowB b ts ≤ b := Int.ediv_le_self _ (by omega)
/-- a deed on rows that keeps multiples -/
def Lin (F : List Int → List Int) : Prop := ∀ (c : Int) (ts : List Int), F (ts.map fun t => c * t) = (F ts).map fun t => c * t
theorem low_lin {F : List Int → List Int} (hF : Lin F) {b : Int} (hb : 0 < b) (ts : List Int) : lowB (lowB b ts) (F (lowT b ts)) = lowB b (F ts) ∧ lowT (lowB b ts) (F (lowT b ts)) = lowT b (F ts) := by
  have h := low_mul (gcdL_pos hb ts) (lowB_pos hb ts) (F (lowT b ts))
  rw [mul_lowB, ← hF, mul_lowT] at h
  exact ⟨h.1.symm, h.2.symm⟩
theorem getD_mul (c : Int) (ts : List Int) (i : Nat) : (ts.map fun t => c * t).getD i 0 = c * ts.getD i 0 := by
  rw [List.getD_eq_getElem?_getD, List.getD_eq_getElem?_getD, List.getElem?_map]
  cases ts[i]? with
  | none => exact (Int.mul_zero c).symm
  | some x => rfl
theorem getD_range (g : Nat → Int) (m i : Nat) : ((List.range m).map g).getD i 0 = if i < m then g i else 0 := by
  rw [List.getD_eq_getElem?_getD, List.getElem?_map]
  by_cases h : i < m
  · rw [List.getElem?_range h, if_pos h]; rfl
  · rw [List.getElem?_eq_none (by rw [List.length_range]; omega), if_neg h]; rfl
/-! ### texts of beginnings -/
theorem int_short {v : Int} (h : v.natAbs < 2 ^ 250) : (PyData.int v).leavesShort 100 = true := by
  have key : (PyData.shown (.int v)).length ≤ 100 := by
    have p : (2 : Int) ^ 140 < 10 ^ 78 := by decide
    rcases Int.lt_or_le v 0 with h0 | h0
    · obtain ⟨m, rfl⟩ : ∃ m : Nat, v = Int.negSucc m := ⟨v.natAbs - 1, by omega⟩
      have l := PyProof.Rows.toString_length_le (v := ((m + 1 : Nat) : Int)) (by omega) (k := 78) (by decide) (by omega)
      have e : toString (Int.negSucc m) = "-" ++ toString (m + 1) := rfl
      show (Str.ofString (toString (Int.negSucc m))).length ≤ 100
      rw [e, PyProof.Rows.ofString_length, String.toList_append, List.length_append]
      rw [PyProof.Rows.ofString_length] at l
      have l' : (toString (m + 1)).toList.length ≤ 78 := l
      have : "-".toList.length = 1 := by decide
      omega
    · have l := PyProof.Rows.toString_length_le h0 (k := 78) (by decide) (by omega)
      exact Nat.le_trans l (by decide)
  simpa only [PyData.leavesShort, decide_eq_true_eq] using key
theorem ints_short : ∀ {ts : List Int}, (∀ x ∈ ts, x.natAbs < 2 ^ 250) → PyData.leavesShortAll 100 (ts.map PyData.int) = true
  | [], _ => by simp only [List.map_nil, PyData.leavesShortAll]
  | t :: ts, h => by
    simp only [List.map_cons, PyData.leavesShortAll, Bool.and_eq_true]
    exact ⟨int_short (h t List.mem_cons_self), ints_short fun x hx => h x (List.mem_cons_of_mem _ hx)⟩
theorem ints_bulk : ∀ ts : List Int, PyData.bulkAll (ts.map PyData.int) = ts.length
  | [] => by simp only [List.map_nil, PyData.bulkAll, List.length_nil]
  | t :: ts => by
    simp only [List.map_cons, PyData.bulkAll, PyData.bulk, List.length_cons, ints_bulk ts]
    omega
theorem int_showable {v : Int} (h : v.natAbs < 2 ^ 250) : (PyData.int v).showable = true := by
  have := PySem.Flt.log2_lt_of (by decide) h
  simp only [PyData.showable, decide_eq_true_eq]
  omega
theorem ints_showable : ∀ {ts : List Int}, (∀ x ∈ ts, x.natAbs < 2 ^ 250) → PyData.showableAll (ts.map PyData.int) = true
  | [], _ => by simp only [List.map_nil, PyData.showableAll]
  | t :: ts, h => by
    simp only [List.map_cons, PyData.showableAll, Bool.and_eq_true]
    exact ⟨int_showable (h t List.mem_cons_self), ints_showable fun x hx => h x (List.mem_cons_of_mem _ hx)⟩
def bgD (b : Int) (ts : List Int) : PyData := .tuple [.int b, .tuple (ts.map PyData.int)]
/-- short enough to be shown -/
structure BgS (b : Int) (ts : List Int) : Prop where
  hb : b.natAbs < 2 ^ 250
  hts : ∀ x ∈ ts, x.natAbs < 2 ^ 250
  len : ts.length ≤ 1000
theorem dp_bg {K : PySem.W.Frag} {H : Hp} {v : V} {b : Int} {ts : List Int} (h : Bg H v b ts) : Dp K H v (bgD b ts) := by
  obtain ⟨p, q, rfl, h1, h2⟩ := h
  exact .tup (SqT.of h1) (.cons (.int b) (.cons (.tup (SqT.of h2) (dp_ints ts)) .nil))
/-- what repr asks of a datum -/
structure RepOk (d : PyData) : Prop where
  show_ : d.showable = true
  dict : d.hasDict = false
  depth : d.depth ≤ 64
  len : d.shown.length ≤ sizeLine
theorem bgD_depth (b : Int) (ts : List Int) : (bgD b ts).depth = 2 := by
  have e : PyData.depth (.tuple (ts.map PyData.int)) = 1 := by
    show PyData.depthAll (ts.map PyData.int) + 1 = 1
    rw [depth_ints]
  show max 0 (max (PyData.depth (.tuple (ts.map PyData.int))) 0) + 1 = 2
  rw [e]
  rfl
theorem bgD_short {b : Int} {ts : List Int} (h : BgS b ts) : (bgD b ts).leavesShort 100 = true := by
  simp only [bgD, PyData.leavesShort, PyData.leavesShortAll, Bool.and_eq_true, Bool.and_true]
  refine ⟨?_, ints_short h.hts⟩
  have := int_short h.hb
  simpa only [PyData.leavesShort] using this
theorem bgD_showable {b : Int} {ts : List Int} (h : BgS b ts) : (bgD b ts).showable = true := by
  simp only [bgD, PyData.showable, PyData.showableAll, Bool.and_eq_true, Bool.and_true]
  refine ⟨?_, ints_showable h.hts⟩
  have := int_showable h.hb
  simpa only [PyData.showable] using this
theorem ints_dict (ts : List Int) : PyData.hasDictAll (ts.map PyData.int) = false := by
  induction ts with
  | nil => simp only [List.map_nil, PyData.hasDictAll]
  | cons t ts ih => simp only [List.map_cons, PyData.hasDictAll, PyData.hasDict, ih, Bool.or_self]
theorem bgD_dict (b : Int) (ts : List Int) : (bgD b ts).hasDict = false := by
  simp only [bgD, PyData.hasDict, PyData.hasDictAll, ints_dict, Bool.or_self]
theorem bgD_bulk (b : Int) (ts : List Int) : (bgD b ts).bulk = ts.length + 2 := by
  simp only [bgD, PyData.bulk, PyData.bulkAll, ints_bulk]
  omega
theorem rep_bg {b : Int} {ts : List Int} (h : BgS b ts) : RepOk (bgD b ts) := by
  refine ⟨bgD_showable h, bgD_dict b ts, by rw [bgD_depth]; decide, ?_⟩
  have l := PyData.shown_le_bulk 100 (by decide) (bgD b ts) (bgD_short h)
  rw [bgD_bulk] at l
  have := h.len
  have e : sizeLine = 16777216 := by decide
  omega
theorem low_short {b : Int} {ts : List Int} (h : BgS b ts) : BgS (lowB b ts) (lowT b ts) := by
  refine ⟨Nat.lt_of_le_of_lt (Int.natAbs_ediv_le_natAbs _ _) h.hb, fun x hx => ?_, by unfold lowT; rw [List.length_map]; exact h.len⟩
  obtain ⟨t, ht, rfl⟩ := List.mem_map.mp hx
  exact Nat.lt_of_le_of_lt (Int.natAbs_ediv_le_natAbs _ _) (h.hts t ht)
theorem low_ok {b : Int} {ts : List Int} (h : BgOk b ts) : BgOk (lowB b ts) (lowT b ts) := by
  have b0 := h.1
  have p := lowB_pos (b := b) (by omega) ts
  refine ⟨by omega, ?_, ?_⟩
  · unfold lowT; rw [List.length_map]; exact h.2.1
  · unfold lowT; rw [List.length_map]; exact h.2.2
theorem rep_one {K : PySem.W.Frag} {H : Hp} {u : V} {b : Int} {ts : List Int} {Q : VK} (g : Bg H u b ts) (S : BgS b ts) (q : ∀ z, z = (bgD b ts).shown → Q (.str z) H) : rRepr K [u] H Q := by
  have d := dp_bg (K := K) g
  obtain ⟨p, r, rfl, _, _⟩ := g
  have R := rep_bg S
  exact ⟨p, _, rfl, d, R.show_, R.dict, R.depth, R.len, q _ rfl⟩
end Ft

set_option exponentiation.threshold 9000
namespace Ft
open PySem L2
/-! ### numbers as pairs -/
abbrev Fq := Int × Int
def low (a b : Int) : Fq := (a / ((Nat.gcd a.natAbs b.natAbs : Nat) : Int), b / ((Nat.gcd a.natAbs b.natAbs : Nat) : Int))
def nsum (x y : Fq) : Fq := low (x.1 * y.2 + y.1 * x.2) (x.2 * y.2)
def nprod (x y : Fq) : Fq := low (x.1 * y.1) (x.2 * y.2)
/-- of at most b bits, over a positive number -/
def Small (b : Nat) (x : Fq) : Prop := x.1.natAbs < 2 ^ b ∧ x.2.natAbs < 2 ^ b ∧ 0 < x.2
/-- the value v is the number x -/
def Fr (H : Hp) (v : V) (x : Fq) : Prop := ∃ t, v = .ref t ∧ H t = some (.tup [.int x.1, .int x.2])
theorem Fr.same {H H' : Hp} {v : V} {x : Fq} (h : Fr H v x) (s : Same H H') : Fr H' v x := by
  obtain ⟨t, e, z⟩ := h
  exact ⟨t, e, s _ _ z⟩
theorem Fr.new {H : Hp} {p : Addr} {a b : Int} : Fr (upd H p (.tup [.int a, .int b])) (.ref p) (a, b) := ⟨p, rfl, upd_same⟩
theorem two0 {a b : V} : atI [a, b] 0 = some a := atI_nat (j := 0) rfl
theorem two1 {a b : V} : atI [a, b] 1 = some b := atI_nat (j := 1) rfl
theorem fr0 {K : PySem.W.Frag} {H : Hp} {v : V} {x : Fq} {Q : VK} (h : Fr H v x) (q : Q (.int x.1) H) : rIx K v (.int 0) H Q := by
  obtain ⟨t, rfl, z⟩ := h
  exact .inr (.inl ⟨t, _, 0, _, rfl, rfl, SqT.of z, two0, q⟩)
theorem fr1 {K : PySem.W.Frag} {H : Hp} {v : V} {x : Fq} {Q : VK} (h : Fr H v x) (q : Q (.int x.2) H) : rIx K v (.int 1) H Q := by
  obtain ⟨t, rfl, z⟩ := h
  exact .inr (.inl ⟨t, _, 1, _, rfl, rfl, SqT.of z, two1, q⟩)
def sp_low : Sp := fun vs H Q _ => ∃ a b : Int, vs = [.int a, .int b] ∧ 0 < b ∧ b.natAbs < 2 ^ 8001 ∧ ∀ H' v, Same H H' → Fr H' v (low a b) → Q v H'
def sp_num (g : Fq → Fq → Fq) : Sp := fun vs H Q _ => ∃ u v x y, vs = [u, v] ∧ Fr H u x ∧ Fr H v y ∧ Small 4000 x ∧ Small 4000 y ∧ ∀ H' r, Same H H' → Fr H' r (g x y) → Q r H'
theorem gcd_bit {a b : Int} (h : 0 < b) : 0 < ((Nat.gcd a.natAbs b.natAbs : Nat) : Int) ∧ Nat.gcd a.natAbs b.natAbs ≤ b.natAbs := by
  have h1 : 0 < b.natAbs := by omega
  have h2 := Nat.gcd_pos_of_pos_right a.natAbs h1
  exact ⟨by omega, Nat.le_of_dvd h1 (Nat.gcd_dvd_right _ _)⟩
section
variable {P : Program} {w : World} {K : PySem.W.Frag} {mg : Str → Option Value} {base : Heap}
end
end Ft

namespace Ft
/-! sums and products of rows -/
def Sg (f : Nat → Int) : Nat → Int
  | 0 => 0
  | n + 1 => Sg f n + f n
theorem Sg_congr {f g : Nat → Int} : ∀ {n : Nat}, (∀ i, i < n → f i = g i) → Sg f n = Sg g n
  | 0, _ => rfl
  | n + 1, h => by
    show Sg f n + f n = Sg g n + g n
    rw [Sg_congr (n := n) fun i hi => h i (by omega), h n (by omega)]
theorem Sg_add (f g : Nat → Int) : ∀ n : Nat, Sg (fun i => f i + g i) n = Sg f n + Sg g n
  | 0 => rfl
  | n + 1 => by
    show Sg (fun i => f i + g i) n + (f n + g n) = Sg f n + f n + (Sg g n + g n)
    rw [Sg_add f g n]
    omega
theorem Sg_mul (c : Int) (f : Nat → Int) : ∀ n : Nat, Sg (fun i => c * f i) n = c * Sg f n
  | 0 => (Int.mul_zero c).symm
  | n + 1 => by
    show Sg (fun i => c * f i) n + c * f n = c * (Sg f n + f n)
    rw [Sg_mul c f n, Int.mul_add]
theorem Sg_head (f : Nat → Int) : ∀ n : Nat, Sg f (n + 1) = f 0 + Sg (fun i => f (i + 1)) n
  | 0 => by show 0 + f 0 = f 0 + 0; omega
  | n + 1 => by
    show Sg f (n + 1) + f (n + 1) = f 0 + (Sg (fun i => f (i + 1)) n + f (n + 1))
    rw [Sg_head f n]
    omega
theorem Sg_rev (f : Nat → Int) : ∀ n : Nat, Sg f (n + 1) = Sg (fun i => f (n - i)) (n + 1)
  | 0 => rfl
  | n + 1 => by
    rw [Sg_head (fun i => f (n + 1 - i)) (n + 1)]
    show Sg f (n + 1) + f (n + 1) = f (n + 1 - 0) + _
    rw [Sg_rev f n, Nat.sub_zero, Int.add_comm]
    congr 1
    refine Sg_congr fun i hi => ?_
    show f (n - i) = f (n + 1 - (i + 1))
    congr 1
    omega
theorem Sg_tri (F : Nat → Nat → Int) : ∀ n : Nat, Sg (fun k => Sg (fun i => F i (k - i)) (k + 1)) (n + 1) = Sg (fun i => Sg (fun j => F i j) (n - i + 1)) (n + 1)
  | 0 => rfl
  | n + 1 => by
    show Sg (fun k => Sg (fun i => F i (k - i)) (k + 1)) (n + 1) + Sg (fun i => F i (n + 1 - i)) (n + 1 + 1) = Sg (fun i => Sg (fun j => F i j) (n + 1 - i + 1)) (n + 1) + Sg (fun j => F (n + 1) j) (n + 1 - (n + 1) + 1)
    rw [Sg_tri F n]
    have e1 : Sg (fun i => Sg (fun j => F i j) (n + 1 - i + 1)) (n + 1) = Sg (fun i => Sg (fun j => F i j) (n - i + 1) + F i (n + 1 - i)) (n + 1) := Sg_congr fun i hi => by
      show Sg (fun j => F i j) (n + 1 - i + 1) = _
      rw [show n + 1 - i = n - i + 1 by omega]
      rfl
    rw [e1, Sg_add]
    show _ + (Sg (fun i => F i (n + 1 - i)) (n + 1) + F (n + 1) (n + 1 - (n + 1))) = _
    rw [Nat.sub_self]
    show _ = _ + (0 + F (n + 1) 0)
    omega
/-- the product of two rows at n -/
def conv (f g : Nat → Int) (n : Nat) : Int := Sg (fun i => f i * g (n - i)) (n + 1)
theorem conv_comm (f g : Nat → Int) (n : Nat) : conv f g n = conv g f n := by
  unfold conv
  rw [Sg_rev]
  refine Sg_congr fun i hi => ?_
  show f (n - i) * g (n - (n - i)) = g i * f (n - i)
  rw [show n - (n - i) = i by omega, Int.mul_comm]
theorem conv_congr {f g f' g' : Nat → Int} {n : Nat} (h1 : ∀ i, i ≤ n → f i = f' i) (h2 : ∀ i, i ≤ n → g i = g' i) : conv f g n = conv f' g' n :=
  Sg_congr fun i hi => by rw [h1 i (by omega), h2 (n - i) (by omega)]
theorem conv_assoc (f g h : Nat → Int) (n : Nat) : conv (conv f g) h n = conv f (conv g h) n := by
  have t := Sg_tri (fun i j => f i * g j * h (n - (i + j))) n
  have l : conv (conv f g) h n = Sg (fun k => Sg (fun i => f i * g (k - i) * h (n - (i + (k - i)))) (k + 1)) (n + 1) := by
    unfold conv
    refine Sg_congr fun k hk => ?_
    rw [Int.mul_comm, ← Sg_mul]
    refine Sg_congr fun i hi => ?_
    show h (n - k) * (f i * g (k - i)) = _
    rw [show i + (k - i) = k by omega, Int.mul_comm]
  have r : conv f (conv g h) n = Sg (fun i => Sg (fun j => f i * g j * h (n - (i + j))) (n - i + 1)) (n + 1) := by
    unfold conv
    refine Sg_congr fun i hi => ?_
    rw [← Sg_mul]
    refine Sg_congr fun j hj => ?_
    show f i * (g j * h (n - i - j)) = _
    rw [Int.mul_assoc, show n - (i + j) = n - i - j by omega]
  rw [l, r]
  exact t
theorem conv_add (f g h : Nat → Int) (n : Nat) : conv f (fun i => g i + h i) n = conv f g n + conv f h n := by
  unfold conv
  rw [← Sg_add]
  exact Sg_congr fun i _ => Int.mul_add _ _ _
theorem conv_mul (c d : Int) (f g : Nat → Int) (n : Nat) : conv (fun i => c * f i) (fun i => d * g i) n = (c * d) * conv f g n := by
  unfold conv
  rw [← Sg_mul]
  refine Sg_congr fun i _ => ?_
  show c * f i * (d * g (n - i)) = c * d * (f i * g (n - i))
  rw [Int.mul_assoc, Int.mul_assoc, Int.mul_left_comm (f i)]
theorem sum_Sg (f : Nat → Int) : ∀ n : Nat, ((List.range n).map f).sum = Sg f n
  | 0 => rfl
  | n + 1 => by
    rw [List.range_succ, List.map_append, List.sum_append, sum_Sg f n]
    show Sg f n + (f n + 0) = _
    rw [Int.add_zero]
    rfl
end Ft

namespace Ft
/-! whole rows told by their slopes -/
def Dv (f : Nat → Int) (n : Nat) : Int := (n : Int) * f n
def oneF (n : Nat) : Int := if n = 0 then 1 else 0
theorem conv_c (f g : Nat → Int) : conv f g = conv g f := funext (conv_comm f g)
theorem conv_a (f g h : Nat → Int) : conv (conv f g) h = conv f (conv g h) := funext (conv_assoc f g h)
theorem Sg_single (e : Nat) (c : Nat → Int) : ∀ m : Nat, Sg (fun i => if i = e then c i else 0) m = if e < m then c e else 0
  | 0 => by rw [if_neg (by omega)]; rfl
  | m + 1 => by
    show Sg _ m + (if m = e then c m else 0) = _
    rw [Sg_single e c m]
    rcases Nat.lt_trichotomy e m with h | h | h
    · rw [if_pos h, if_neg (by omega), if_pos (by omega)]; omega
    · subst h
      rw [if_neg (by omega), if_pos rfl, if_pos (by omega)]; omega
    · rw [if_neg (by omega), if_neg (by omega), if_neg (by omega)]; rfl
theorem conv_sh (e : Nat) (g : Nat → Int) (n : Nat) : conv (fun i => if i = e then 1 else 0) g n = if e ≤ n then g (n - e) else 0 := by
  unfold conv
  have h : Sg (fun i => (if i = e then (1 : Int) else 0) * g (n - i)) (n + 1) = Sg (fun i => if i = e then g (n - i) else 0) (n + 1) := Sg_congr fun i _ => by
    split
    · rw [Int.one_mul]
    · rw [Int.zero_mul]
  rw [h, Sg_single e (fun i => g (n - i))]
  by_cases he : e ≤ n
  · rw [if_pos (by omega), if_pos he]
  · rw [if_neg (by omega), if_neg he]
theorem conv_one (g : Nat → Int) : conv oneF g = g := funext fun n => by
  have := conv_sh 0 g n
  rw [if_pos (Nat.zero_le _)] at this
  exact this
theorem conv_scale (c : Int) (f g : Nat → Int) (n : Nat) : conv (fun i => c * f i) g n = c * conv f g n := by
  have := conv_mul c 1 f g n
  simpa using this
theorem Dv_conv (f g : Nat → Int) (n : Nat) : Dv (conv f g) n = conv (Dv f) g n + conv f (Dv g) n := by
  unfold Dv conv
  rw [← Sg_mul, ← Sg_add]
  refine Sg_congr fun i hi => ?_
  have : (n : Int) = (i : Int) + ((n - i : Nat) : Int) := by omega
  rw [this]
  grind
theorem getD_map (b : Nat → Int) (m i : Nat) (h : i < m) : ((List.range m).map b).getD i 0 = b i := by
  rw [List.getD_eq_getElem?_getD, List.getElem?_map, List.getElem?_range h]
  rfl
theorem conv_head {s b : Nat → Int} (s0 : s 0 = 0) (n : Nat) : conv s b n = Sg (fun j => s (j + 1) * b (n - (j + 1))) n := by
  unfold conv
  rw [Sg_head]
  show s 0 * b (n - 0) + _ = _
  rw [s0, Int.zero_mul, Int.zero_add]
theorem conv_low {s t f g : Nat → Int} {n : Nat} (h1 : ∀ i, i ≤ n → s i = t i) (h2 : ∀ i, i ≤ n → f i = g i) : conv s f n = conv t g n := conv_congr h1 h2
structure So (s f : Nat → Int) : Prop where
  f0 : f 0 = 1
  s0 : s 0 = 0
  rec_ : ∀ n, Dv f n = -conv s f n
def mS (k : Int) (s : Nat → Int) (n : Nat) : Int := k * s n
theorem so_uniq {s f g : Nat → Int} (h : So s f) (k : So s g) : f = g := funext fun n => by
  induction n using Nat.strongRecOn with
  | ind n ih =>
    cases n with
    | zero => rw [h.f0, k.f0]
    | succ n =>
      have h1 := h.rec_ (n + 1)
      have h2 := k.rec_ (n + 1)
      rw [conv_head h.s0] at h1 h2
      have e : Sg (fun j => s (j + 1) * f (n + 1 - (j + 1))) (n + 1) = Sg (fun j => s (j + 1) * g (n + 1 - (j + 1))) (n + 1) := Sg_congr fun j hj => by rw [ih (n + 1 - (j + 1)) (by omega)]
      rw [e, ← h2] at h1
      unfold Dv at h1
      exact Int.eq_of_mul_eq_mul_left (by omega) h1
theorem so_mul {s t f g : Nat → Int} (h : So s f) (k : So t g) : So (fun n => s n + t n) (conv f g) := by
  refine ⟨?_, by show s 0 + t 0 = 0; rw [h.s0, k.s0]; rfl, fun n => ?_⟩
  · show 0 + f 0 * g 0 = 1
    rw [h.f0, k.f0]; rfl
  · have h1 : conv (Dv f) g n = -conv (conv s f) g n := by
      have := conv_scale (-1) (conv s f) g n
      rw [show -conv (conv s f) g n = -1 * conv (conv s f) g n by omega, ← this]
      exact conv_low (fun i hi => by rw [h.rec_ i]; omega) fun _ _ => rfl
    have h2 : conv f (Dv g) n = -conv f (conv t g) n := by
      have := conv_scale (-1) (conv t g) f n
      rw [conv_comm f (Dv g), conv_comm f (conv t g), show -conv (conv t g) f n = -1 * conv (conv t g) f n by omega, ← this]
      exact conv_low (fun i hi => by rw [k.rec_ i]; omega) fun _ _ => rfl
    rw [Dv_conv, h1, h2, conv_assoc, ← conv_assoc f, conv_c f t, conv_assoc]
    have e : conv (fun n => s n + t n) (conv f g) n = conv s (conv f g) n + conv t (conv f g) n := by
      rw [conv_comm, conv_add, conv_comm _ s, conv_comm _ t]
    rw [e]
    omega
theorem mS_add (i j : Int) (s : Nat → Int) : (fun n => mS i s n + mS j s n) = mS (i + j) s := funext fun n => by
  unfold mS
  rw [Int.add_mul]
theorem mS_one (s : Nat → Int) : mS 1 s = s := funext fun n => Int.one_mul _
theorem so_add {s f g : Nat → Int} {i j : Int} (h : So (mS i s) f) (k : So (mS j s) g) : So (mS (i + j) s) (conv f g) := by
  have := so_mul h k
  rwa [mS_add] at this
theorem so_zero {s : Nat → Int} : So (mS 0 s) oneF := by
  have z : mS 0 s = fun _ => 0 := funext fun n => Int.zero_mul _
  rw [z]
  refine ⟨rfl, rfl, fun n => ?_⟩
  have h : conv (fun _ => 0) oneF n = 0 := by
    unfold conv
    exact (Sg_congr fun i _ => Int.zero_mul _).trans (by
      have : ∀ m, Sg (fun _ => 0) m = 0 := fun m => by
        induction m with
        | zero => rfl
        | succ m ih => show Sg _ m + 0 = 0; rw [ih]; rfl
      exact this _)
  rw [h]
  unfold Dv oneF
  split
  · next h => rw [h]; rfl
  · simp
def invT (f : Nat → Int) : Nat → List Int
  | 0 => [1]
  | n + 1 => invT f n ++ [-(Sg (fun j => f (j + 1) * (invT f n).getD (n - j) 0) (n + 1))]
def inv (f : Nat → Int) (n : Nat) : Int := (invT f n).getD n 0
theorem invT_len (f : Nat → Int) : ∀ n, (invT f n).length = n + 1
  | 0 => rfl
  | n + 1 => by rw [invT, List.length_append, invT_len f n]; rfl
theorem invT_get (f : Nat → Int) (m : Nat) : ∀ n, m ≤ n → (invT f n).getD m 0 = inv f m
  | 0, h => by obtain rfl : m = 0 := by omega
               rfl
  | n + 1, h => by
    by_cases e : m = n + 1
    · rw [e]; rfl
    · rw [invT, List.getD_eq_getElem?_getD, List.getElem?_append_left (by rw [invT_len]; omega), ← List.getD_eq_getElem?_getD]
      exact invT_get f m n (by omega)
theorem inv_succ (f : Nat → Int) (n : Nat) : inv f (n + 1) = -(Sg (fun j => f (j + 1) * inv f (n - j)) (n + 1)) := by
  have e : inv f (n + 1) = -(Sg (fun j => f (j + 1) * (invT f n).getD (n - j) 0) (n + 1)) := by
    unfold inv
    rw [invT, List.getD_eq_getElem?_getD, List.getElem?_append_right (by rw [invT_len]; omega), invT_len]
    simp
  rw [e]
  congr 1
  exact Sg_congr fun j hj => by rw [invT_get f (n - j) n (by omega)]
theorem conv_inv {f : Nat → Int} (f0 : f 0 = 1) : conv f (inv f) = oneF := funext fun n => by
  cases n with
  | zero => show 0 + f 0 * 1 = 1; rw [f0]; rfl
  | succ n =>
    unfold conv
    rw [Sg_head, f0, Int.one_mul]
    show inv f (n + 1) + _ = _
    rw [inv_succ]
    have : Sg (fun i => f (i + 1) * inv f (n + 1 - (i + 1))) (n + 1) = Sg (fun j => f (j + 1) * inv f (n - j)) (n + 1) := Sg_congr fun j hj => by rw [show n + 1 - (j + 1) = n - j by omega]
    rw [this]
    unfold oneF
    rw [if_neg (by omega)]
    omega
theorem so_inv {s f : Nat → Int} (h : So s f) : So (mS (-1) s) (inv f) := by
  refine ⟨rfl, by show -1 * s 0 = 0; rw [h.s0]; rfl, fun n => ?_⟩
  have z : ∀ m, conv (Dv f) (inv f) m + conv f (Dv (inv f)) m = 0 := fun m => by
    rw [← Dv_conv, conv_inv h.f0]
    unfold Dv oneF
    split
    · next h => rw [h]; rfl
    · simp
  have e1 : ∀ m, conv (Dv f) (inv f) m = -s m := fun m => by
    have e : conv (Dv f) (inv f) m = conv (fun i => -1 * conv s f i) (inv f) m := conv_low (fun i _ => by rw [h.rec_ i]; omega) fun _ _ => rfl
    rw [e, conv_scale, conv_assoc, conv_inv h.f0, conv_c s, conv_one]
    omega
  have e2 : conv f (Dv (inv f)) = s := funext fun m => by have := z m; rw [e1] at this; omega
  have e3 : Dv (inv f) = conv (inv f) s := by rw [← e2, ← conv_a, conv_c (inv f), conv_inv h.f0, conv_one]
  rw [e3, conv_comm]
  have e4 : conv (mS (-1) s) (inv f) n = -1 * conv s (inv f) n := conv_scale (-1) s _ n
  rw [e4]
  omega
theorem so_ex {f : Nat → Int} (f0 : f 0 = 1) : ∃ s, So s f := by
  refine ⟨fun n => -1 * conv (Dv f) (inv f) n, f0, ?_, fun n => ?_⟩
  · show -1 * (0 + Dv f 0 * inv f 0) = 0
    unfold Dv
    simp
  · rw [conv_scale, conv_assoc, conv_c (inv f), conv_inv f0, conv_c (Dv f), conv_one]
    omega
def Grow (A : Nat) (f : Nat → Int) : Prop := ∀ n, (f n).natAbs ≤ A ^ n
theorem Sg_abs2 {f : Nat → Int} {c : Nat} : ∀ m : Nat, (∀ i, i < m → (f i).natAbs ≤ c) → (Sg f m).natAbs ≤ m * c
  | 0, _ => by show (0 : Int).natAbs ≤ _; simp
  | m + 1, h => by
    have h1 := Sg_abs2 m fun i hi => h i (by omega)
    have h2 := h m (by omega)
    have e : Sg f (m + 1) = Sg f m + f m := rfl
    rw [e, Nat.add_mul]
    omega
theorem succ_le_two (n : Nat) : n + 1 ≤ 2 ^ n := Nat.lt_two_pow_self
theorem grow_conv {A : Nat} {f g : Nat → Int} (hf : Grow A f) (hg : Grow A g) : Grow (2 * A) (conv f g) := fun n => by
  have h : (conv f g n).natAbs ≤ (n + 1) * A ^ n := Sg_abs2 (n + 1) fun i hi => by
    rw [Int.natAbs_mul]
    have e : A ^ n = A ^ i * A ^ (n - i) := by rw [← Nat.pow_add]; congr 1; omega
    rw [e]
    exact Nat.mul_le_mul (hf i) (hg _)
  rw [Nat.mul_pow]
  exact Nat.le_trans h (Nat.mul_le_mul_right _ (succ_le_two n))
theorem Grow.mono {A B : Nat} {f : Nat → Int} (h : Grow A f) (l : A ≤ B) : Grow B f := fun n => Nat.le_trans (h n) (Nat.pow_le_pow_left l n)
theorem grow_one : Grow 1 oneF := fun n => by
  unfold oneF
  split
  · next h => rw [h]; decide
  · exact Nat.zero_le _
theorem sum_two (A : Nat) (n : Nat) : ∀ m : Nat, m ≤ n → ∀ f : Nat → Int, (∀ i, i < m → (f i).natAbs ≤ A * 2 ^ (n - 1 - i)) → (Sg f m).natAbs + A * 2 ^ (n - m) ≤ A * 2 ^ n
  | 0, _, f, _ => by show (0 : Int).natAbs + _ ≤ _; rw [Nat.sub_zero]; simp
  | m + 1, hm, f, h => by
    have ih := sum_two A n m (by omega) f fun i hi => h i (by omega)
    have h2 := h m (by omega)
    have e : Sg f (m + 1) = Sg f m + f m := rfl
    have e2 : A * 2 ^ (n - m) = A * 2 ^ (n - (m + 1)) + A * 2 ^ (n - (m + 1)) := by
      rw [show n - m = n - (m + 1) + 1 by omega, Nat.pow_succ, ← Nat.mul_assoc]
      omega
    rw [show n - 1 - m = n - (m + 1) by omega] at h2
    rw [e]
    omega
theorem grow_inv {A : Nat} {f : Nat → Int} (hf : Grow A f) : Grow (2 * A) (inv f) := fun n => by
  induction n using Nat.strongRecOn with
  | ind n ih =>
    cases n with
    | zero => show (1 : Int).natAbs ≤ 1; decide
    | succ n =>
      rw [inv_succ, Int.natAbs_neg]
      have h := sum_two (A ^ (n + 1)) (n + 1) (n + 1) (Nat.le_refl _) (fun j => f (j + 1) * inv f (n - j)) fun i hi => by
        show (f (i + 1) * inv f (n - i)).natAbs ≤ _
        rw [Int.natAbs_mul]
        have h1 := hf (i + 1)
        have h2 := ih (n - i) (by omega)
        rw [Nat.mul_pow] at h2
        have e : A ^ (n + 1) = A ^ (i + 1) * A ^ (n - i) := by rw [← Nat.pow_add]; congr 1; omega
        rw [e, show n + 1 - 1 - i = n - i by omega, Nat.mul_assoc, Nat.mul_comm (A ^ (n - i))]
        exact Nat.mul_le_mul h1 h2
      rw [Nat.mul_pow, Nat.mul_comm (2 ^ (n + 1))]
      omega
end Ft

namespace Ft
/-! ### powers of rows, up to M terms -/
instance conv_A : Std.Associative conv := ⟨conv_a⟩
instance conv_C : Std.Commutative conv := ⟨conv_c⟩
def np (f : Nat → Int) : Nat → Nat → Int
  | 0 => oneF
  | k + 1 => conv (np f k) f
theorem np_one (f : Nat → Int) : np f 1 = f := conv_one f
theorem np_add (f : Nat → Int) (a : Nat) : ∀ b, np f (a + b) = conv (np f a) (np f b)
  | 0 => by show np f a = conv (np f a) oneF; rw [conv_c, conv_one]
  | b + 1 => by
    show conv (np f (a + b)) f = conv (np f a) (conv (np f b) f)
    rw [np_add f a b, conv_a]
theorem np_mul (f : Nat → Int) (a : Nat) : ∀ b, np f (a * b) = np (np f a) b
  | 0 => rfl
  | b + 1 => by
    show np f (a * (b + 1)) = conv (np (np f a) b) (np f a)
    rw [Nat.mul_succ, np_add, np_mul f a b]
theorem np_conv (f g : Nat → Int) : ∀ k, np (conv f g) k = conv (np f k) (np g k)
  | 0 => (conv_one oneF).symm
  | k + 1 => by
    show conv (np (conv f g) k) (conv f g) = conv (conv (np f k) f) (conv (np g k) g)
    rw [np_conv f g k]
    ac_rfl
theorem np_oneF : ∀ k, np oneF k = oneF
  | 0 => rfl
  | k + 1 => by show conv (np oneF k) oneF = oneF; rw [np_oneF k, conv_one]
/-- a number as a row -/
def cS (b : Int) (n : Nat) : Int := if n = 0 then b else 0
theorem cS_one : cS 1 = oneF := rfl
theorem conv_cS (b : Int) (f : Nat → Int) : conv (cS b) f = fun n => b * f n := funext fun n => by
  have e : cS b = fun i => b * oneF i := funext fun i => by unfold cS oneF; split <;> simp
  rw [e, conv_scale, conv_one]
theorem cS_mul (a b : Int) : conv (cS a) (cS b) = cS (a * b) := by
  rw [conv_cS]
  funext n
  unfold cS
  split
  · rfl
  · exact Int.mul_zero _
theorem np_cS (b : Int) : ∀ k, np (cS b) k = cS (b ^ k)
  | 0 => by show oneF = _; rw [Int.pow_zero, cS_one]
  | k + 1 => by show conv (np (cS b) k) (cS b) = _; rw [np_cS b k, cS_mul, Int.pow_succ]
theorem conv_0 (f g : Nat → Int) : conv f g 0 = f 0 * g 0 := by
  show 0 + f 0 * g (0 - 0) = _
  rw [Int.zero_add]
theorem np_0 (f : Nat → Int) : ∀ k, np f k 0 = f 0 ^ k
  | 0 => by rw [Int.pow_zero]; rfl
  | k + 1 => by show conv (np f k) f 0 = _; rw [conv_0, np_0 f k, Int.pow_succ]
/-- equal up to M terms -/
def Eqm (M : Nat) (f g : Nat → Int) : Prop := ∀ n, n < M → f n = g n
theorem Eqm.refl {M : Nat} (f : Nat → Int) : Eqm M f f := fun _ _ => rfl
theorem Eqm.of {M : Nat} {f g : Nat → Int} (h : f = g) : Eqm M f g := h ▸ Eqm.refl f
theorem Eqm.symm {M : Nat} {f g : Nat → Int} (h : Eqm M f g) : Eqm M g f := fun n hn => (h n hn).symm
theorem Eqm.trans {M : Nat} {f g k : Nat → Int} (h : Eqm M f g) (h2 : Eqm M g k) : Eqm M f k := fun n hn => (h n hn).trans (h2 n hn)
theorem Eqm.conv {M : Nat} {f g f' g' : Nat → Int} (h : Eqm M f f') (h2 : Eqm M g g') : Eqm M (conv f g) (Ft.conv f' g') := fun n hn => conv_congr (fun i hi => h i (by omega)) fun i hi => h2 i (by omega)
theorem Eqm.np {M : Nat} {f g : Nat → Int} (h : Eqm M f g) : ∀ k, Eqm M (np f k) (np g k)
  | 0 => Eqm.refl _
  | k + 1 => (Eqm.np h k).conv h
theorem cancel_zero {M : Nat} {x d : Nat → Int} (x0 : x 0 ≠ 0) (h : ∀ n, n < M → conv x d n = 0) : ∀ n, n < M → d n = 0 := fun n => by
  induction n using Nat.strongRecOn with
  | ind n ih =>
    intro hn
    have e := h n hn
    unfold Ft.conv at e
    rw [Sg_head] at e
    have z : Sg (fun i => x (i + 1) * d (n - (i + 1))) n = 0 := by
      have : Sg (fun i => x (i + 1) * d (n - (i + 1))) n = Sg (fun _ => 0 * 0) n := Sg_congr fun i hi => by rw [ih (n - (i + 1)) (by omega) (by omega), Int.mul_zero, Int.mul_zero]
      rw [this, Sg_mul 0 (fun _ => 0), Int.zero_mul]
    rw [z, Int.add_zero, Nat.sub_zero] at e
    rcases Int.mul_eq_zero.mp e with e | e
    · exact absurd e x0
    · exact e
theorem Eqm.cancel {M : Nat} {x f g : Nat → Int} (x0 : x 0 ≠ 0) (h : Eqm M (Ft.conv x f) (Ft.conv x g)) : Eqm M f g := fun n hn => by
  have e : ∀ n, n < M → Ft.conv x (fun i => f i + (-1) * g i) n = 0 := fun n hn => by
    rw [conv_add x f (fun i => (-1) * g i), conv_c x (fun i => (-1) * g i), conv_scale, conv_c g x, h n hn]
    omega
  have := cancel_zero x0 e n hn
  omega
/-- z over c is the k-th power of f over b, k = p - q -/
def Zp (M : Nat) (b : Int) (f : Nat → Int) (p q : Nat) (c : Int) (z : Nat → Int) : Prop := Eqm M (conv (conv z (np f q)) (np (cS b) p)) (conv (conv (cS c) (np (cS b) q)) (np f p))
theorem cS_0 (b : Int) : cS b 0 = b := rfl
theorem np0_ne {f : Nat → Int} (h : f 0 ≠ 0) (k : Nat) : np f k 0 ≠ 0 := by rw [np_0]; exact Int.pow_ne_zero h
theorem Zp.uniq {M p q p' q' : Nat} {b c c' : Int} {f z z' : Nat → Int} (h : Zp M b f p q c z) (h' : Zp M b f p' q' c' z') (e : p + q' = p' + q) (b0 : b ≠ 0) (f0 : f 0 ≠ 0 ∨ (q = 0 ∧ q' = 0)) : Eqm M (conv (cS c') z) (conv (cS c) z') := by
  have u : Eqm M (conv (conv (np f (q + q')) (np (cS b) (p + q'))) (conv (cS c') z)) (conv (conv (np f (q + q')) (np (cS b) (p + q'))) (conv (cS c) z')) := by
    have h1 := h.conv (Eqm.refl (conv (conv (np f q') (np (cS b) q')) (cS c')))
    have h2 := h'.conv (Eqm.refl (conv (conv (np f q) (np (cS b) q)) (cS c)))
    have l1 : conv (conv (np f (q + q')) (np (cS b) (p + q'))) (conv (cS c') z) = conv (conv (conv z (np f q)) (np (cS b) p)) (conv (conv (np f q') (np (cS b) q')) (cS c')) := by
      rw [np_add, np_add]; ac_rfl
    have l2 : conv (conv (np f (q + q')) (np (cS b) (p + q'))) (conv (cS c) z') = conv (conv (conv z' (np f q')) (np (cS b) p')) (conv (conv (np f q) (np (cS b) q)) (cS c)) := by
      rw [e, np_add, np_add]; ac_rfl
    have l3 : conv (conv (conv (cS c) (np (cS b) q)) (np f p)) (conv (conv (np f q') (np (cS b) q')) (cS c')) = conv (conv (conv (cS c') (np (cS b) q')) (np f p')) (conv (conv (np f q) (np (cS b) q)) (cS c)) := by
      have e1 : np f (p + q') = np f (p' + q) := by rw [e]
      rw [np_add, np_add] at e1
      have a1 : conv (conv (conv (cS c) (np (cS b) q)) (np f p)) (conv (conv (np f q') (np (cS b) q')) (cS c')) = conv (conv (conv (cS c) (cS c')) (conv (np (cS b) q) (np (cS b) q'))) (conv (np f p) (np f q')) := by ac_rfl
      have a2 : conv (conv (conv (cS c') (np (cS b) q')) (np f p')) (conv (conv (np f q) (np (cS b) q)) (cS c)) = conv (conv (conv (cS c) (cS c')) (conv (np (cS b) q) (np (cS b) q'))) (conv (np f p') (np f q)) := by ac_rfl
      rw [a1, a2, e1]
    rw [l1, l2]
    exact h1.trans ((Eqm.of l3).trans h2.symm)
  refine u.cancel ?_
  rw [conv_0, np_cS, cS_0]
  refine Int.mul_ne_zero ?_ (Int.pow_ne_zero b0)
  rcases f0 with f0 | ⟨rfl, rfl⟩
  · exact np0_ne f0 _
  · exact Int.one_ne_zero
/-- powers together -/
theorem Zp.mul {M p q p' q' : Nat} {b c c' : Int} {f z z' : Nat → Int} (h : Zp M b f p q c z) (h' : Zp M b f p' q' c' z') : Zp M b f (p + p') (q + q') (c * c') (conv z z') := by
  have := h.conv h'
  unfold Zp
  refine Eqm.trans (Eqm.of ?_) (this.trans (Eqm.of ?_))
  · rw [np_add, np_add]; ac_rfl
  · rw [np_add, np_add, ← cS_mul]; ac_rfl
/-- powers of powers -/
theorem Zp.pow {M p1 q1 p2 q2 : Nat} {b c1 c2 : Int} {f z1 z2 : Nat → Int} (h : Zp M b f p1 q1 c1 z1) (h' : Zp M c1 z1 p2 q2 c2 z2) (c0 : c1 ≠ 0) : Zp M b f (p1 * p2 + q1 * q2) (p1 * q2 + q1 * p2) c2 z2 := by
  have up : ∀ e, Eqm M (conv (conv (np z1 e) (np f (q1 * e))) (np (cS b) (p1 * e))) (conv (conv (np (cS c1) e) (np (cS b) (q1 * e))) (np f (p1 * e))) := fun e => by
    have := h.np e
    rw [np_conv, np_conv, np_conv, np_conv, ← np_mul, ← np_mul, ← np_mul, ← np_mul] at this
    exact this
  have k := h'.conv (Eqm.refl (conv (conv (np f (q1 * q2)) (np f (q1 * p2))) (conv (np (cS b) (p1 * q2)) (np (cS b) (p1 * p2)))))
  have uq := up q2
  have upp := up p2
  -- the left side
  have L : Eqm M (conv (conv (conv z2 (np z1 q2)) (np (cS c1) p2)) (conv (conv (np f (q1 * q2)) (np f (q1 * p2))) (conv (np (cS b) (p1 * q2)) (np (cS b) (p1 * p2))))) (conv (conv (np (cS c1) q2) (np (cS c1) p2)) (conv (conv z2 (np f (p1 * q2 + q1 * p2))) (np (cS b) (p1 * p2 + q1 * q2)))) := by
    refine Eqm.trans (Eqm.of ?_) ((uq.conv (Eqm.refl (conv (conv z2 (np (cS c1) p2)) (conv (np f (q1 * p2)) (np (cS b) (p1 * p2)))))).trans (Eqm.of ?_))
    · ac_rfl
    · rw [np_add f, np_add (cS b)]; ac_rfl
  have R : Eqm M (conv (conv (conv (cS c2) (np (cS c1) q2)) (np z1 p2)) (conv (conv (np f (q1 * q2)) (np f (q1 * p2))) (conv (np (cS b) (p1 * q2)) (np (cS b) (p1 * p2))))) (conv (conv (np (cS c1) q2) (np (cS c1) p2)) (conv (conv (cS c2) (np (cS b) (p1 * q2 + q1 * p2))) (np f (p1 * p2 + q1 * q2)))) := by
    refine Eqm.trans (Eqm.of ?_) ((upp.conv (Eqm.refl (conv (conv (cS c2) (np (cS c1) q2)) (conv (np f (q1 * q2)) (np (cS b) (p1 * q2)))))).trans (Eqm.of ?_))
    · ac_rfl
    · rw [np_add f, np_add (cS b)]; ac_rfl
  have fin := L.symm.trans (k.trans R)
  refine fin.cancel ?_
  rw [conv_0, np_cS, np_cS, cS_0, cS_0]
  exact Int.mul_ne_zero (Int.pow_ne_zero c0) (Int.pow_ne_zero c0)
/-- powers of products -/
theorem Zp.both {M p q : Nat} {b b' c c' : Int} {f f' z z' : Nat → Int} (h : Zp M b f p q c z) (h' : Zp M b' f' p q c' z') : Zp M (b * b') (conv f f') p q (c * c') (conv z z') := by
  have := h.conv h'
  unfold Zp
  refine Eqm.trans (Eqm.of ?_) (this.trans (Eqm.of ?_))
  · rw [np_conv, ← cS_mul, np_conv]; ac_rfl
  · rw [np_conv, ← cS_mul, ← cS_mul, np_conv]; ac_rfl
/-- in other terms -/
theorem Zp.scale {M p q : Nat} {b c g : Int} {f z : Nat → Int} (h : Zp M b f p q (g * c) (fun n => g * z n)) (g0 : g ≠ 0) : Zp M b f p q c z := by
  have h : Eqm M (conv (cS g) (conv (conv z (np f q)) (np (cS b) p))) (conv (cS g) (conv (conv (cS c) (np (cS b) q)) (np f p))) := by
    refine Eqm.trans (Eqm.of ?_) (h.trans (Eqm.of ?_))
    · rw [← conv_cS]; ac_rfl
    · rw [← cS_mul]; ac_rfl
  exact h.cancel g0
theorem Zp.scaleB {M p q : Nat} {b c g : Int} {f z : Nat → Int} (h : Zp M (g * b) (fun n => g * f n) p q c z) (g0 : g ≠ 0) : Zp M b f p q c z := by
  have h : Eqm M (conv (np (cS g) (p + q)) (conv (conv z (np f q)) (np (cS b) p))) (conv (np (cS g) (p + q)) (conv (conv (cS c) (np (cS b) q)) (np f p))) := by
    refine Eqm.trans (Eqm.of ?_) (h.trans (Eqm.of ?_))
    · rw [← conv_cS, ← cS_mul, np_conv, np_conv, np_add]; ac_rfl
    · rw [← conv_cS, ← cS_mul, np_conv, np_conv, np_add]; ac_rfl
  refine h.cancel ?_
  rw [np_cS, cS_0]
  exact Int.pow_ne_zero g0
end Ft

namespace Ft
/-! ### powers below 0, as the program makes them -/
def scF (F : Int) (f : Nat → Int) (n : Nat) : Int := F ^ n * f n
theorem Sg_fac (c : Int) (f g : Nat → Int) (n : Nat) (h : ∀ i, i < n → f i = c * g i) : Sg f n = c * Sg g n := by
  rw [← Sg_mul]
  exact Sg_congr h
theorem scF_conv (F : Int) (f g : Nat → Int) : scF F (conv f g) = conv (scF F f) (scF F g) := funext fun n => by
  show F ^ n * Sg _ (n + 1) = Sg _ (n + 1)
  refine (Sg_fac (F ^ n) _ _ (n + 1) fun i hi => ?_).symm
  show F ^ i * f i * (F ^ (n - i) * g (n - i)) = F ^ n * (f i * g (n - i))
  have e : F ^ n = F ^ i * F ^ (n - i) := by rw [← Int.pow_add]; congr 1; omega
  rw [e]
  grind
theorem scF_one (F : Int) : scF F oneF = oneF := funext fun n => by
  unfold scF oneF
  split
  · rename_i h; rw [h, Int.pow_zero]; rfl
  · exact Int.mul_zero _
theorem scF_np (F : Int) (f : Nat → Int) : ∀ k, scF F (np f k) = np (scF F f) k
  | 0 => scF_one F
  | k + 1 => by show scF F (conv (np f k) f) = conv (np (scF F f) k) (scF F f); rw [scF_conv, scF_np F f k]
theorem scF_cS (F c : Int) : scF F (cS c) = cS c := funext fun n => by
  unfold scF cS
  split
  · rename_i h; rw [h, Int.pow_zero, Int.one_mul]
  · exact Int.mul_zero _
def ccR (F : Int) (f : Nat → Int) (n : Nat) : Int := if n = 0 then 1 else f n * F ^ (n - 1)
theorem ccR_0 (F : Int) (f : Nat → Int) : ccR F f 0 = 1 := rfl
theorem scF_cc {F : Int} {f : Nat → Int} (h : f 0 = F) : scF F f = conv (cS F) (ccR F f) := by
  rw [conv_cS]
  funext n
  unfold scF ccR
  cases n with
  | zero => rw [Int.pow_zero, Int.one_mul, if_pos rfl, Int.mul_one]; exact h
  | succ n =>
    rw [if_neg (by omega), Nat.add_sub_cancel, Int.pow_succ]
    grind
def madeR (F : Int) (f : Nat → Int) (K : Nat) : Nat → Int := np (inv (ccR F f)) K
theorem made_inv (F : Int) (f : Nat → Int) (K : Nat) : conv (madeR F f K) (np (ccR F f) K) = oneF := by
  unfold madeR
  rw [← np_conv, conv_c, conv_inv (ccR_0 F f), np_oneF]
def belowR (B F : Int) (f : Nat → Int) (K last n : Nat) : Int := madeR F f K n * B ^ K * F ^ (last - n)
theorem below_Zp {B F : Int} {f : Nat → Int} {K last : Nat} (h : f 0 = F) (F0 : F ≠ 0) : Zp (last + 1) B f 0 K (F ^ (last + K)) (belowR B F f K last) := by
  have e : Eqm (last + 1) (scF F (belowR B F f K last)) (conv (cS (B ^ K * F ^ last)) (madeR F f K)) := fun n hn => by
    rw [conv_cS]
    show F ^ n * (madeR F f K n * B ^ K * F ^ (last - n)) = B ^ K * F ^ last * madeR F f K n
    have e : F ^ last = F ^ n * F ^ (last - n) := by rw [← Int.pow_add]; congr 1; omega
    rw [e]
    grind
  have m : Eqm (last + 1) (scF F (conv (conv (belowR B F f K last) (np f K)) (np (cS B) 0))) (scF F (conv (conv (cS (F ^ (last + K))) (np (cS B) K)) (np f 0))) := by
    refine Eqm.trans (Eqm.of ?_) ((e.conv (Eqm.refl (np (conv (cS F) (ccR F f)) K))).trans (Eqm.of ?_))
    · show scF F (conv (conv _ _) oneF) = _
      rw [conv_c _ oneF, conv_one, scF_conv, scF_np, scF_cc h]
    · show _ = scF F (conv (conv _ _) oneF)
      rw [conv_c _ oneF, conv_one, np_cS, cS_mul, scF_cS, np_conv, np_cS]
      have := made_inv F f K
      have a : conv (conv (cS (B ^ K * F ^ last)) (madeR F f K)) (conv (cS (F ^ K)) (np (ccR F f) K)) = conv (conv (cS (B ^ K * F ^ last)) (cS (F ^ K))) (conv (madeR F f K) (np (ccR F f) K)) := by ac_rfl
      rw [a, this, conv_c _ oneF, conv_one, cS_mul]
      congr 1
      rw [Int.pow_add]
      grind
  intro n hn
  have := m n hn
  exact Int.eq_of_mul_eq_mul_left (Int.pow_ne_zero F0) this
/-- the recurrence that the program solves -/
theorem so_made (F : Int) (f : Nat → Int) : ∃ s, So s (ccR F f) ∧ ∀ K : Nat, So (mS (-(K : Int)) s) (madeR F f K) := by
  obtain ⟨s, hs⟩ := so_ex (ccR_0 F f)
  refine ⟨s, hs, fun K => ?_⟩
  induction K with
  | zero => exact so_zero
  | succ K ih =>
    have := so_add ih (so_inv hs)
    show So (mS (-((K + 1 : Nat) : Int)) s) (conv (madeR F f K) (inv (ccR F f)))
    rw [show -((K + 1 : Nat) : Int) = -(K : Int) + -1 by omega]
    exact this
/-- growth -/
theorem cc_grow {F : Int} {f : Nat → Int} {N : Nat} (hF : F.natAbs ≤ N) (h1 : 1 ≤ N) (hf : ∀ n, (f n).natAbs ≤ N) : Grow N (ccR F f) := fun n => by
  unfold ccR
  split
  · rename_i h; rw [h]; exact Nat.le_refl _
  · rw [Int.natAbs_mul, Int.natAbs_pow]
    obtain ⟨m, rfl⟩ : ∃ m, n = m + 1 := ⟨n - 1, by omega⟩
    rw [Nat.add_sub_cancel, Nat.pow_succ, Nat.mul_comm]
    exact Nat.mul_le_mul (Nat.pow_le_pow_left hF m) (hf _)
theorem made_grow {F : Int} {f : Nat → Int} {N : Nat} (hF : F.natAbs ≤ N) (h1 : 1 ≤ N) (hf : ∀ n, (f n).natAbs ≤ N) : ∀ K, Grow (2 ^ (K + 1) * N) (madeR F f (K + 1))
  | 0 => by
    show Grow (2 ^ 1 * N) (conv oneF (inv (ccR F f)))
    rw [conv_one]
    exact grow_inv (cc_grow hF h1 hf)
  | K + 1 => by
    show Grow (2 ^ (K + 1 + 1) * N) (conv (madeR F f (K + 1)) (inv (ccR F f)))
    have a := made_grow hF h1 hf K
    have b : Grow (2 ^ (K + 1) * N) (inv (ccR F f)) := (grow_inv (cc_grow hF h1 hf)).mono (Nat.mul_le_mul_right N (by have := Nat.pow_le_pow_right (show 0 < 2 by decide) (show 1 ≤ K + 1 by omega); omega))
    have := grow_conv a b
    rwa [← Nat.mul_assoc, Nat.mul_comm 2, ← Nat.pow_succ] at this
/-- a row of a list -/
theorem pow_rec {s a b : Nat → Int} {k : Int} (h : So s a) (h2 : So (mS k s) b) (n : Nat) : (n : Int) * b n = Sg (fun j => (k * ((j + 1 : Nat) : Int) - (n : Int) + ((j + 1 : Nat) : Int)) * a (j + 1) * b (n - (j + 1))) n := by
  have e1 : conv a (Dv b) n = k * conv (Dv a) b n := by
    have e2 : conv (Dv a) b n = -conv s (conv a b) n := by
      rw [← conv_assoc]
      have := conv_scale (-1) (conv s a) b n
      rw [show -conv (conv s a) b n = -1 * conv (conv s a) b n by omega, ← this]
      exact conv_low (fun i hi => by rw [h.rec_ i]; omega) fun _ _ => rfl
    have e3 : conv a (Dv b) n = -(k * conv s (conv a b) n) := by
      have e4 : conv (fun i => -k * conv s b i) a n = -k * conv (conv s b) a n := conv_scale (-k) _ _ n
      rw [conv_comm a (Dv b), conv_low (t := fun i => -k * conv s b i) (fun i hi => ?_) fun _ _ => rfl, e4, conv_assoc, conv_c b a, Int.neg_mul]
      rw [h2.rec_ i, show conv (mS k s) b i = k * conv s b i from conv_scale k s b i, Int.neg_mul]
    rw [e3, e2, Int.mul_neg]
  cases n with
  | zero => simp [Sg]
  | succ n =>
    have hA : conv a (Dv b) (n + 1) = Dv b (n + 1) + Sg (fun j => a (j + 1) * Dv b (n + 1 - (j + 1))) (n + 1) := by
      unfold conv
      rw [Sg_head, h.f0, Int.one_mul]
      rfl
    have hB : conv (Dv a) b (n + 1) = Sg (fun j => Dv a (j + 1) * b (n + 1 - (j + 1))) (n + 1) := conv_head (s := Dv a) (by unfold Dv; simp) (n + 1)
    rw [hA, hB, ← Sg_mul] at e1
    have e5 : ((n + 1 : Nat) : Int) * b (n + 1) = Sg (fun j => k * (Dv a (j + 1) * b (n + 1 - (j + 1)))) (n + 1) - Sg (fun j => a (j + 1) * Dv b (n + 1 - (j + 1))) (n + 1) := by
      unfold Dv at e1 ⊢
      omega
    rw [e5]
    have e6 : ∀ (x y : Nat → Int) (m : Nat), Sg x m - Sg y m = Sg (fun j => x j - y j) m := fun x y m => by
      induction m with
      | zero => rfl
      | succ m ih => show Sg x m + x m - (Sg y m + y m) = Sg (fun j => x j - y j) m + (x m - y m); rw [← ih]; omega
    rw [e6]
    refine Sg_congr fun j hj => ?_
    unfold Dv
    have e7 : ((n + 1 - (j + 1) : Nat) : Int) = ((n + 1 : Nat) : Int) - ((j + 1 : Nat) : Int) := by omega
    rw [e7]
    generalize ((n + 1 : Nat) : Int) = x
    generalize ((j + 1 : Nat) : Int) = y
    grind
end Ft

set_option exponentiation.threshold 9000
namespace Ft
open PySem L2
theorem low_one (ts : List Int) : lowB 1 ts = 1 ∧ lowT 1 ts = ts := by
  have h : gcdL (1 : Int).natAbs ts = 1 := gcdL_one ts
  unfold lowB lowT
  rw [h]
  refine ⟨rfl, ?_⟩
  have : ∀ t ∈ ts, t / ((1 : Nat) : Int) = t := fun t _ => by
    show t / 1 = t
    exact Int.ediv_one t
  rw [List.map_congr_left this, List.map_id']
theorem range_getD (b : Nat → Int) {m i : Nat} (h : i < m) : (((List.range m).map b).map V.int)[i]? = some (V.int (b i)) := by
  rw [List.getElem?_map, List.getElem?_map, List.getElem?_range h]
  rfl
theorem one_row {M : Nat} (M1 : 1 ≤ M) : [V.int 1] ++ List.replicate (M - 1) (V.int 0) = ((List.range M).map oneF).map V.int := by
  obtain ⟨n, rfl⟩ : ∃ n, M = n + 1 := ⟨M - 1, by omega⟩
  rw [show n + 1 - 1 = n from rfl]
  simp only [List.range_succ_eq_map, List.map_cons, List.map_map]
  have hc : (V.int ∘ oneF ∘ Nat.succ) = fun _ => V.int 0 := funext fun i => by
    show V.int (oneF (i + 1)) = _
    unfold oneF
    rw [if_neg (by omega)]
  rw [hc, show (List.range n).map (fun _ : Nat => V.int 0) = List.replicate n (V.int 0) from List.map_const' .. ▸ by rw [List.length_range]]
  rfl
/-! ints of less than 400000 bits -/
def Bn (z : Int) : Prop := z.natAbs.log2 < 400000
theorem Bn.mul {i j : Int} (h1 : Bn i) (h2 : Bn j) : CMulW i j := by
  unfold Bn at h1 h2
  unfold CMulW
  omega
theorem Bn.of {z : Int} {a : Nat} (h : z.natAbs < 2 ^ a) (h0 : 0 < a) (h4 : a ≤ 400000) : Bn z := Nat.lt_of_lt_of_le (PySem.Flt.log2_lt_of h0 h) h4
theorem pow_lt_pow {x : Int} {a : Nat} (h : x.natAbs < 2 ^ a) : ∀ m, (x ^ m).natAbs ≤ 2 ^ (a * m)
  | 0 => by rw [Int.pow_zero]; exact Nat.le_refl 1
  | m + 1 => by
    rw [Int.pow_succ, Int.natAbs_mul, Nat.mul_succ, Nat.pow_add]
    exact Nat.mul_le_mul (pow_lt_pow h m) (Nat.le_of_lt h)
theorem Bn.pow {x : Int} {a m : Nat} (h : x.natAbs < 2 ^ a) (h4 : a * m < 400000) : Bn (x ^ m) := Bn.of (a := a * m + 1) (Nat.lt_of_le_of_lt (pow_lt_pow h m) (Nat.pow_lt_pow_right (by decide) (by omega))) (by omega) (by omega)
abbrev rg (M : Nat) (f : Nat → Int) : List Int := (List.range M).map f
theorem rg_len (M : Nat) (f : Nat → Int) : (rg M f).length = M := by rw [List.length_map, List.length_range]
theorem rgV_len (M : Nat) (f : Nat → Int) : ((rg M f).map V.int).length = M := by rw [List.length_map, rg_len]
def sp_raisedI : Sp := fun vs H Q _ => ∃ (x : Int) (e : Nat), vs = [.int x, .int (e : Int)] ∧ x.natAbs < 2 ^ 128 ∧ e ≤ 1000 ∧ Q (.int (x ^ e)) H
def sp_ptopsR : Sp := fun vs H Q _ => ∃ (p q : Addr) (M : Nat) (f g : Nat → Int), vs = [.ref p, .ref q] ∧ (H p = some (.lst ((rg M f).map V.int)) ∧ H q = some (.lst ((rg M g).map V.int))) ∧ M ≤ 400 ∧ (∀ n, n < M → Bn (f n)) ∧ (∀ n, n < M → Bn (g n)) ∧ ∀ H' r, Same H H' → H' r = some (.lst ((rg M (conv f g)).map V.int)) → Q (.ref r) H'
/-- the power of a row by squares: all powers up to there are small -/
def sp_powTR : Sp := fun vs H Q _ => ∃ (p : Addr) (a : Nat → Int) (M k : Nat), vs = [.ref p, .int (k : Int)] ∧ H p = some (.tup ((rg M a).map V.int)) ∧ (∀ i, i ≤ k → ∀ n, n < M → Bn (np a i n)) ∧ 1 ≤ M ∧ M ≤ 400 ∧ ∀ H' r, Same H H' → H' r = some (.lst ((rg M (np a k)).map V.int)) → Q (.ref r) H'
def sp_poneR : Sp := fun vs H Q _ => ∃ (p : Addr) (a : Nat → Int) (M : Nat) (k : Int) (b : Nat → Int), vs = [.ref p, .int k] ∧ H p = some (.lst ((rg M a).map V.int)) ∧ b 0 = 1 ∧ (∀ n : Nat, (n : Int) * b n = Sg (fun j => (k * ((j + 1 : Nat) : Int) - (n : Int) + ((j + 1 : Nat) : Int)) * a (j + 1) * b (n - (j + 1))) n) ∧ (∀ n, n < M → (a n).natAbs < 2 ^ 100000 ∧ (b n).natAbs < 2 ^ 100000) ∧ k.natAbs ≤ 400 ∧ 1 ≤ M ∧ M ≤ 400 ∧ ∀ H' r, Same H H' → H' r = some (.lst ((rg M b).map V.int)) → Q (.ref r) H'
/-! // of ints of up to 13000 bits, of either sign -/
def CDivX (i j : Int) : Prop := j ≠ 0 ∧ Builtin.divisionGoesByPylong i j = false
theorem op_fdivX {X : Cx} : OpR X (binaryOp .FloorDiv) (rI CDivX fun i j => .int (i.fdiv j)) := opI fun _ _ _ _ _ _ _ hc q => PyProof.Rows.floordiv_int hc.1 q (.inl hc.2)
theorem noPy {x y : Int} (h : x.natAbs.log2 < 13000) : Builtin.divisionGoesByPylong x y = false := by
  have kx : (if x == 0 then 0 else x.natAbs.log2 / 30 + 1) ≤ 434 := by
    by_cases hy : (x == 0) = true
    · rw [if_pos hy]; exact Nat.zero_le _
    · rw [if_neg hy]; omega
  show (decide ((if y == 0 then 0 else y.natAbs.log2 / 30 + 1) > 300) && decide ((if x == 0 then 0 else x.natAbs.log2 / 30 + 1) > (if y == 0 then 0 else y.natAbs.log2 / 30 + 1) + 150)) = false
  by_cases g : (if y == 0 then 0 else y.natAbs.log2 / 30 + 1) > 300
  · rw [decide_eq_false (p := (if x == 0 then 0 else x.natAbs.log2 / 30 + 1) > _) (by omega), Bool.and_false]
  · rw [decide_eq_false g]
    rfl
/-- what lowered can divide -/
def LowC (b : Int) (ts : List Int) : Prop := b ≠ 0 ∧ (b.natAbs < 2 ^ 9000 ∨ (b.natAbs < 2 ^ 13000 ∧ ∀ t ∈ ts, t.natAbs < 2 ^ 13000))
theorem LowC.div {b : Int} {ts : List Int} (h : LowC b ts) {g : Nat} (g0 : 0 < g) (gl : g ≤ b.natAbs) {s : Int} (hs : s = (g : Int) ∨ s = -(g : Int)) {t : Int} (ht : t = b ∨ t ∈ ts) : CDivX t s := by
  have sn : s.natAbs = g := by omega
  refine ⟨by omega, ?_⟩
  rcases h.2 with h | ⟨h1, h2⟩
  · exact PyProof.noPylong_of_log2 (PySem.Flt.log2_lt_of (by decide) (Nat.lt_of_le_of_lt (by omega : s.natAbs ≤ b.natAbs) h))
  · refine noPy (PySem.Flt.log2_lt_of (by decide) ?_)
    rcases ht with rfl | ht
    · exact h1
    · exact h2 _ ht
/-- with the bottom above 0 -/
def ngT (b : Int) (ts : List Int) : List Int := if b < 0 then ts.map fun t => -t else ts
theorem gcdL_neg : ∀ (ts : List Int) (g : Nat), gcdL g (ts.map fun t => -t) = gcdL g ts
  | [], _ => rfl
  | t :: ts, g => by
    show gcdL (Nat.gcd g (-t).natAbs) (ts.map fun t => -t) = gcdL (Nat.gcd g t.natAbs) ts
    rw [Int.natAbs_neg]
    exact gcdL_neg ts _
theorem gcdL_ng (b : Int) (ts : List Int) : gcdL ((b.natAbs : Nat) : Int).natAbs (ngT b ts) = gcdL b.natAbs ts := by
  unfold ngT
  rw [Int.natAbs_natCast]
  split
  · exact gcdL_neg _ _
  · rfl
theorem fdiv_pos {g : Nat} (g0 : 0 < g) (t : Int) : t.fdiv (g : Int) = t / (g : Int) := Int.fdiv_eq_ediv_of_nonneg t (by omega)
theorem fdiv_ng {g : Nat} (g0 : 0 < g) {t : Int} (h : (g : Int) ∣ t) : t.fdiv (-(g : Int)) = -t / (g : Int) := by
  obtain ⟨c, rfl⟩ := h
  have e : (g : Int) * c = -(g : Int) * -c := by grind
  rw [e, Int.mul_fdiv_cancel_left _ (by omega), ← e, show -((g : Int) * c) = (g : Int) * -c by grind, Int.mul_ediv_cancel_left _ (by omega)]
def sp_loweredX : Sp := fun vs H Q _ => ∃ (b : Int) (p : Addr) (ts : List Int), vs = [.int b, .ref p] ∧ (H p = some (.lst (ts.map V.int))) ∧ LowC b ts ∧ ts.length ≤ 1000 ∧ ∀ H' v, Same H H' → Bg H' v (lowB (b.natAbs : Int) (ngT b ts)) (lowT (b.natAbs : Int) (ngT b ts)) → Q v H'
theorem two_pow_lt {N a n k : Nat} (hN : N < 2 ^ a) (h : a * n < k) : N ^ n < 2 ^ k := by
  refine Nat.lt_of_le_of_lt (Nat.pow_le_pow_left (Nat.le_of_lt hN) n) ?_
  rw [← Nat.pow_mul]
  exact Nat.pow_lt_pow_right (by decide) h
/-- the row and its bottom that power_below makes -/
def sp_pbelowR : Sp := fun vs H Q _ => ∃ (p : Addr) (T : Nat → Int) (M K N : Nat) (B : Int), vs = [.int B, .ref p, .int (-(K : Int))] ∧ H p = some (.tup ((rg M T).map V.int)) ∧ T 0 ≠ 0 ∧ 1 ≤ K ∧ K ≤ 24 ∧ 1 ≤ M ∧ M ≤ 120 ∧ N < 2 ^ 100 ∧ B.natAbs ≤ N ∧ (∀ n, (T n).natAbs ≤ N) ∧ LowC (T 0 ^ (M - 1 + K)) (rg M (belowR B (T 0) T K (M - 1))) ∧
  ∀ H' u, Same H H' → Bg H' u (lowB (((T 0 ^ (M - 1 + K)).natAbs : Nat) : Int) (ngT (T 0 ^ (M - 1 + K)) (rg M (belowR B (T 0) T K (M - 1))))) (lowT (((T 0 ^ (M - 1 + K)).natAbs : Nat) : Int) (ngT (T 0 ^ (M - 1 + K)) (rg M (belowR B (T 0) T K (M - 1))))) → Q u H'
/-! ### the power of a beginning -/
theorem Zp.upB {M p q : Nat} {b c g : Int} {f z : Nat → Int} (h : Zp M b f p q c z) : Zp M (g * b) (fun n => g * f n) p q c z := by
  have := h.conv (Eqm.refl (np (cS g) (p + q)))
  unfold Zp
  refine Eqm.trans (Eqm.of ?_) (this.trans (Eqm.of ?_))
  · rw [← conv_cS, ← cS_mul, np_conv, np_conv, np_add]; ac_rfl
  · rw [← conv_cS, ← cS_mul, np_conv, np_conv, np_add]; ac_rfl
theorem Zp.congr {M p q : Nat} {b c : Int} {f f' z : Nat → Int} (h : Zp M b f p q c z) (e : Eqm M f f') : Zp M b f' p q c z := by
  have a := ((Eqm.refl (M := M) z).conv (e.symm.np q)).conv (Eqm.refl (np (cS b) p))
  have b' := (Eqm.refl (M := M) (conv (cS c) (np (cS b) q))).conv (e.np p)
  exact a.trans (h.trans b')
theorem Zp.congrZ {M p q : Nat} {b c : Int} {f z z' : Nat → Int} (h : Zp M b f p q c z) (e : Eqm M z z') : Zp M b f p q c z' := ((e.symm.conv (Eqm.refl _)).conv (Eqm.refl _)).trans h
theorem Zp.up (M k : Nat) (b : Int) (f : Nat → Int) : Zp M b f k 0 (b ^ k) (np f k) := by
  refine Eqm.of ?_
  show conv (conv (np f k) oneF) (np (cS b) k) = conv (conv (cS (b ^ k)) oneF) (np f k)
  rw [np_cS, conv_c _ oneF, conv_one, conv_c (cS (b ^ k)) oneF, conv_one, conv_c]
def bdP (N M : Nat) (k : Int) : Nat := if 0 ≤ k then (M * N) ^ k.toNat else 2 ^ (k.natAbs * M) * N ^ (M + k.natAbs)
theorem conv_abs {M A B : Nat} {f g : Nat → Int} (hf : ∀ n, n < M → (f n).natAbs ≤ A) (hg : ∀ n, n < M → (g n).natAbs ≤ B) : ∀ n, n < M → (conv f g n).natAbs ≤ M * (A * B) := fun n hn => by
  refine Nat.le_trans (Sg_abs2 (c := A * B) (n + 1) fun i hi => ?_) (Nat.mul_le_mul_right _ hn)
  rw [Int.natAbs_mul]
  exact Nat.mul_le_mul (hf i (by omega)) (hg (n - i) (by omega))
theorem np_abs {M N : Nat} {f : Nat → Int} (hf : ∀ n, n < M → (f n).natAbs ≤ N) : ∀ k n, n < M → (np f k n).natAbs ≤ (M * N) ^ k
  | 0, n, _ => by
    show (oneF n).natAbs ≤ 1
    unfold oneF
    split <;> decide
  | k + 1, n, hn => by
    have := conv_abs (np_abs hf k) hf n hn
    rw [Nat.pow_succ]
    rw [← Nat.mul_assoc, Nat.mul_comm M, Nat.mul_assoc] at this
    exact this
theorem below_abs {M N K : Nat} {B : Int} {T : Nat → Int} (k1 : 1 ≤ K) (N1 : 1 ≤ N) (bB : B.natAbs ≤ N) (bT : ∀ n, (T n).natAbs ≤ N) : (T 0 ^ (M - 1 + K)).natAbs ≤ 2 ^ (K * M) * N ^ (M + K) ∧ ∀ n, n < M → (belowR B (T 0) T K (M - 1) n).natAbs ≤ 2 ^ (K * M) * N ^ (M + K) := by
  obtain ⟨k0, rfl⟩ : ∃ k0, K = k0 + 1 := ⟨K - 1, by omega⟩
  refine ⟨?_, fun n hn => ?_⟩
  · rw [Int.natAbs_pow]
    refine Nat.le_trans (Nat.pow_le_pow_left (bT 0) _) (Nat.le_trans (Nat.pow_le_pow_right N1 (by omega)) (Nat.le_mul_of_pos_left _ (Nat.two_pow_pos _)))
  · unfold belowR
    rw [Int.natAbs_mul, Int.natAbs_mul, Int.natAbs_pow, Int.natAbs_pow]
    have g := made_grow (bT 0) N1 bT k0 n
    rw [Nat.mul_pow, ← Nat.pow_mul] at g
    have a := Nat.mul_le_mul (Nat.mul_le_mul g (Nat.pow_le_pow_left bB (k0 + 1))) (Nat.pow_le_pow_left (bT 0) (M - 1 - n))
    refine Nat.le_trans a ?_
    have e : 2 ^ ((k0 + 1) * n) * N ^ n * N ^ (k0 + 1) * N ^ (M - 1 - n) = 2 ^ ((k0 + 1) * n) * N ^ (n + (k0 + 1) + (M - 1 - n)) := by
      rw [Nat.pow_add, Nat.pow_add]
      grind
    rw [e]
    exact Nat.mul_le_mul (Nat.pow_le_pow_right (by decide) (Nat.mul_le_mul_left _ (by omega))) (Nat.pow_le_pow_right N1 (by omega))
def sp_powerR : Sp := fun vs H Q _ => ∃ (v : V) (b : Int) (M N : Nat) (f : Nat → Int) (k : Int), vs = [v, .int k] ∧ Bg H v b (rg M f) ∧ 1 ≤ b ∧ 1 ≤ M ∧ M ≤ 120 ∧ N < 2 ^ 100 ∧ b.natAbs ≤ N ∧ (∀ n, (f n).natAbs ≤ N) ∧ (k < 0 → f 0 ≠ 0) ∧ k.natAbs ≤ 24 ∧ (k < 0 → bdP N M k < 2 ^ 13000) ∧
  ∀ H' u c z, Same H H' → 0 < c → Bg H' u (lowB c (rg M z)) (lowT c (rg M z)) → Zp M b f k.toNat (-k).toNat c z → c.natAbs ≤ bdP N M k → (∀ n, n < M → (z n).natAbs ≤ bdP N M k) → Q u H'
theorem ng_rg (c : Int) (M : Nat) (z : Nat → Int) : ngT c (rg M z) = rg M fun n => if c < 0 then -z n else z n := by
  unfold ngT
  by_cases h : c < 0
  · rw [if_pos h, List.map_map]
    exact List.map_congr_left fun n _ => (if_pos h).symm
  · rw [if_neg h]
    exact List.map_congr_left fun n _ => (if_neg h).symm
theorem low_rg (b : Int) (M : Nat) (f : Nat → Int) : lowT b (rg M f) = rg M fun n => f n / ((gcdL b.natAbs (rg M f) : Nat) : Int) := by
  unfold lowT
  rw [List.map_map]
  rfl
end Ft

set_option exponentiation.threshold 9000
namespace Ft
open PySem L2
section
variable {P : Program} {w : World} {K : PySem.W.Frag} {mg : Str → Option Value} {base : Heap}
theorem ok_raisedI (D : Df K mg "raised" s_raised ["base", "exponent"]) : Cal P w K mg base 1 "raised" sp_raisedI := by
  obtain ⟨f, fd, F, m, b⟩ := D.ex
  have sc := sc_raised
  refine ⟨f, fd, _, F.ok sc (fun _ _ _ _ ⟨_, _, e, _⟩ => by rw [e]; rfl) (fun cdv A outer s H vs Q E hr h => ?_), m, F.kp, b⟩
  obtain ⟨x, n, rfl, hx, hn, q⟩ := h
  refine ⟨_, (pss_cons (ps_set (i := 2) sc.nd rfl (Or.inl rfl) pe_int)
      (pss_cons (ps_set (i := 3) sc.nd rfl (Or.inl rfl) (pv 0))
      (pss_cons (ps_while PassesOwn.never (pt_cmpR op_gt (pv 1) pe_int (nomark _))
      (pss_cons (ps_if (pt_cmpR op_eq (pe_op op_mod (pv 1) pe_int) pe_int (nomark _))
        (pss_one (ps_set (i := 2) sc.nd rfl (Or.inl rfl) (pe_op op_mulW (pv 2) (pv 3))))
        pss_nil)
        (pss_cons (ps_set (i := 3) sc.nd rfl (Or.inl rfl) (pe_op op_mulW (pv 3) (pv 3)))
        (pss_one (ps_set (i := 1) sc.nd rfl (Or.inl rfl) (pe_op op_fdivW (pv 1) pe_int))))))
      (pss_one (ps_ret (pv 2)))))), ?_⟩
  have bn : ∀ m, m ≤ 2000 → Bn (x ^ m) := fun m hm => Bn.pow hx (by omega)
  refine ⟨_, rfl, ?_⟩
  refine while_go (fun σ H' => H = H' ∧ ∃ (e i j : Nat), σ = [some (.int x), some (.int (e : Nat)), some (.int (x ^ i)), some (.int (x ^ j))] ∧ i + j * e = n ∧ j ≤ 2 * n + 1) (fun σ _ => m0 1 σ)
    ⟨rfl, n, 0, 1, by rw [Int.pow_zero, Int.pow_succ, Int.pow_zero, Int.one_mul]; rfl, by omega, by omega⟩ ?_
  rintro σ _ ⟨rfl, e, i, j, rfl, hm, j2⟩
  refine ⟨_, rfl, _, _, rfl, rfl, _, rfl, ifD (fun h => ?_) fun h => ?_⟩
  · have e0 : 0 < e := by omega
    have je : j ≤ j * e := Nat.le_mul_of_pos_right _ e0
    have iB := bn i (by omega)
    have jB := bn j (by omega)
    refine ⟨fun σ' H' => H = H' ∧ ∃ (e' i j : Nat), σ' = [some (.int x), some (.int (e' : Nat)), some (.int (x ^ i)), some (.int (x ^ j))] ∧ i + j * e' = n ∧ j ≤ 2 * n + 1 ∧ e' < e, ?_, ?_⟩
    · rintro σ' _ ⟨rfl, e', i', j', rfl, h1, h2, h3⟩
      exact ⟨_, (by show ((e' : Int)).toNat < ((e : Int)).toNat; omega), rfl, rfl, e', i', j', rfl, h1, h2⟩
    have sq : x ^ j * x ^ j = x ^ (j + j) := (Int.pow_add ..).symm
    refine ⟨_, rfl, _, _, rfl, rfl, (by show (0 : Int) < 2; decide), rfl, _, rfl, ifI (fun k => ?_) fun k => ?_⟩
    · have od : e = 2 * (e / 2) + 1 := by omega
      refine ⟨_, rfl, _, rfl, _, _, rfl, rfl, iB.mul jB, ?_⟩
      refine ⟨_, rfl, _, rfl, _, _, rfl, rfl, jB.mul jB, ?_⟩
      refine ⟨_, rfl, _, _, rfl, rfl, ⟨by decide, by decide⟩, ?_⟩
      refine ⟨rfl, e / 2, i + j, j + j, ?_, ?_, by omega, by omega⟩
      · rw [Int.pow_add x i j, Int.pow_add x j j]; rfl
      · rw [← hm]
        conv => rhs; rw [od]
        grind
    · have ev : e = 2 * (e / 2) := by omega
      dsimp only [tNext]
      refine ⟨_, rfl, _, rfl, _, _, rfl, rfl, jB.mul jB, ?_⟩
      refine ⟨_, rfl, _, _, rfl, rfl, ⟨by decide, by decide⟩, ?_⟩
      refine ⟨rfl, e / 2, i, j + j, ?_, ?_, by omega, by omega⟩
      · rw [Int.pow_add x j j]; rfl
      · rw [← hm]
        conv => rhs; rw [ev]
        grind
  · obtain rfl : e = 0 := by omega
    rw [Nat.mul_zero, Nat.add_zero] at hm
    subst hm
    exact ⟨_, rfl, q⟩
theorem ok_ptopsR (D : Df K mg "product_tops" s_product_tops ["one", "other"]) (B : Bi mg) : Cal P w K mg base 1 "product_tops" sp_ptopsR := by
  obtain ⟨f, fd, F, m, b⟩ := D.ex
  have sc := sc_product_tops
  refine ⟨f, fd, _, F.ok sc (fun _ _ _ _ ⟨_, _, _, _, _, e, _⟩ => by rw [e]; rfl) (fun cdv A outer s H vs Q E hr h => ?_), m, F.kp, b⟩
  obtain ⟨p, q, M, t1, t2, rfl, ⟨hp, hq⟩, M4, b1, b2, qq⟩ := h
  refine ⟨_, (pss_cons (ps_set (i := 2) sc.nd rfl (Or.inl rfl) (pe_callB (call_min2 rfl) (by rfl) B.min_ (by decide +kernel) (pa_cons (pe_callB call_len_seq (by rfl) B.len_ (by decide +kernel) (pa_cons (pv 0) pa_nil)) (pa_cons (pe_callB call_len_seq (by rfl) B.len_ (by decide +kernel) (pa_cons (pv 1) pa_nil)) pa_nil))))
      (pss_one (ps_ret (pe_lc (own := [("n", 4)]) (g := gName 4) (tt := tYes) (by rfl) sc.nd (pi_range1 rfl B.range (pa_cons (pv 2) pa_nil)) (blkOk_by (own := [("n", 4)]) (N := N_product_tops) (sc := defScope s_product_tops) (by decide +kernel)) (fun _ _ _ _ _ => (pg_name (i := 4) sc.nd rfl (Or.inr rfl))) (fun _ _ _ _ _ => pts_nil) (fun _ _ _ _ _ => (pe_callB (id := "sum") (r := rSum K) (cr_sum rfl) (by rfl) B.sum (by decide +kernel) (pa_cons (pe_lc (own := [("i", 3)]) (g := gName 3) (tt := tYes) (by rfl) sc.nd (pi_range1 rfl B.range (pa_cons (pe_op op_add (pv 4) pe_int) pa_nil)) (blkOk_by (own := [("i", 3)]) (N := N_product_tops) (sc := { kind := ScopeKind.function, names := [(".0", NameKind.local), ("n", NameKind.cell), ("sum", NameKind.globalImplicit), ("range", NameKind.globalImplicit), ("one", NameKind.cell), ("other", NameKind.cell)], isGenerator := false, isCoroutine := false }) (by decide +kernel)) (fun _ _ _ _ _ => (pg_name (i := 3) sc.nd rfl (Or.inl rfl))) (fun _ _ _ _ _ => pts_nil) (fun _ _ _ _ _ => (pe_op op_mulW (pe_ix (show IxR _ (rIx K) from ix_seq) (pv 0) (pv 3) (fun _ _ => rfl)) (pe_ix (show IxR _ (rIx K) from ix_seq) (pv 1) (pe_op op_sub (pv 4) (pv 3)) (fun _ _ => rfl))))) pa_nil))))))), ?_⟩
  refine ⟨_, rfl, p, _, rfl, .inl (SqL.of hp), _, rfl, q, _, rfl, .inl (SqL.of hq), _, _, rfl, ?_⟩
  rw [rgV_len, rgV_len]
  rw [show (if ((M : Nat) : Int) < ((M : Nat) : Int) then ((M : Nat) : Int) else ((M : Nat) : Int)) = (M : Int) by split <;> rfl]
  dsimp only [gName]
  refine ⟨_, rfl, _, rfl, by omega, by omega, fun D1 hD1 => ?_⟩
  refine lc_range (lo := 0) (n := ((M : Int)).toNat) (fun i H' => Same H H' ∧ H' D1 = some (.lst ((rg i (conv t1 t2)).map V.int))) ⟨Same.upd_new hD1, upd_same⟩ ?_ ?_
  · rintro n H2 hn ⟨s2, h2⟩
    rw [Int.toNat_natCast] at hn
    dsimp only [gName]
    rw [Int.zero_add]
    refine ⟨rfl, ?_⟩
    refine ⟨_, rfl, _, _, rfl, rfl, _, rfl, by omega, by omega, fun D2 hD2 => ?_⟩
    refine lc_range (lo := 0) (n := ((n : Int) + 1).toNat) (fun i H' => Same H2 H' ∧ H' D2 = some (.lst ((rg i fun j => t1 j * t2 (n - j)).map V.int))) ⟨Same.upd_new hD2, upd_same⟩ ?_ ?_
    · rintro j H3 hj ⟨s3, h3⟩
      have hj' : j ≤ n := by omega
      dsimp only [gName]
      rw [Int.zero_add]
      have hp3 := s3 _ _ (s2 _ _ hp)
      have hq3 := s3 _ _ (s2 _ _ hq)
      have esub : (n : Int) - (j : Int) = ((n - j : Nat) : Int) := by omega
      refine ⟨rfl, _, rfl, _, rfl, .inl ⟨p, _, _, _, rfl, rfl, SqL.of hp3, atI_nat (range_getD t1 (by omega)), ?_⟩⟩
      refine ⟨_, rfl, _, rfl, _, rfl, _, _, rfl, rfl, ?_⟩
      dsimp only
      rw [esub]
      refine .inl ⟨q, _, _, _, rfl, rfl, SqL.of hq3, atI_nat (range_getD t2 (by omega)), ?_⟩
      refine ⟨_, _, rfl, rfl, (b1 j (by omega)).mul (b2 (n - j) (by omega)), _, h3, ?_, fun b o e => ?_, ?_⟩
      · rw [rgV_len]
        exact Nat.lt_of_le_of_lt (by omega : j ≤ 400) (by decide)
      · rw [upd_ne (ne_of_none e hD2)]
        exact s3 _ _ e
      · rw [upd_same]
        show _ = some (HO.lst (((List.range (j + 1)).map _).map V.int))
        rw [List.range_succ, List.map_append, List.map_append]
        rfl
    · rintro H3 ⟨s3, h3⟩
      rw [show ((n : Int) + 1).toNat = n + 1 by omega] at h3
      refine ⟨D2, _, rfl, SqL.of h3, ?_⟩
      rw [sum_Sg]
      have h2' := s3 _ _ h2
      refine ⟨_, h2', ?_, fun b o e => ?_, ?_⟩
      · rw [rgV_len]
        exact Nat.lt_of_le_of_lt (by omega : n ≤ 400) (by decide)
      · rw [upd_ne (ne_of_none e hD1)]
        exact s3 _ _ (s2 _ _ e)
      · rw [upd_same]
        show _ = some (HO.lst (((List.range (n + 1)).map _).map V.int))
        rw [List.range_succ, List.map_append, List.map_append]
        rfl
  · rintro H2 ⟨s2, h2⟩
    rw [Int.toNat_natCast] at h2
    exact qq _ D1 s2 h2
theorem ok_powTR (D : Df K mg "power_tops" s_power_tops ["tops", "k"]) (B : Bi mg) (c_product_tops : Cal P w K mg base 1 "product_tops" sp_ptopsR) : Cal P w K mg base 2 "power_tops" sp_powTR := by
  obtain ⟨f, fd, F, m, b⟩ := D.ex
  have sc := sc_power_tops
  refine ⟨f, fd, _, F.ok sc (fun _ _ _ _ ⟨_, _, _, _, e, _⟩ => by rw [e]; rfl) (fun cdv A outer s H vs Q E hr h => ?_), m, F.kp, b⟩
  obtain ⟨p, a, M, k, rfl, hp, bd, M1, M2, q⟩ := h
  refine ⟨_, (pss_cons (ps_set (i := 2) sc.nd rfl (Or.inl rfl) (pe_op op_cat (pe_lst (pa_cons pe_int pa_nil)) (pe_op op_rep (pe_lst (pa_cons pe_int pa_nil)) (pe_op op_sub (pe_callB call_len_seq (by rfl) B.len_ (by decide +kernel) (pa_cons (pv 0) pa_nil)) pe_int))))
      (pss_cons (ps_set (i := 3) sc.nd rfl (Or.inl rfl) (pe_callTy call_list_of (by rfl) B.list (by decide +kernel) (pa_cons (pv 0) pa_nil)))
      (pss_cons (ps_while PassesOwn.never (pt_cmpR op_gt (pv 1) pe_int (nomark _))
      (pss_cons (ps_if (pt_cmpR op_eq (pe_op op_mod (pv 1) pe_int) pe_int (nomark _))
        (pss_one (ps_set (i := 2) sc.nd rfl (Or.inl rfl) (pe_c c_product_tops hr (by decide) (by rfl) (pa_cons (pv 2) (pa_cons (pv 3) pa_nil)))))
        pss_nil)
        (pss_cons (ps_set (i := 1) sc.nd rfl (Or.inl rfl) (pe_op op_fdivW (pv 1) pe_int))
        (pss_one (ps_if (pt_cmpR op_gt (pv 1) pe_int (nomark _))
        (pss_one (ps_set (i := 3) sc.nd rfl (Or.inl rfl) (pe_c c_product_tops hr (by decide) (by rfl) (pa_cons (pv 3) (pa_cons (pv 3) pa_nil)))))
        pss_nil)))))
      (pss_one (ps_ret (pv 2)))))), ?_⟩
  have lr : ∀ f : Nat → Int, (((List.range M).map f).map V.int).length = M := fun f => by rw [List.length_map, List.length_map, List.length_range]
  have lr2 : ∀ f : Nat → Int, ((List.range M).map f).length = M := fun f => by rw [List.length_map, List.length_range]
  refine ⟨(by show (1 : Nat) ≤ sizeLine; decide), fun l0 hl0 => ?_⟩
  have s0 : Same H (upd H l0 (.lst [V.int 1])) := Same.upd_new hl0
  have h0 : (upd H l0 (.lst [V.int 1])) l0 = some (.lst [V.int 1]) := upd_same
  generalize upd H l0 (.lst [V.int 1]) = H0 at s0 h0
  refine ⟨(by show (1 : Nat) ≤ sizeLine; decide), fun l1 hl1 => ?_⟩
  have s1 : Same H0 (upd H0 l1 (.lst [V.int 0])) := Same.upd_new hl1
  have h1 : (upd H0 l1 (.lst [V.int 0])) l1 = some (.lst [V.int 0]) := upd_same
  generalize upd H0 l1 (.lst [V.int 0]) = H1 at s1 h1
  have hp1 := s1 _ _ (s0 _ _ hp)
  refine ⟨_, rfl, p, _, rfl, .inr (SqT.of hp1), _, _, rfl, rfl, ?_⟩
  rw [lr]
  have eM : ((M : Int) - 1).toNat = M - 1 := by omega
  refine ⟨l1, _, _, rfl, rfl, h1, by omega, by omega, ?_, fun l2 hl2 => ?_⟩
  · rw [eM]; exact Nat.le_trans (by show 1 * (M - 1) ≤ 400; omega) (by decide)
  rw [eM, flat_one]
  have s2 : Same H1 (upd H1 l2 (.lst (List.replicate (M - 1) (V.int 0)))) := Same.upd_new hl2
  have h2 : (upd H1 l2 (.lst (List.replicate (M - 1) (V.int 0)))) l2 = some (.lst (List.replicate (M - 1) (V.int 0))) := upd_same
  generalize upd H1 l2 (.lst (List.replicate (M - 1) (V.int 0))) = H2 at s2 h2
  refine ⟨l0, l2, _, _, rfl, rfl, s2 _ _ (s1 _ _ h0), h2, ?_, fun l3 hl3 => ?_⟩
  · rw [List.length_replicate]; exact Nat.le_trans (by show 1 + (M - 1) ≤ 401; omega) (by decide)
  rw [one_row M1]
  have s3 : Same H2 (upd H2 l3 (.lst (((List.range M).map oneF).map V.int))) := Same.upd_new hl3
  have h3 : (upd H2 l3 (.lst (((List.range M).map oneF).map V.int))) l3 = some (.lst (((List.range M).map oneF).map V.int)) := upd_same
  generalize upd H2 l3 (.lst (((List.range M).map oneF).map V.int)) = H3 at s3 h3
  dsimp only [gName]
  refine ⟨_, rfl, p, _, rfl, .inr (SqT.of (s3 _ _ (s2 _ _ hp1))), fun l4 hl4 => ?_⟩
  have s4 : Same H3 (upd H3 l4 (.lst (((List.range M).map a).map V.int))) := Same.upd_new hl4
  have h4 : (upd H3 l4 (.lst (((List.range M).map a).map V.int))) l4 = some (.lst (((List.range M).map a).map V.int)) := upd_same
  have h3 := s4 _ _ h3
  have s04 := s0.trans (s1.trans (s2.trans (s3.trans s4)))
  generalize upd H3 l4 (.lst (((List.range M).map a).map V.int)) = H4 at s04 h4 h3
  clear s0 s1 s2 s3 s4 h0 h1 h2 hp1 hl0 hl1 hl2 hl3 hl4
  dsimp only [gName]
  refine while_go (fun σ H' => Same H H' ∧ ∃ (x y : Addr) (i j c : Nat), σ = [some (.ref p), some (.int (c : Int)), some (.ref x), some (.ref y)] ∧ H' x = some (.lst ((rg M (np a i)).map V.int)) ∧ i + j * c = k ∧ (0 < c → H' y = some (.lst ((rg M (np a j)).map V.int)))) (fun σ _ => m0 1 σ)
    ⟨s04, l3, l4, 0, 1, k, rfl, h3, by omega, fun _ => by rw [np_one]; exact h4⟩ ?_
  rintro σ H5 ⟨s5, x, y, i, j, c, rfl, hx, hk, hy⟩
  refine ⟨_, rfl, _, _, rfl, rfl, _, rfl, ifD (fun h => ?_) fun h => ?_⟩
  · have c0 : 0 < c := by omega
    have hy := hy c0
    have jc : j ≤ j * c := Nat.le_mul_of_pos_right _ c0
    have plf := bd i (by omega)
    have plg := bd j (by omega)
    refine ⟨fun σ' H' => Same H H' ∧ ∃ (x y : Addr) (i j c' : Nat), σ' = [some (.ref p), some (.int (c' : Int)), some (.ref x), some (.ref y)] ∧ H' x = some (.lst ((rg M (np a i)).map V.int)) ∧ i + j * c' = k ∧ (0 < c' → H' y = some (.lst ((rg M (np a j)).map V.int))) ∧ c' < c, ?_, ?_⟩
    · rintro σ' H' ⟨z0, z1, z2, z3, z4, c', rfl, z8, z10, z11, z12⟩
      exact ⟨_, (by show ((c' : Int)).toNat < ((c : Int)).toNat; omega), rfl, z0, z1, z2, z3, z4, c', rfl, z8, z10, z11⟩
    refine ⟨_, rfl, _, _, rfl, rfl, (by show (0 : Int) < 2; decide), rfl, _, rfl, ifI (fun odd => ?_) fun even => ?_⟩
    · have od : c = 2 * (c / 2) + 1 := by omega
      have hk' : i + j + (j + j) * (c / 2) = k := by
        rw [← hk]
        conv => rhs; rw [od]
        grind
      refine ⟨_, rfl, _, rfl, x, y, M, _, _, rfl, ⟨hx, hy⟩, M2, plf, plg, fun H6 r6 s6 h6 => ?_⟩
      rw [← np_add] at h6
      dsimp only [gName]
      refine ⟨_, rfl, _, _, rfl, rfl, ⟨by decide, by decide⟩, ?_⟩
      refine ⟨_, rfl, _, _, rfl, rfl, _, rfl, ifD (fun h2 => ?_) fun h2 => ?_⟩
      · refine ⟨_, rfl, _, rfl, y, y, M, _, _, rfl, ⟨s6 _ _ hy, s6 _ _ hy⟩, M2, plg, plg, fun H7 r s7 h7 => ?_⟩
        rw [← np_add] at h7
        exact ⟨(s5.trans s6).trans s7, r6, r, (i + j), j + j, c / 2, rfl, s7 _ _ h6, hk', fun _ => h7, by omega⟩
      · exact ⟨(s5.trans s6), r6, y, (i + j), j + j, c / 2, rfl, h6, hk', fun z => absurd z (by omega), by omega⟩
    · have ev : c = 2 * (c / 2) := by omega
      have hk' : i + (j + j) * (c / 2) = k := by
        rw [← hk]
        conv => rhs; rw [ev]
        grind
      refine ⟨_, rfl, _, _, rfl, rfl, ⟨by decide, by decide⟩, ?_⟩
      refine ⟨_, rfl, _, _, rfl, rfl, _, rfl, ifD (fun h2 => ?_) fun h2 => ?_⟩
      · refine ⟨_, rfl, _, rfl, y, y, M, _, _, rfl, ⟨hy, hy⟩, M2, plg, plg, fun H7 r s7 h7 => ?_⟩
        rw [← np_add] at h7
        exact ⟨s5.trans s7, x, r, i, j + j, c / 2, rfl, s7 _ _ hx, hk', fun _ => h7, by omega⟩
      · exact ⟨s5, x, y, i, j + j, c / 2, rfl, hx, hk', fun z => absurd z (by omega), by omega⟩
  · obtain rfl : c = 0 := by omega
    rw [Nat.mul_zero, Nat.add_zero] at hk
    subst hk
    exact ⟨_, rfl, q _ _ s5 hx⟩
end
end Ft

set_option exponentiation.threshold 9000
namespace Ft
open PySem L2
def sp_loweredT : Sp := fun vs H Q _ => ∃ (b : Int) (p : Addr) (ts : List Int), vs = [.int b, .ref p] ∧ H p = some (.tup (ts.map V.int)) ∧ 0 < b ∧ b.natAbs < 2 ^ 8000 ∧ ts.length ≤ 1000 ∧ ∀ H' v, Same H H' → Bg H' v (lowB b ts) (lowT b ts) → Q v H'
section
variable {P : Program} {w : World} {K : PySem.W.Frag} {mg : Str → Option Value} {base : Heap}
theorem ok_poneR (D : Df K mg "power_of_one" s_power_of_one ["tops", "k"]) (B : Bi mg) : Cal P w K mg base 1 "power_of_one" sp_poneR := by
  obtain ⟨f, fd, F, m, b⟩ := D.ex
  have sc := sc_power_of_one
  refine ⟨f, fd, _, F.ok sc (fun _ _ _ _ ⟨_, _, _, _, _, e, _⟩ => by rw [e]; rfl) (fun cdv A outer s H vs Q E hr h => ?_), m, F.kp, b⟩
  obtain ⟨p, a, M, k, b, rfl, hp, b0, rec_, ab, kb, M1, M2, q⟩ := h
  refine ⟨_, (pss_cons (ps_set (i := 2) sc.nd rfl (Or.inr rfl) (pe_lst (pa_cons pe_int pa_nil)))
      (pss_cons (ps_for PassesOwn.never rfl (pi_range2 (by rfl) B.range (pa_cons pe_int (pa_cons (pe_callB call_len_seq (by rfl) B.len_ (by decide +kernel) (pa_cons (pv 0) pa_nil)) pa_nil))) (pg_name (i := 3) sc.nd rfl (Or.inr rfl))
      (pss_cons (ps_set (i := 5) sc.nd rfl (Or.inl rfl) (pe_callB (id := "sum") (r := rSum K) (cr_sum rfl) (by rfl) B.sum (by decide +kernel) (pa_cons (pe_lc (own := [("i", 4)]) (g := gName 4) (tt := tYes) (by rfl) sc.nd (pi_range2 (by rfl) B.range (pa_cons pe_int (pa_cons (pe_op op_add (pv 3) pe_int) pa_nil))) (blkOk_by (own := [("i", 4)]) (N := N_power_of_one) (sc := defScope s_power_of_one) (by decide +kernel)) (fun _ _ _ _ _ => (pg_name (i := 4) sc.nd rfl (Or.inl rfl))) (fun _ _ _ _ _ => pts_nil) (fun _ _ _ _ _ => (pe_op op_mulW (pe_op op_mulW (pe_op op_add (pe_op op_sub (pe_op op_mulW (pv 1) (pv 4)) (pv 3)) (pv 4)) (pe_ix (show IxR _ (rIx K) from ix_seq) (pv 0) (pv 4) (fun _ _ => rfl))) (pe_ix (show IxR _ (rIx K) from ix_seq) (pv 2) (pe_op op_sub (pv 3) (pv 4)) (fun _ _ => rfl))))) pa_nil)))
        (pss_one (ps_expr (pe_bm PySem.F.plainAttrs_list PySem.F.slot_list_append PySem.F.type_list_append mt_append (pv 2) (pa_cons (pe_op op_fdivW (pv 5) (pv 3)) pa_nil))))))
      (pss_one (ps_ret (pv 2))))), ?_⟩
  have la : (((List.range M).map a).map V.int).length = M := by rw [List.length_map, List.length_map, List.length_range]
  refine ⟨(by show (1 : Nat) ≤ sizeLine; decide), fun L hL => ?_⟩
  have s1 : Same H (upd H L (.lst [V.int 1])) := Same.upd_new hL
  have h1 : (upd H L (.lst [V.int 1])) L = some (.lst (((List.range (0 + 1)).map b).map V.int)) := by
    rw [upd_same]
    show some (HO.lst [V.int 1]) = some (HO.lst [V.int (b 0)])
    rw [b0]
  generalize upd H L (.lst [V.int 1]) = H1 at s1 h1
  dsimp only [gName]
  refine ⟨_, rfl, p, _, rfl, .inl (SqL.of (s1 _ _ hp)), 1, (M : Int), by rw [la], ⟨by decide, by decide, by omega, by omega⟩, ?_⟩
  rw [show ((M : Int) - 1).toNat = M - 1 by omega]
  refine for_range (lo := 1) (n := M - 1) (fun i σ H' => Same H H' ∧ H' L = some (.lst (((List.range (i + 1)).map b).map V.int)) ∧ ∃ o3 o5 : Option V, σ = [some (.ref p), some (.int k), some (.ref L), o3, none, o5]) ⟨s1, h1, none, none, rfl⟩ ?_ ?_
  · rintro i σ H2 hi ⟨s2, h2, o3, o5, rfl⟩
    have hn : i + 1 < M := by omega
    rw [show (1 : Int) + (i : Int) = ((i + 1 : Nat) : Int) by omega]
    have hrec := rec_ (i + 1)
    have ln : (((List.range (i + 1)).map b).map V.int).length = i + 1 := by rw [List.length_map, List.length_map, List.length_range]
    have hL2 := h2
    generalize hN : i + 1 = n at hn hrec ln h2
    dsimp only [gName]
    refine ⟨_, rfl, _, _, rfl, rfl, 1, (n : Int) + 1, rfl, ⟨by decide, by decide, by omega, by omega⟩, fun D1 hD1 => ?_⟩
    rw [show ((n : Int) + 1 - 1).toNat = n by omega]
    refine lc_range (lo := 1) (n := n) (fun j H' => Same H2 H' ∧ H' D1 = some (.lst (((List.range j).map fun j => (k * ((j + 1 : Nat) : Int) - (n : Int) + ((j + 1 : Nat) : Int)) * a (j + 1) * b (n - (j + 1))).map V.int))) ⟨Same.upd_new hD1, upd_same⟩ ?_ ?_
    · rintro j H4 hj ⟨s4, h4⟩
      have c1 : atI (((List.range M).map a).map V.int) ((j + 1 : Nat) : Int) = some (V.int (a (j + 1))) := atI_nat (range_getD a (by omega))
      have c2 : atI (((List.range n).map b).map V.int) ((n : Int) - ((j + 1 : Nat) : Int)) = some (V.int (b (n - (j + 1)))) := by
        rw [show (n : Int) - ((j + 1 : Nat) : Int) = ((n - (j + 1) : Nat) : Int) by omega]
        exact atI_nat (range_getD b (by omega))
      have m1 : (k * ((j + 1 : Nat) : Int)).natAbs ≤ 400 * 400 := by
        rw [Int.natAbs_mul]
        exact Nat.mul_le_mul kb (by show j + 1 ≤ 400; omega)
      have c3 : (k * ((j + 1 : Nat) : Int) - (n : Int) + ((j + 1 : Nat) : Int)).natAbs < 2 ^ 18 := by
        generalize k * ((j + 1 : Nat) : Int) = z at m1
        have : (2 : Nat) ^ 18 = 262144 := by decide
        omega
      have Ba := (ab (j + 1) (by omega)).1
      have Bb := (ab (n - (j + 1)) (by omega)).2
      have c4 : ((k * ((j + 1 : Nat) : Int) - (n : Int) + ((j + 1 : Nat) : Int)) * a (j + 1)).natAbs < 2 ^ (18 + 100000) := wide_lt c3 Ba
      dsimp only [gName]
      rw [show (1 : Int) + (j : Int) = ((j + 1 : Nat) : Int) by omega]
      refine ⟨rfl, _, rfl, _, rfl, _, _, rfl, rfl, mul8 (Nat.lt_of_le_of_lt kb (by decide)) (by rw [Int.natAbs_natCast]; exact Nat.lt_of_le_of_lt (by omega : j + 1 ≤ 400) (by decide)), ?_⟩
      refine ⟨_, rfl, _, _, rfl, rfl, _, rfl, _, _, rfl, rfl, ?_⟩
      refine ⟨_, rfl, _, rfl, .inl ⟨p, _, _, _, rfl, rfl, SqL.of (s4 _ _ (s2 _ _ hp)), c1, ?_⟩⟩
      refine ⟨_, _, rfl, rfl, wide_mul c3 Ba (by decide) (by decide) (by decide), ?_⟩
      refine ⟨_, rfl, _, rfl, _, rfl, _, _, rfl, rfl, .inl ⟨L, _, _, _, rfl, rfl, SqL.of (s4 _ _ h2), c2, ?_⟩⟩
      refine ⟨_, _, rfl, rfl, wide_mul c4 Bb (by decide) (by decide) (by decide), _, h4, ?_, fun b o e => ?_, ?_⟩
      · rw [List.length_map, List.length_map, List.length_range]
        exact Nat.lt_of_le_of_lt (by omega : j ≤ 400) (by decide)
      · rw [upd_ne (ne_of_none e hD1)]
        exact s4 _ _ e
      · rw [upd_same, List.range_succ, List.map_append, List.map_append]
        rfl
    rintro H4 ⟨s4, h4⟩
    refine ⟨D1, _, rfl, SqL.of h4, ?_⟩
    rw [sum_Sg, ← hrec]
    have hdiv : (n : Int) * b n / (n : Int) = b n := Int.mul_ediv_cancel_left _ (by omega)
    dsimp only [gName]
    have hp4 := s4 _ _ h2
    refine ⟨_, rfl, .inl ⟨rfl, _, SqL.of hp4⟩, _, rfl, _, rfl, _, _, rfl, rfl, cdivN (by omega) (by omega), ?_⟩
    dsimp only
    rw [hdiv]
    refine ⟨L, _, _, rfl, rfl, hp4, by rw [ln]; exact Nat.lt_of_le_of_lt (by omega : n ≤ 400) (by decide), ?_⟩
    refine ⟨fun b o e => ?_, ?_, _, _, rfl⟩
    · rw [upd_ne (ne_of_none e hL)]
      exact s4 _ _ (s2 _ _ e)
    · rw [upd_same, List.range_succ, List.map_append, List.map_append]
      rfl
  · rintro σ H3 ⟨s3, h3, o3, o5, rfl⟩
    refine ⟨_, rfl, q _ L s3 ?_⟩
    rw [h3, show M - 1 + 1 = M by omega]
theorem ok_loweredT (D : Df K mg "lowered" s_lowered ["bottom", "tops"]) (B : Bi mg)  : Cal P w K mg base 1 "lowered" sp_loweredT := by
  obtain ⟨f, fd, F, m, b⟩ := D.ex
  have sc := sc_lowered
  refine ⟨f, fd, _, F.ok sc (fun _ _ _ _ ⟨_, _, _, e, _⟩ => by rw [e]; rfl) (fun cdv A outer s H vs Q E hr h => ?_), m, F.kp, b⟩
  obtain ⟨b, p, ts, rfl, hp, b0, b1, tl, q⟩ := h
  refine ⟨_, (pss_cons (ps_set (i := 2) sc.nd rfl (Or.inr rfl) (pe_callB call_abs (by rfl) B.abs (by decide +kernel) (pa_cons (pv 0) pa_nil)))
      (pss_cons (ps_for PassesOwn.never rfl (pi_tup (pv 1)) (pg_name (i := 3) sc.nd rfl (Or.inl rfl))
      (pss_cons (ps_if (pt_cmpR op_eq (pv 2) pe_int (nomark _))
        (pss_one ps_break)
        pss_nil)
        (pss_one (ps_set (i := 2) sc.nd rfl (Or.inr rfl) (pe_callBfun cr_gcd (by rfl) B.gcd (pa_cons (pv 2) (pa_cons (pv 3) pa_nil)))))))
      (pss_cons (ps_if (pt_cmpR op_lt (pv 0) pe_int (nomark _))
      (pss_one (ps_set (i := 2) sc.nd rfl (Or.inr rfl) (pe_un un_neg (pv 2))))
      pss_nil)
      (pss_one (ps_ret (pe_tup (pa_cons (pe_op op_fdivW (pv 0) (pv 2)) (pa_cons (pe_callTy call_tuple_of (by rfl) B.tuple (by decide +kernel) (pa_cons (pe_lc (own := [("top", 3)]) (g := gName 3) (tt := tYes) (by rfl) sc.nd (pi_tup (pv 1)) (blkOk_by (own := [("top", 3)]) (N := N_lowered) (sc := defScope s_lowered) (by decide +kernel)) (fun _ _ _ _ _ => (pg_name (i := 3) sc.nd rfl (Or.inl rfl))) (fun _ _ _ _ _ => pts_nil) (fun _ _ _ _ _ => (pe_op op_fdivW (pv 3) (pv 2)))) pa_nil)) pa_nil)))))))), ?_⟩
  have ea : (if b < 0 then -b else b) = (b.natAbs : Int) := by split <;> omega
  refine ⟨_, rfl, b, rfl, ?_⟩
  rw [ea]
  dsimp only [gName]
  refine tSeq_join (fun σ H' => H = H' ∧ ∃ o : Option V, σ = [some (.int b), some (.ref p), some (.int ((gcdL b.natAbs ts : Nat) : Int)), o]) (fun N hN => ?_) ?_
  · refine ⟨_, rfl, p, rfl, ⟨_, SqT.of hp⟩, for_it (walk_tup (K := K) (xs := ts.map V.int)) (fun i σ H' => H = H' ∧ ∃ (g : Nat) (o : Option V), σ = [some (.int b), some (.ref p), some (.int (g : Int)), o] ∧ gcdL g (ts.drop i) = gcdL b.natAbs ts) ⟨rfl, _, none, rfl, rfl⟩ (fun i σ H2 _ ⟨e, _⟩ => by rw [← e]; exact SqT.of hp) ?_ ?_⟩
    · rintro i x σ _ _ _ ⟨rfl, g, o, rfl, hg⟩ ⟨rfl, hi⟩
      obtain ⟨z, rfl, hz⟩ := int_at hi
      rw [gcdL_drop hz] at hg
      refine ⟨_, rfl, rfl, _, rfl, ifI (fun e => ?_) fun e => ?_⟩
      · have e' : g = 1 := by omega
        subst e'
        rw [Nat.gcd_one_left, gcdL_one] at hg
        exact hN _ _ ⟨rfl, _, by rw [← hg]; rfl⟩
      · refine ⟨_, rfl, _, rfl, _, _, rfl, ?_⟩
        exact ⟨rfl, _, _, rfl, hg⟩
    · rintro σ _ ⟨rfl, g, o, rfl, hg⟩
      rw [List.length_map, List.drop_length] at hg
      exact hN _ _ ⟨rfl, o, by rw [← hg]; rfl⟩
  rintro _ _ ⟨rfl, o, rfl⟩
  have gd := gcdL_dvd ts b.natAbs
  have bp : 0 < b.natAbs := by omega
  have gl := Nat.le_of_dvd bp gd
  have gp := Nat.pos_of_dvd_of_pos gd bp
  generalize hG : gcdL b.natAbs ts = G at gl gp
  have cd : ∀ i : Int, CDivW i (G : Int) := fun i => wide_div (b := 8000) (by omega) (Nat.lt_of_le_of_lt gl b1) (by decide) (by decide)
  refine ⟨_, rfl, _, _, rfl, rfl, _, rfl, ifD (fun e => absurd e (by omega)) fun _ => ?_⟩
  dsimp only [tNext]
  refine ⟨_, rfl, _, rfl, _, _, rfl, rfl, cd b, ?_⟩
  refine ⟨_, rfl, p, rfl, ⟨_, SqT.of hp⟩, fun D1 hD1 => ?_⟩
  refine lc_tup (K := K) (a := p) (xs := ts.map V.int) (fun i H' => Same H H' ∧ H' D1 = some (.lst ((ts.take i).map fun t => V.int (t / (G : Int))))) ⟨Same.upd_new hD1, upd_same⟩ (fun i H' _ ⟨s2, _⟩ => SqT.of (s2 _ _ hp)) ?_ ?_
  · rintro i x H2 hx ⟨s2, h2⟩
    obtain ⟨z, rfl, hz⟩ := int_at hx
    have hi := (List.getElem?_eq_some_iff.mp hz).1
    refine ⟨rfl, ?_⟩
    refine ⟨_, rfl, _, rfl, _, _, rfl, rfl, cd z, _, h2, ?_, fun b o e => ?_, ?_⟩
    · rw [List.length_map, List.length_take]
      exact Nat.lt_of_le_of_lt (Nat.le_trans (Nat.min_le_right _ _) tl) (by decide)
    · rw [upd_ne (ne_of_none e hD1)]
      exact s2 _ _ e
    · rw [upd_same, take_snoc hz, List.map_append]
      rfl
  · rintro H2 ⟨s2, h2⟩
    have e1 : (ts.take (ts.map V.int).length).map (fun t => V.int (t / (G : Int))) = (lowT b ts).map V.int := by
      unfold lowT
      rw [hG, List.length_map, List.take_length, List.map_map]
      rfl
    rw [e1] at h2
    refine ⟨D1, _, rfl, .inl ⟨SqL.of h2, fun T1 hT1 => ?_⟩⟩
    have s3 : Same H2 (upd H2 T1 (.tup ((lowT b ts).map V.int))) := Same.upd_new hT1
    have h3 : (upd H2 T1 (.tup ((lowT b ts).map V.int))) T1 = some (.tup ((lowT b ts).map V.int)) := upd_same
    generalize hH3 : upd H2 T1 (.tup ((lowT b ts).map V.int)) = H3 at s3 h3
    refine ⟨(by show (2 : Nat) ≤ sizeLine; decide), fun T2 hT2 => ?_⟩
    have s4 : Same H3 (upd H3 T2 (.tup [V.int (b / (G : Int)), V.ref T1])) := Same.upd_new hT2
    refine q _ _ (s2.trans (s3.trans s4)) ⟨T2, T1, rfl, ?_, s4 _ _ h3⟩
    unfold lowB
    rw [hG]
    exact upd_same
theorem ok_loweredX (D : Df K mg "lowered" s_lowered ["bottom", "tops"]) (B : Bi mg)  : Cal P w K mg base 1 "lowered" sp_loweredX := by
  obtain ⟨f, fd, F, m, b⟩ := D.ex
  have sc := sc_lowered
  refine ⟨f, fd, _, F.ok sc (fun _ _ _ _ ⟨_, _, _, e, _⟩ => by rw [e]; rfl) (fun cdv A outer s H vs Q E hr h => ?_), m, F.kp, b⟩
  obtain ⟨b, p, ts, rfl, hp, lc, tl, q⟩ := h
  have b0 := lc.1
  refine ⟨_, (pss_cons (ps_set (i := 2) sc.nd rfl (Or.inr rfl) (pe_callB call_abs (by rfl) B.abs (by decide +kernel) (pa_cons (pv 0) pa_nil)))
      (pss_cons (ps_for PassesOwn.never rfl (pi_list (pv 1)) (pg_name (i := 3) sc.nd rfl (Or.inl rfl))
      (pss_cons (ps_if (pt_cmpR op_eq (pv 2) pe_int (nomark _))
        (pss_one ps_break)
        pss_nil)
        (pss_one (ps_set (i := 2) sc.nd rfl (Or.inr rfl) (pe_callBfun cr_gcd (by rfl) B.gcd (pa_cons (pv 2) (pa_cons (pv 3) pa_nil)))))))
      (pss_cons (ps_if (pt_cmpR op_lt (pv 0) pe_int (nomark _))
      (pss_one (ps_set (i := 2) sc.nd rfl (Or.inr rfl) (pe_un un_neg (pv 2))))
      pss_nil)
      (pss_one (ps_ret (pe_tup (pa_cons (pe_op op_fdivX (pv 0) (pv 2)) (pa_cons (pe_callTy call_tuple_of (by rfl) B.tuple (by decide +kernel) (pa_cons (pe_lc (own := [("top", 3)]) (g := gName 3) (tt := tYes) (by rfl) sc.nd (pi_list (pv 1)) (blkOk_by (own := [("top", 3)]) (N := N_lowered) (sc := defScope s_lowered) (by decide +kernel)) (fun _ _ _ _ _ => (pg_name (i := 3) sc.nd rfl (Or.inl rfl))) (fun _ _ _ _ _ => pts_nil) (fun _ _ _ _ _ => (pe_op op_fdivX (pv 3) (pv 2)))) pa_nil)) pa_nil)))))))), ?_⟩
  have ea : (if b < 0 then -b else b) = (b.natAbs : Int) := by split <;> omega
  refine ⟨_, rfl, b, rfl, ?_⟩
  rw [ea]
  dsimp only [gName]
  refine tSeq_join (fun σ H' => H = H' ∧ ∃ o : Option V, σ = [some (.int b), some (.ref p), some (.int ((gcdL b.natAbs ts : Nat) : Int)), o]) (fun N hN => ?_) ?_
  · refine ⟨_, rfl, p, rfl, ⟨_, SqL.of hp⟩, for_list (K := K) (a := p) (xs := ts.map V.int) (fun i σ H' => H = H' ∧ ∃ (g : Nat) (o : Option V), σ = [some (.int b), some (.ref p), some (.int (g : Int)), o] ∧ gcdL g (ts.drop i) = gcdL b.natAbs ts) ⟨rfl, _, none, rfl, rfl⟩ (fun i σ H2 _ ⟨e, _⟩ => by rw [← e]; exact SqL.of hp) ?_ ?_⟩
    · rintro i x σ _ hi ⟨rfl, g, o, rfl, hg⟩
      obtain ⟨z, rfl, hz⟩ := int_at hi
      rw [gcdL_drop hz] at hg
      refine ⟨_, rfl, rfl, _, rfl, ifI (fun e => ?_) fun e => ?_⟩
      · have e' : g = 1 := by omega
        subst e'
        rw [Nat.gcd_one_left, gcdL_one] at hg
        exact hN _ _ ⟨rfl, _, by rw [← hg]; rfl⟩
      · refine ⟨_, rfl, _, rfl, _, _, rfl, ?_⟩
        exact ⟨rfl, _, _, rfl, hg⟩
    · rintro σ _ ⟨rfl, g, o, rfl, hg⟩
      rw [List.length_map, List.drop_length] at hg
      exact hN _ _ ⟨rfl, o, by rw [← hg]; rfl⟩
  rintro _ _ ⟨rfl, o, rfl⟩
  have gd := gcdL_dvd ts b.natAbs
  have bp : 0 < b.natAbs := by omega
  have gl := Nat.le_of_dvd bp gd
  have gp := Nat.pos_of_dvd_of_pos gd bp
  generalize hG : gcdL b.natAbs ts = G at gl gp
  obtain ⟨sg, hsg⟩ : ∃ z : Int, z = if b < 0 then -(G : Int) else (G : Int) := ⟨_, rfl⟩
  have hs : sg = (G : Int) ∨ sg = -(G : Int) := by rw [hsg]; split <;> simp
  refine tSeq_join (fun σ H' => H = H' ∧ σ = [some (.int b), some (.ref p), some (.int sg), o]) (fun N hN => ?_) ?_
  · refine ⟨_, rfl, _, _, rfl, rfl, _, rfl, ifD (fun e => ?_) fun e => ?_⟩
    · rw [if_pos e] at hsg
      exact ⟨_, rfl, _, rfl, hN _ _ ⟨rfl, by rw [hsg]; rfl⟩⟩
    · rw [if_neg e] at hsg
      exact hN _ _ ⟨rfl, by rw [hsg]⟩
  rintro _ _ ⟨rfl, rfl⟩
  refine ⟨_, rfl, _, rfl, _, _, rfl, rfl, lc.div gp gl hs (.inl rfl), ?_⟩
  refine ⟨_, rfl, p, rfl, ⟨_, SqL.of hp⟩, fun D1 hD1 => ?_⟩
  refine lc_list (K := K) (a := p) (xs := ts.map V.int) (fun i H' => Same H H' ∧ H' D1 = some (.lst ((ts.take i).map fun t => V.int (t.fdiv sg)))) ⟨Same.upd_new hD1, upd_same⟩ (fun i H' _ ⟨s2, _⟩ => SqL.of (s2 _ _ hp)) ?_ ?_
  · rintro i x H2 hx ⟨s2, h2⟩
    obtain ⟨z, rfl, hz⟩ := int_at hx
    have hi := (List.getElem?_eq_some_iff.mp hz).1
    refine ⟨rfl, ?_⟩
    refine ⟨_, rfl, _, rfl, _, _, rfl, rfl, lc.div gp gl hs (.inr (List.mem_of_getElem? hz)), _, h2, ?_, fun b o e => ?_, ?_⟩
    · rw [List.length_map, List.length_take]
      exact Nat.lt_of_le_of_lt (Nat.le_trans (Nat.min_le_right _ _) tl) (by decide)
    · rw [upd_ne (ne_of_none e hD1)]
      exact s2 _ _ e
    · rw [upd_same, take_snoc hz, List.map_append]
      rfl
  · rintro H2 ⟨s2, h2⟩
    have gdb : (G : Int) ∣ b := by rw [← hG]; exact Int.dvd_natAbs.mp (Int.natCast_dvd_natCast.mpr gd)
    have gdt : ∀ t ∈ ts, (G : Int) ∣ t := fun t ht => by rw [← hG]; exact Int.dvd_natAbs.mp (Int.natCast_dvd_natCast.mpr (gcdL_mem ts _ t ht))
    have eB : b.fdiv sg = lowB (b.natAbs : Int) (ngT b ts) := by
      unfold lowB
      rw [gcdL_ng, hG, hsg]
      split
      · rw [fdiv_ng gp gdb, show ((b.natAbs : Nat) : Int) = -b by omega]
      · rw [fdiv_pos gp, show ((b.natAbs : Nat) : Int) = b by omega]
    have eT : (ts.take (ts.map V.int).length).map (fun t => V.int (t.fdiv sg)) = (lowT (b.natAbs : Int) (ngT b ts)).map V.int := by
      unfold lowT
      rw [gcdL_ng, hG, hsg, List.length_map, List.take_length, List.map_map]
      unfold ngT
      split
      · rw [List.map_map]
        exact List.map_congr_left fun t ht => congrArg V.int (fdiv_ng gp (gdt t ht))
      · exact List.map_congr_left fun t _ => congrArg V.int (fdiv_pos gp t)
    rw [eT] at h2
    refine ⟨D1, _, rfl, .inl ⟨SqL.of h2, fun T1 hT1 => ?_⟩⟩
    have s3 : Same H2 (upd H2 T1 (.tup ((lowT (b.natAbs : Int) (ngT b ts)).map V.int))) := Same.upd_new hT1
    have h3 : (upd H2 T1 (.tup ((lowT (b.natAbs : Int) (ngT b ts)).map V.int))) T1 = some (.tup ((lowT (b.natAbs : Int) (ngT b ts)).map V.int)) := upd_same
    generalize hH3 : upd H2 T1 (.tup ((lowT (b.natAbs : Int) (ngT b ts)).map V.int)) = H3 at s3 h3
    refine ⟨(by show (2 : Nat) ≤ sizeLine; decide), fun T2 hT2 => ?_⟩
    have s4 : Same H3 (upd H3 T2 (.tup [V.int (b.fdiv sg), V.ref T1])) := Same.upd_new hT2
    refine q _ _ (s2.trans (s3.trans s4)) ⟨T2, T1, rfl, ?_, s4 _ _ h3⟩
    rw [← eB]
    exact upd_same
end
end Ft

set_option exponentiation.threshold 9000
namespace Ft
open PySem L2
section
variable {P : Program} {w : World} {K : PySem.W.Frag} {mg : Str → Option Value} {base : Heap}
theorem ok_pbelowR (D : Df K mg "power_below" s_power_below ["bottom", "tops", "k"]) (B : Bi mg) (c_power_of_one : Cal P w K mg base 1 "power_of_one" sp_poneR) (c_raised : Cal P w K mg base 1 "raised" sp_raisedI) (c_lowered : Cal P w K mg base 1 "lowered" sp_loweredX) : Cal P w K mg base 2 "power_below" sp_pbelowR := by
  obtain ⟨f, fd, F, m, b⟩ := D.ex
  have sc := sc_power_below
  refine ⟨f, fd, _, F.ok sc (fun _ _ _ _ ⟨_, _, _, _, _, _, e, _⟩ => by rw [e]; rfl) (fun cdv A outer s H vs Q E hr h => ?_), m, F.kp, b⟩
  obtain ⟨p, T, M, k, N, Bo, rfl, hp, T0, k1, k24, M1, M2, hN, bB, bT, lc, q⟩ := h
  refine ⟨_, (pss_cons (ps_set (i := 3) sc.nd rfl (Or.inr rfl) (pe_ix (show IxR _ (rIx K) from ix_seq) (pv 1) pe_int (fun _ _ => rfl)))
      (pss_cons (ps_set (i := 4) sc.nd rfl (Or.inr rfl) (pe_op op_sub (pe_callB call_len_seq (by rfl) B.len_ (by decide +kernel) (pa_cons (pv 1) pa_nil)) pe_int))
      (pss_cons (ps_set (i := 6) sc.nd rfl (Or.inr rfl) (pe_c c_power_of_one hr (by decide) (by rfl) (pa_cons (pe_op op_cat (pe_lst (pa_cons pe_int pa_nil)) (pe_lc (own := [("i", 5)]) (g := gName 5) (tt := tYes) (by rfl) sc.nd (pi_range2 (by rfl) B.range (pa_cons pe_int (pa_cons (pe_op op_add (pv 4) pe_int) pa_nil))) (blkOk_by (own := [("i", 5)]) (N := N_power_below) (sc := defScope s_power_below) (by decide +kernel)) (fun _ _ _ _ _ => (pg_name (i := 5) sc.nd rfl (Or.inl rfl))) (fun _ _ _ _ _ => pts_nil) (fun _ _ _ _ _ => (pe_op op_mulW (pe_ix (show IxR _ (rIx K) from ix_seq) (pv 1) (pv 5) (fun _ _ => rfl)) (pe_c c_raised hr (by decide) (by rfl) (pa_cons (pv 3) (pa_cons (pe_op op_sub (pv 5) pe_int) pa_nil))))))) (pa_cons (pv 2) pa_nil))))
      (pss_cons (ps_set (i := 7) sc.nd rfl (Or.inr rfl) (pe_c c_raised hr (by decide) (by rfl) (pa_cons (pv 0) (pa_cons (pe_un un_neg (pv 2)) pa_nil))))
      (pss_cons (ps_setLc (i := 9) (own := [("n", 8)]) (g := gName 8) (tt := tYes) (by rfl) sc.nd rfl rfl (sw_true rfl rfl rfl (by decide +kernel)) (pi_range1 rfl B.range (pa_cons (pe_op op_add (pv 4) pe_int) pa_nil)) (blkOk_by (own := [("n", 8)]) (N := N_power_below) (sc := defScope s_power_below) (by decide +kernel)) (fun _ _ _ _ _ => (pg_name (i := 8) sc.nd rfl (Or.inl rfl))) (fun _ _ _ _ _ => pts_nil) (fun _ _ _ _ _ => (pe_op op_mulW (pe_op op_mulW (pe_ix (show IxR _ (rIx K) from ix_seq) (pv 6) (pv 8) (fun _ _ => rfl)) (pv 7)) (pe_c c_raised hr (by decide) (by rfl) (pa_cons (pv 3) (pa_cons (pe_op op_sub (pv 4) (pv 8)) pa_nil))))))
      (pss_one (ps_ret (pe_c c_lowered hr (by decide) (by rfl) (pa_cons (pe_c c_raised hr (by decide) (by rfl) (pa_cons (pv 3) (pa_cons (pe_op op_sub (pv 4) (pv 2)) pa_nil))) (pa_cons (pv 9) pa_nil)))))))))), ?_⟩
  obtain ⟨Fi, hF⟩ : ∃ z, z = T 0 := ⟨_, rfl⟩
  rw [← hF] at T0 lc q
  have bF : Fi.natAbs ≤ N := by rw [hF]; exact bT 0
  have N1 : 1 ≤ N := by omega
  have F128 : Fi.natAbs < 2 ^ 128 := Nat.lt_of_le_of_lt bF (Nat.lt_trans hN (by decide))
  have B128 : Bo.natAbs < 2 ^ 128 := Nat.lt_of_le_of_lt bB (Nat.lt_trans hN (by decide))
  have powB : ∀ e, e ≤ 1000 → Bn (Fi ^ e) := fun e he => Bn.pow F128 (by omega)
  have la : ((rg M T).map V.int).length = M := rgV_len M T
  have c0 : ((rg M T).map V.int)[0]? = some (V.int Fi) := by rw [range_getD T (by omega), hF]
  refine ⟨_, rfl, .inr (.inl ⟨p, _, 0, _, rfl, rfl, SqT.of hp, atI_nat (j := 0) c0, ?_⟩)⟩
  dsimp only [gName]
  refine ⟨_, rfl, p, _, rfl, .inr (SqT.of hp), _, _, rfl, rfl, ?_⟩
  dsimp only [gName]
  rw [la]
  have eM : (M : Int) - 1 = ((M - 1 : Nat) : Int) := by omega
  rw [eM]
  refine ⟨(by show (1 : Nat) ≤ sizeLine; decide), fun l0 hl0 => ?_⟩
  have s1 : Same H (upd H l0 (.lst [V.int 1])) := Same.upd_new hl0
  have h1 : (upd H l0 (.lst [V.int 1])) l0 = some (.lst [V.int 1]) := upd_same
  generalize upd H l0 (.lst [V.int 1]) = H1 at s1 h1
  refine ⟨_, rfl, _, _, rfl, rfl, 1, ((M - 1 : Nat) : Int) + 1, rfl, ⟨by decide, by decide, by omega, by omega⟩, fun C1 hC1 => ?_⟩
  rw [show (((M - 1 : Nat) : Int) + 1 - 1).toNat = M - 1 by omega]
  have tb : ∀ n, Bn (T n) := fun n => Bn.of (a := 100) (Nat.lt_of_le_of_lt (bT n) hN) (by decide) (by decide)
  refine lc_range (lo := 1) (n := M - 1) (fun i H' => Same H1 H' ∧ H' C1 = some (.lst ((rg i fun j => ccR Fi T (j + 1)).map V.int))) ⟨Same.upd_new hC1, upd_same⟩ ?_ ?_
  · rintro j H2 hj ⟨s2, h2⟩
    have c1 : atI ((rg M T).map V.int) ((j + 1 : Nat) : Int) = some (V.int (T (j + 1))) := atI_nat (range_getD T (by omega))
    dsimp only [gName]
    rw [show (1 : Int) + (j : Int) = ((j + 1 : Nat) : Int) by omega]
    refine ⟨rfl, _, rfl, _, rfl, .inr (.inl ⟨p, _, _, _, rfl, rfl, SqT.of (s2 _ _ (s1 _ _ hp)), c1, ?_⟩)⟩
    refine ⟨_, rfl, _, rfl, _, _, rfl, rfl, Fi, j, (by show [V.int Fi, V.int (((j + 1 : Nat) : Int) - 1)] = _; rw [show ((j + 1 : Nat) : Int) - 1 = (j : Int) by omega]), F128, by omega, ?_⟩
    refine ⟨_, _, rfl, rfl, (tb _).mul (powB _ (by omega)), _, h2, ?_, fun b o e => ?_, ?_⟩
    · rw [rgV_len]
      exact Nat.lt_of_le_of_lt (by omega : j ≤ 400) (by decide)
    · rw [upd_ne (ne_of_none e hC1)]
      exact s2 _ _ e
    · rw [upd_same]
      show _ = some (HO.lst (((List.range (j + 1)).map _).map V.int))
      rw [List.range_succ, List.map_append, List.map_append]
      rfl
  rintro H2 ⟨s2, h2⟩
  have hcat : [V.int 1] ++ (rg (M - 1) fun j => ccR Fi T (j + 1)).map V.int = (rg M (ccR Fi T)).map V.int := by
    obtain ⟨n, rfl⟩ : ∃ n, M = n + 1 := ⟨M - 1, by omega⟩
    rw [show n + 1 - 1 = n from rfl]
    show _ = ((List.range (n + 1)).map _).map V.int
    simp only [List.range_succ_eq_map, List.map_cons, List.map_map]
    rfl
  refine ⟨l0, C1, _, _, rfl, rfl, s2 _ _ h1, h2, ?_, fun L hL => ?_⟩
  · rw [rgV_len]
    exact Nat.le_trans (by show 1 + _ ≤ 401; omega) (by decide)
  rw [hcat]
  have s3 : Same H2 (upd H2 L (.lst ((rg M (ccR Fi T)).map V.int))) := Same.upd_new hL
  have h3 : (upd H2 L (.lst ((rg M (ccR Fi T)).map V.int))) L = some (.lst ((rg M (ccR Fi T)).map V.int)) := upd_same
  generalize upd H2 L (.lst ((rg M (ccR Fi T)).map V.int)) = H3 at s3 h3
  obtain ⟨sl, Sc, Sm⟩ := so_made Fi T
  have gc := cc_grow bF N1 bT
  obtain ⟨k0, rfl⟩ : ∃ k0, k = k0 + 1 := ⟨k - 1, by omega⟩
  have gm := made_grow bF N1 bT k0
  have bc : ∀ n, n < M → (ccR Fi T n).natAbs < 2 ^ 100000 := fun n hn => Nat.lt_of_le_of_lt (gc n) (two_pow_lt hN (by omega))
  have kN : 2 ^ (k0 + 1) * N < 2 ^ 124 := by
    have a := Nat.pow_le_pow_right (show 0 < 2 by decide) (show k0 + 1 ≤ 24 by omega)
    exact Nat.lt_of_le_of_lt (Nat.mul_le_mul_right N a) (Nat.lt_of_lt_of_le (Nat.mul_lt_mul_of_pos_left hN (by decide)) (by decide))
  have bm : ∀ n, n < M → (madeR Fi T (k0 + 1) n).natAbs < 2 ^ 100000 := fun n hn => Nat.lt_of_le_of_lt (gm n) (two_pow_lt kN (by omega))
  refine ⟨_, rfl, L, ccR Fi T, M, _, madeR Fi T (k0 + 1), rfl, h3, (Sm _).f0, fun n => pow_rec Sc (Sm _) n, fun n hn => ⟨bc n hn, bm n hn⟩, by omega, M1, by omega, fun H4 r s4 h4 => ?_⟩
  dsimp only [gName]
  refine ⟨_, rfl, _, rfl, _, rfl, Bo, k0 + 1, (by show [V.int Bo, V.int (- -((k0 + 1 : Nat) : Int))] = _; rw [Int.neg_neg]), B128, by omega, ?_⟩
  have fB : Bn (Bo ^ (k0 + 1)) := Bn.pow B128 (by omega)
  have mB : ∀ n, n < M → Bn (madeR Fi T (k0 + 1) n) := fun n hn => Bn.of (bm n hn) (by decide) (by decide)
  have mfB : ∀ n, n < M → Bn (madeR Fi T (k0 + 1) n * Bo ^ (k0 + 1)) := fun n hn => by
    have h2 : (Bo ^ (k0 + 1)).natAbs < 2 ^ 100000 := Nat.lt_of_le_of_lt (pow_lt_pow B128 _) (Nat.pow_lt_pow_right (by decide) (by omega))
    exact Bn.of (wide_lt (bm n hn) h2) (by decide) (by decide)
  dsimp only [gName]
  refine ⟨_, rfl, _, _, rfl, rfl, _, rfl, by omega, by omega, fun C2 hC2 => ?_⟩
  refine lc_range (lo := 0) (n := (((M - 1 : Nat) : Int) + 1).toNat) (fun i H' => Same H4 H' ∧ H' C2 = some (.lst ((rg i (belowR Bo Fi T (k0 + 1) (M - 1))).map V.int))) ⟨Same.upd_new hC2, upd_same⟩ ?_ ?_
  · rintro j H5 hj ⟨s5, h5⟩
    have hj' : j < M := by omega
    have c1 : atI ((rg M (madeR Fi T (k0 + 1))).map V.int) ((j : Nat) : Int) = some (V.int (madeR Fi T (k0 + 1) j)) := atI_nat (range_getD _ hj')
    dsimp only [gName]
    rw [Int.zero_add]
    refine ⟨rfl, _, rfl, _, rfl, .inl ⟨r, _, _, _, rfl, rfl, SqL.of (s5 _ _ h4), c1, ?_⟩⟩
    refine ⟨_, rfl, _, _, rfl, rfl, (mB j hj').mul fB, ?_⟩
    refine ⟨_, rfl, _, rfl, _, rfl, _, _, rfl, rfl, Fi, M - 1 - j, (by show [V.int Fi, V.int (((M - 1 : Nat) : Int) - (j : Int))] = _; rw [show ((M - 1 : Nat) : Int) - (j : Int) = ((M - 1 - j : Nat) : Int) by omega]), F128, by omega, ?_⟩
    refine ⟨_, _, rfl, rfl, (mfB j hj').mul (powB _ (by omega)), _, h5, ?_, fun b o e => ?_, ?_⟩
    · rw [rgV_len]
      exact Nat.lt_of_le_of_lt (by omega : j ≤ 400) (by decide)
    · rw [upd_ne (ne_of_none e hC2)]
      exact s5 _ _ e
    · rw [upd_same]
      show _ = some (HO.lst (((List.range (j + 1)).map _).map V.int))
      rw [List.range_succ, List.map_append, List.map_append]
      rfl
  rintro H5 ⟨s5, h5⟩
  rw [show (((M - 1 : Nat) : Int) + 1).toNat = M by omega] at h5
  dsimp only [gName]
  refine ⟨_, rfl, _, rfl, _, rfl, _, _, rfl, rfl, Fi, M - 1 + (k0 + 1), (by show [V.int Fi, V.int (((M - 1 : Nat) : Int) - -((k0 + 1 : Nat) : Int))] = _; rw [show ((M - 1 : Nat) : Int) - -((k0 + 1 : Nat) : Int) = ((M - 1 + (k0 + 1) : Nat) : Int) by omega]), F128, by omega, ?_⟩
  refine ⟨_, rfl, _, C2, _, rfl, h5, lc, by rw [rg_len]; omega, fun H6 v s6 g6 => ?_⟩
  exact q _ _ (s1.trans (s2.trans (s3.trans (s4.trans (s5.trans s6))))) g6
end
end Ft

set_option exponentiation.threshold 9000
namespace Ft
open PySem L2
section
variable {P : Program} {w : World} {K : PySem.W.Frag} {mg : Str → Option Value} {base : Heap}
theorem fn_powerR {f : Addr} {fd : FuncData} (F : Fun K "power" "power" s_power f fd) (B : Bi mg) (c_check_beginning : Cal P w K mg base 4 "check_beginning" sp_checkBeg) (c_check_integer : Cal P w K mg base 2 "check_integer" sp_check_integer) (c_lowered : Cal P w K mg base 1 "lowered" sp_loweredT) (c_lowX : Cal P w K mg base 1 "lowered" sp_loweredX) (c_power_tops : Cal P w K mg base 2 "power_tops" sp_powTR) (c_raised : Cal P w K mg base 1 "raised" sp_raisedI) (c_power_below : Cal P w K mg base 2 "power_below" sp_pbelowR) : FnOk P w K mg base CX0 5 f fd ["beginning", "k"] sp_powerR := by
  have sc := sc_power
  refine F.ok sc (fun _ _ _ _ ⟨_, _, _, _, _, _, e, _⟩ => by rw [e]; rfl) (fun cdv A outer s H vs Q E hr h => ?_)
  obtain ⟨v, b, M, N, f, k, rfl, hv, b1, M1, M2, hN, bN, fN, f0, k24, kb, q⟩ := h
  refine ⟨_, (pss_cons (ps_expr (pe_c c_check_beginning hr (by decide) (by rfl) (pa_cons (pv 0) pa_nil)))
      (pss_cons (ps_expr (pe_c c_check_integer hr (by decide) (by rfl) (pa_cons (pv 1) pa_nil)))
      (pss_cons (ps_asg (pv 0) (pg_tup rfl (pgs_cons (pg_name (i := 2) sc.nd rfl (Or.inl rfl)) (pgs_cons (pg_name (i := 3) sc.nd rfl (Or.inl rfl)) pgs_nil))))
      (pss_cons (ps_if (pt_cmpR op_ge (pv 1) pe_int (nomark _))
      (pss_one (ps_ret (pe_c c_lowX hr (by decide) (by rfl) (pa_cons (pe_c c_raised hr (by decide) (by rfl) (pa_cons (pv 2) (pa_cons (pv 1) pa_nil))) (pa_cons (pe_c c_power_tops hr (by decide) (by rfl) (pa_cons (pv 3) (pa_cons (pv 1) pa_nil))) pa_nil)))))
      pss_nil)
      (pss_cons (ps_if (pt_cmpR op_eq (pe_ix (show IxR _ (rIx K) from ix_seq) (pv 3) pe_int (fun _ _ => rfl)) pe_int (nomark _))
      (pss_one ps_never)
      pss_nil)
      (pss_cons (ps_asg (pe_c c_lowered hr (by decide) (by rfl) (pa_cons (pv 2) (pa_cons (pv 3) pa_nil))) (pg_tup rfl (pgs_cons (pg_name (i := 4) sc.nd rfl (Or.inl rfl)) (pgs_cons (pg_name (i := 5) sc.nd rfl (Or.inl rfl)) pgs_nil))))
      (pss_one (ps_ret (pe_c c_power_below hr (by decide) (by rfl) (pa_cons (pv 4) (pa_cons (pv 5) (pa_cons (pv 1) pa_nil)))))))))))), ?_⟩
  have lr : (rg M f).length = M := rg_len M f
  have c0 : ((rg M f).map V.int)[0]? = some (V.int (f 0)) := range_getD f (by omega)
  have b128 : b.natAbs < 2 ^ 128 := Nat.lt_of_le_of_lt bN (Nat.lt_trans hN (by decide))
  have N1 : 1 ≤ N := by omega
  refine ⟨_, rfl, v, b, _, rfl, hv, ⟨b1, by rw [lr]; exact M1, by rw [lr]; omega⟩, fun H1 s1 => ?_⟩
  refine ⟨_, rfl, k, rfl, trivial, ?_⟩
  obtain ⟨p, r, rfl, hp, hr1⟩ := hv.same s1
  refine ⟨_, rfl, p, _, rfl, SqT.of hp, rfl, ?_⟩
  refine ⟨_, _, rfl, _, _, rfl, rfl, ?_⟩
  refine ⟨_, rfl, _, _, rfl, rfl, _, rfl, ifD (fun h => ?_) fun h => ?_⟩
  · obtain ⟨n, rfl⟩ := Int.eq_ofNat_of_zero_le h
    rw [Int.natAbs_natCast] at k24
    have ba : ∀ i, i ≤ n → ∀ m, m < M → (np f i m).natAbs ≤ (M * N) ^ i := fun i _ m hm => np_abs (fun n _ => fN n) i m hm
    have mn : M * N < 2 ^ 107 := Nat.lt_of_le_of_lt (Nat.mul_le_mul_right N M2) (Nat.lt_of_lt_of_le (Nat.mul_lt_mul_of_pos_left hN (by decide)) (by decide))
    have bB : ∀ i, i ≤ n → ∀ m, m < M → Bn (np f i m) := fun i hi m hm => Bn.of (a := 3000) (Nat.lt_of_le_of_lt (ba i hi m hm) (two_pow_lt mn (by omega))) (by decide) (by decide)
    have bn : (b ^ n).natAbs ≤ N ^ n := by rw [Int.natAbs_pow]; exact Nat.pow_le_pow_left bN n
    have bp : 0 < b ^ n := Int.pow_pos (by omega)
    refine ⟨_, rfl, _, rfl, b, n, rfl, b128, by omega, ?_⟩
    refine ⟨_, rfl, _, rfl, r, f, M, n, rfl, hr1, bB, M1, by omega, fun H2 r2 s2 h2 => ?_⟩
    refine ⟨b ^ n, r2, rg M (np f n), rfl, h2, ⟨by omega, .inl (Nat.lt_of_le_of_lt bn (two_pow_lt hN (by omega)))⟩, by rw [rg_len]; omega, fun H3 u s3 g3 => ?_⟩
    have e1 : (((b ^ n).natAbs : Nat) : Int) = b ^ n := by omega
    have e2 : ngT (b ^ n) (rg M (np f n)) = rg M (np f n) := if_neg (by omega)
    rw [e1, e2] at g3
    have bd : bdP N M ((n : Nat) : Int) = (M * N) ^ n := by unfold bdP; rw [if_pos (by omega), Int.toNat_natCast]
    refine q _ _ (b ^ n) (np f n) (s1.trans (s2.trans s3)) bp g3 ?_ ?_ ?_
    · rw [Int.toNat_natCast, show (-((n : Nat) : Int)).toNat = 0 by omega]
      exact Zp.up M n b f
    · rw [bd]
      exact Nat.le_trans bn (Nat.pow_le_pow_left (Nat.le_mul_of_pos_left N M1) n)
    · rw [bd]
      exact ba n (Nat.le_refl _)
  dsimp only [tNext]
  have kn : k < 0 := by omega
  have f0 := f0 kn
  refine ⟨_, rfl, .inr (.inl ⟨r, _, 0, _, rfl, rfl, SqT.of hr1, atI_nat (j := 0) c0, rfl, _, rfl, ifI (fun e => absurd e f0) fun _ => ?_⟩)⟩
  dsimp only [tNext]
  have kb := kb kn
  refine ⟨_, rfl, _, rfl, b, r, rg M f, rfl, hr1, by omega, Nat.lt_trans b128 (Nat.pow_lt_pow_right (by decide) (by decide)), by rw [lr]; omega, fun H2 v2 s2 g2 => ?_⟩
  obtain ⟨G, hG⟩ : ∃ z : Nat, z = gcdL b.natAbs (rg M f) := ⟨_, rfl⟩
  have gd := gcdL_dvd (rg M f) b.natAbs
  have gt := gcdL_mem (rg M f) b.natAbs
  rw [low_rg] at g2
  unfold lowB at g2
  rw [← hG] at g2 gd gt
  have G0 : 0 < G := Nat.pos_of_dvd_of_pos gd (by omega)
  obtain ⟨T, hT⟩ : ∃ T : Nat → Int, T = fun n => f n / (G : Int) := ⟨_, rfl⟩
  rw [← hT] at g2
  have eB : (G : Int) * (b / (G : Int)) = b := Int.mul_ediv_cancel' (Int.dvd_natAbs.mp (Int.natCast_dvd_natCast.mpr gd))
  have eT : Eqm M (fun n => (G : Int) * T n) f := fun n hn => by
    rw [hT]
    exact Int.mul_ediv_cancel' (Int.dvd_natAbs.mp (Int.natCast_dvd_natCast.mpr (gt _ (List.mem_map.mpr ⟨n, List.mem_range.mpr hn, rfl⟩))))
  have bT : ∀ n, (T n).natAbs ≤ N := fun n => by rw [hT]; exact Nat.le_trans (Int.natAbs_ediv_le_natAbs _ _) (fN n)
  have bB : (b / (G : Int)).natAbs ≤ N := Nat.le_trans (Int.natAbs_ediv_le_natAbs _ _) bN
  generalize b / (G : Int) = Bo at g2 eB bB
  have T0 : T 0 ≠ 0 := fun e => by
    have h0 := eT 0 M1
    exact f0 (by rw [← h0]; show (G : Int) * T 0 = 0; rw [e]; exact Int.mul_zero _)
  clear hT
  obtain ⟨k0, rfl⟩ : ∃ k0 : Nat, k = -(k0 : Int) := ⟨k.natAbs, by omega⟩
  have K1 : 1 ≤ k0 := by omega
  have ek : (-(k0 : Int)).natAbs = k0 := by omega
  rw [ek] at k24
  have bd : bdP N M (-(k0 : Int)) = 2 ^ (k0 * M) * N ^ (M + k0) := by unfold bdP; rw [if_neg (by omega), ek]
  rw [bd] at kb
  obtain ⟨ba1, ba2⟩ := below_abs (M := M) K1 N1 bB bT
  obtain ⟨p2, r2, rfl, hp2, hr2⟩ := g2
  refine ⟨p2, _, rfl, SqT.of hp2, rfl, ?_⟩
  refine ⟨_, _, rfl, _, _, rfl, rfl, ?_⟩
  have F0 : T 0 ^ (M - 1 + k0) ≠ 0 := Int.pow_ne_zero T0
  have zp := below_Zp (B := Bo) (K := k0) (last := M - 1) (f := T) rfl T0
  rw [show M - 1 + 1 = M by omega] at zp
  refine ⟨_, rfl, _, rfl, _, rfl, r2, T, M, k0, N, Bo, rfl, hr2, T0, K1, k24, M1, M2, hN, bB, bT, ⟨F0, .inr ⟨Nat.lt_of_le_of_lt ba1 kb, fun t ht => ?_⟩⟩, fun H3 u s3 g3 => ?_⟩
  · obtain ⟨n, hn, rfl⟩ := List.mem_map.mp ht
    exact Nat.lt_of_le_of_lt (ba2 n (List.mem_range.mp hn)) kb
  rw [ng_rg] at g3
  generalize belowR Bo (T 0) T k0 (M - 1) = z at zp g3 ba2
  generalize T 0 ^ (M - 1 + k0) = c at zp g3 ba1 F0
  have zf : Zp M b f 0 k0 c z := by
    have := zp.upB (g := (G : Int))
    rw [eB] at this
    exact this.congr eT
  refine q _ _ ((c.natAbs : Nat) : Int) (fun n => if c < 0 then -z n else z n) (s1.trans (s2.trans s3)) (by omega) g3 ?_ ?_ ?_
  · rw [show (-(k0 : Int)).toNat = 0 by omega, show (- -(k0 : Int)).toNat = k0 by omega]
    by_cases hc : c < 0
    · refine Zp.scale (g := -1) ?_ (by decide)
      rw [show (-1 : Int) * ((c.natAbs : Nat) : Int) = c by omega]
      refine zf.congrZ fun n _ => ?_
      rw [if_pos hc]
      omega
    · rw [show ((c.natAbs : Nat) : Int) = c by omega]
      refine zf.congrZ fun n _ => ?_
      rw [if_neg hc]
  · rw [bd, Int.natAbs_natCast]
    exact ba1
  · intro n hn
    rw [bd]
    split
    · rw [Int.natAbs_neg]; exact ba2 n hn
    · exact ba2 n hn
end
end Ft

set_option exponentiation.threshold 9000
namespace Ft
open PySem L2 PySem.Spec PyProof.Rows
/-! ### an own error over Exception without __init__ -/
abbrev excBm : List Value := [.type "Exception", .type "BaseException", .type "object"]
structure Ex0 (K : PySem.W.Frag) (mg : Str → Option Value) (x : Str) (C : Addr) : Prop where
  q : PySem.W.excIn K C excBm "Exception.__new__" = true
  g : mg x = some (.ref C)
  kp : PySem.W.keepIn K (.ref C) = true
  sb : PySem.W.subIn K (.ref C) (.type "BaseException") = some true
  ty : PySem.W.typeIn K (.ref C) = some (.type "type")
  ex : PySem.W.exmOne K (.ref C) (.ref C) = some true
theorem exm_own {K : PySem.W.Frag} {C D : Addr} {b : Bool} (h1 : PySem.W.subIn K (.ref D) (.type "BaseException") = some true) (h2 : PySem.W.isClsIn K D = true) (h3 : PySem.W.typeIn K (.ref D) = some (.type "type")) (h4 : PySem.W.subIn K (.ref C) (.ref D) = some b) :
    PySem.W.exmOne K (.ref C) (.ref D) = some b := by
  have e2 : ((PySem.W.clsIn K D).isSome && PySem.W.typeIn K (.ref D) == some (.type "type")) = true := by
    rw [h3]
    show (PySem.W.isClsIn K D && _) = true
    rw [h2]
    rfl
  show (if (PySem.W.subIn K (.ref D) (.type "BaseException") == some true) = true then (if ((PySem.W.clsIn K D).isSome && PySem.W.typeIn K (.ref D) == some (.type "type")) = true then PySem.W.subIn K (.ref C) (.ref D) else none) else none) = some b
  rw [h1, if_pos (by rfl), if_pos e2]
  exact h4
theorem ex0_mk {K : PySem.W.Frag} {h : Heap} {mg : Str → Option Value} {x : Str} {C : Addr} (X : K.In h) (G : h.Ns mainGlobals mg) (a : PySem.W.nsIn K mainGlobals x = some (some (.ref C))) (q : PySem.W.excIn K C excBm "Exception.__new__" = true) (kp : PySem.W.keepIn K (.ref C) = true)
    (sb : PySem.W.subIn K (.ref C) (.type "BaseException") = some true) (ty : PySem.W.typeIn K (.ref C) = some (.type "type")) (cl : PySem.W.isClsIn K C = true) (ss : PySem.W.subIn K (.ref C) (.ref C) = some true) : Ex0 K mg x C :=
  ⟨q, PySem.W.mg_of X G a, kp, sb, ty, exm_own sb cl ty ss⟩
section
variable {X : Cx} {x : Str} {C : Addr} {p pos : Pos}
/-- X() -/
theorem pmk_own0 (T : Ex0 X.K X.mg x C) (hg : Gl X x) (hdb : (x == ("__debug__" : Str)) = false := by decide) : PMk X (.Call (.Name x p) [] [] pos) (fun _ H Q => Q (.ref C) none H) := by
  intro pins s σ H Q I h
  refine wpAny_Call_Name_kw (ld_glob I hg T.g ?_ hdb)
  refine PySem.W.callWith_K0 I.kIn T.kp ?_
  show wpAny _ _ (call (.ref C) []) _ _ _
  obtain ⟨bm, N, nm, qn, bs, hdct, sn, sub, ab, col, dd, k0, k1, k2, k3, k5, mN, hC, hN, hni, T'⟩ := exc_obj I.kIn T.q
  refine wpAny_call_exc_subT PySem.F.excBase_Exception T' hC hN hni (fun h' e hm => ?_) (Nat.zero_le _)
  exact mk_of I hm (raises_own T.sb T.ty) h (I.hok.gone hm.new)
end
/-- a def that may raise, by place and by name -/
structure CalL (P : Program) (w : World) (K : PySem.W.Frag) (mg : Str → Option Value) (base : Heap) (k : Nat) (x : Str) (ps ks : List Str) (gV : List V → List V → List V) (sp : Sp) : Prop where
  ex : ∃ (f : Addr) (fd : FuncData) (gU : List Value → List Value → List Value), FnOk P w K mg base (L2.CX P w) k f fd ps sp ∧ mg x = some (.ref f) ∧ PySem.W.keepIn K (.ref f) = true ∧ Binds K fd ps [] ∧ KBinds K fd ps ks gU gV
section
variable {X : Cx} {CX : CXT} {k : Nat} {f : Addr} {fd : FuncData} {ps ks : List Str} {sp : Sp} {g : List Value → List Value → List Value} {gV : List V → List V → List V} {E : L2.St → XK} {x : Str} {p pos : Pos} {kws : List Keyword} {tk : TA}
theorem run_fnkS {pins : List (Addr × Obj)} {σ : L2.St} {H : Hp} {s : Shared} {Q : VK} {us ws : List Value} {vs zs : List V} (F : FnOk X.prog X.w X.K X.mg X.base CX k f fd ps sp) (hr : Room k X.A) (hb : KBinds X.K fd ps ks g gV) (hx : PassesAt CX X σ (E σ))
    (I : Inv X pins σ H s) (r : Vals vs us) (rz : Vals zs ws) (h : sp (gV vs zs) H Q (E σ)) : wpAny (model X.prog X.w) X.A (call (.ref f) us (ks.zip ws)) (EP X pins σ Q) X.xe s := by
  have r2 := hb.rel r rz
  have hl : (g us ws).length = ps.length := by rw [← r2.length]; exact F.len _ _ _ _ h
  refine wpAny_call (codeAny_mono (F.run X.A X.stack s H ⟨us, ks.zip ws⟩ (g us ws) (gV vs zs) Q (E σ) hr I.env0 (hb.to s us ws I.kIn hl) r2 h) fun r s' hq => ?_)
  cases r with
  | error e => exact hx pins H s e s' I hq
  | ok fl =>
    cases fl with
    | ret u => exact I.after hq
    | next => exact False.elim hq
    | brk => exact False.elim hq
    | cont => exact False.elim hq
def tCallKS (sp : Sp) (gV : List V → List V → List V) (E : L2.St → XK) (tk : TA) : TE := fun σ H Q => tk σ H fun zs H1 => sp (gV [] zs) H1 Q (E σ)
/-- a def that may raise, by names alone, where the slots stand -/
theorem pe_kxS (F : FnOk X.prog X.w X.K X.mg X.base CX k f fd ps sp) (hr : Room k X.A) (hg : Gl X x) (hm : X.mg x = some (.ref f)) (kp : PySem.W.keepIn X.K (.ref f) = true) (hb : KBinds X.K fd ps ks g gV) (hx : ∀ σ, PassesAt CX X σ (E σ)) (hkw : PK X kws tk)
    (hall : (backToKw pos (keywordEach kws X.env)).all (·.1.isSome) = true := by rfl) (hks : (backToKw pos (keywordEach kws X.env)).filterMap (·.1) = ks := by rfl) (hdb : (x == ("__debug__" : Str)) = false := by decide)
    (hpl : ((backTo pos (starEach [] X.env)).any (·.1) || (backToKw pos (keywordEach kws X.env)).any (·.1.isNone)) = false := by rfl) :
    PE X (.Call (.Name x p) [] kws pos) (tCallKS sp gV E tk) :=
  ⟨fun pins s σ H Q I h => wpAny_Call_Name_kw (ld_glob I hg hm (PySem.W.callWith_KW0 (h₀ := X.base) I.ok.mod.kin kp hall (thn (hkw.run pos pins s σ H _ I h) fun ws s2 ⟨zs, H2, I2, rz, q2⟩ => ⟨I2.kIn, by rw [hks]; exact run_fnkS F hr hb (hx σ) I2 .nil rz q2⟩) hpl) hdb)⟩
end
def sp_powerE (C : Addr) : Sp := fun vs H Q E => ∃ (v : V) (b : Int) (M : Nat) (f : Nat → Int) (k : Int), vs = [v, .int k] ∧ Bg H v b (rg M f) ∧ 1 ≤ b ∧ 1 ≤ M ∧ M ≤ 120 ∧ f 0 = 0 ∧ k < 0 ∧ ∀ H', Same H H' → E (.ref C) none H'
section
variable {P : Program} {w : World} {K : PySem.W.Frag} {mg : Str → Option Value} {base : Heap}
theorem fx_powerE {f : Addr} {fd : FuncData} {C : Addr} (F : Fun K "power" "power" s_power f fd) (B : Bi mg) (T : Ex0 K mg "DividedByZero" C) (c_check_beginning : Cal P w K mg base 4 "check_beginning" sp_checkBeg) (c_check_integer : Cal P w K mg base 2 "check_integer" sp_check_integer) (c_lowered : Cal P w K mg base 1 "lowered" sp_loweredT) (c_lowX : Cal P w K mg base 1 "lowered" sp_loweredX) (c_power_tops : Cal P w K mg base 2 "power_tops" sp_powTR) (c_raised : Cal P w K mg base 1 "raised" sp_raisedI) (c_power_below : Cal P w K mg base 2 "power_below" sp_pbelowR) : FnOk P w K mg base (L2.CX P w) 5 f fd ["beginning", "k"] (sp_powerE C) := by
  have sc := sc_power
  refine F.okX sc (fun _ _ _ _ ⟨_, _, _, _, _, e, _⟩ => by rw [e]; rfl) (fun cdv A outer s H vs Q E hr h => ?_)
  obtain ⟨v, b, M, f, k, rfl, hv, b1, M1, M2, f0, kn, q⟩ := h
  refine ⟨_, (pss_cons (ps_expr (pe_c c_check_beginning hr (by decide) (by rfl) (pa_cons (pv 0) pa_nil)))
      (pss_cons (ps_expr (pe_c c_check_integer hr (by decide) (by rfl) (pa_cons (pv 1) pa_nil)))
      (pss_cons (ps_asg (pv 0) (pg_tup rfl (pgs_cons (pg_name (i := 2) sc.nd rfl (Or.inl rfl)) (pgs_cons (pg_name (i := 3) sc.nd rfl (Or.inl rfl)) pgs_nil))))
      (pss_cons (ps_if (pt_cmpR op_ge (pv 1) pe_int (nomark _))
      (pss_one (ps_ret (pe_c c_lowX hr (by decide) (by rfl) (pa_cons (pe_c c_raised hr (by decide) (by rfl) (pa_cons (pv 2) (pa_cons (pv 1) pa_nil))) (pa_cons (pe_c c_power_tops hr (by decide) (by rfl) (pa_cons (pv 3) (pa_cons (pv 1) pa_nil))) pa_nil)))))
      pss_nil)
      (pss_cons (ps_if (pt_cmpR op_eq (pe_ix (show IxR _ (rIx K) from ix_seq) (pv 3) pe_int (fun _ _ => rfl)) pe_int (nomark _))
      (pss_one (ps_raise rfl (takes_of rfl rfl rfl rfl) (pmk_own0 T (by rfl))))
      pss_nil)
      (pss_cons (ps_asg (pe_c c_lowered hr (by decide) (by rfl) (pa_cons (pv 2) (pa_cons (pv 3) pa_nil))) (pg_tup rfl (pgs_cons (pg_name (i := 4) sc.nd rfl (Or.inl rfl)) (pgs_cons (pg_name (i := 5) sc.nd rfl (Or.inl rfl)) pgs_nil))))
      (pss_one (ps_ret (pe_c c_power_below hr (by decide) (by rfl) (pa_cons (pv 4) (pa_cons (pv 5) (pa_cons (pv 1) pa_nil)))))))))))), ?_⟩
  have lr : (rg M f).length = M := rg_len M f
  have c0 : ((rg M f).map V.int)[0]? = some (V.int (f 0)) := range_getD f (by omega)
  refine ⟨_, rfl, v, b, _, rfl, hv, ⟨b1, by rw [lr]; exact M1, by rw [lr]; omega⟩, fun H1 s1 => ?_⟩
  refine ⟨_, rfl, k, rfl, trivial, ?_⟩
  obtain ⟨p, r, rfl, hp, hr1⟩ := hv.same s1
  refine ⟨_, rfl, p, _, rfl, SqT.of hp, rfl, ?_⟩
  refine ⟨_, _, rfl, _, _, rfl, rfl, ?_⟩
  refine ⟨_, rfl, _, _, rfl, rfl, _, rfl, ifD (fun h => absurd kn (by omega)) fun _ => ?_⟩
  refine ⟨_, rfl, .inr (.inl ⟨r, _, 0, _, rfl, rfl, SqT.of hr1, atI_nat (j := 0) c0, rfl, _, rfl, ifI (fun _ => ?_) fun e => absurd f0 e⟩)⟩
  exact q _ s1
end
end Ft

set_option exponentiation.threshold 9000
namespace Ft
open PySem L2
def addL (b1 : Int) (t1 : List Int) (b2 : Int) (t2 : List Int) : List Int := (List.range (min t1.length t2.length)).map fun n => t1.getD n 0 * b2 + t2.getD n 0 * b1
def csum (t1 t2 : List Int) (n : Nat) : Int := ((List.range (n + 1)).map fun i => t1.getD i 0 * t2.getD (n - i) 0).sum
def mulL (t1 t2 : List Int) : List Int := (List.range (min t1.length t2.length)).map fun n => csum t1 t2 n
def timL (t : List Int) (x : Int) : List Int := t.map fun y => y * x
def sp_bin (f : Int → List Int → Int → List Int → List Int) : Sp := fun vs H Q _ => ∃ u v b1 t1 b2 t2, vs = [u, v] ∧ Bg H u b1 t1 ∧ Bg H v b2 t2 ∧ BgOk b1 t1 ∧ BgOk b2 t2 ∧ b1.natAbs < 2 ^ 2000 ∧ b2.natAbs < 2 ^ 2000 ∧ (∀ x ∈ t1, x.natAbs < 2 ^ 2000) ∧ (∀ x ∈ t2, x.natAbs < 2 ^ 2000) ∧
  ∀ H' r, Same H H' → Bg H' r (lowB (b1 * b2) (f b1 t1 b2 t2)) (lowT (b1 * b2) (f b1 t1 b2 t2)) → Q r H'
def sp_ptops : Sp := fun vs H Q _ => ∃ p q t1 t2, vs = [.ref p, .ref q] ∧ H p = some (.tup (t1.map V.int)) ∧ H q = some (.tup (t2.map V.int)) ∧ t1.length ≤ 400 ∧ t2.length ≤ 400 ∧ (∀ x ∈ t1, x.natAbs < 2 ^ 2000) ∧ (∀ x ∈ t2, x.natAbs < 2 ^ 2000) ∧ ∀ H' r, Same H H' → H' r = some (.lst ((mulL t1 t2).map V.int)) → Q (.ref r) H'
def sp_times : Sp := fun vs H Q _ => ∃ u v b t x, vs = [u, v] ∧ Bg H u b t ∧ Fr H v x ∧ BgOk b t ∧ 1 ≤ x.2 ∧ b.natAbs < 2 ^ 2000 ∧ x.1.natAbs < 2 ^ 2000 ∧ x.2.natAbs < 2 ^ 2000 ∧ (∀ y ∈ t, y.natAbs < 2 ^ 2000) ∧
  ∀ H' r, Same H H' → Bg H' r (lowB (b * x.2) (timL t x.1)) (lowT (b * x.2) (timL t x.1)) → Q r H'
def sp_isNumber : Sp := fun vs H Q _ => ∃ v x, vs = [v] ∧ Fr H v x ∧ 1 ≤ x.2 ∧ ∀ H', Same H H' → Q (.bl true) H'
def sp_isTuple : Sp := fun vs H Q _ => ∃ v x, vs = [v, .int 2] ∧ Fr H v x ∧ ∀ H', Same H H' → Q (.bl true) H'
def sp_isPair : Sp := fun vs H Q _ => ∃ v x, vs = [v] ∧ Fr H v x ∧ ∀ H', Same H H' → Q (.bl true) H'
def sp_checkNumber : Sp := fun vs H Q _ => ∃ v x, vs = [v] ∧ Fr H v x ∧ 1 ≤ x.2 ∧ ∀ H', Same H H' → Q .non H'
def sp_termAt : Sp := fun vs H Q _ => ∃ u b t n, vs = [u, .int ((n : Nat) : Int)] ∧ Bg H u b t ∧ BgOk b t ∧ n < t.length ∧ b.natAbs < 2 ^ 8001 ∧ ∀ H' r, Same H H' → Fr H' r (low (t.getD n 0) b) → Q r H'
theorem getD_lt {ts : List Int} {N : Nat} (h : ∀ x ∈ ts, x.natAbs < 2 ^ N) (i : Nat) : (ts.getD i 0).natAbs < 2 ^ N := by
  rcases Nat.lt_or_ge i ts.length with hi | hi
  · exact h _ (getD_mem hi)
  · rw [List.getD_eq_getElem?_getD, List.getElem?_eq_none hi]
    exact Nat.pow_pos (by decide)
theorem mul2 {i j : Int} (h1 : i.natAbs < 2 ^ 2000) (h2 : j.natAbs < 2 ^ 2000) : CMulW i j := wide_mul h1 h2 (by decide) (by decide) (by decide)
theorem mul_lt2 {i j : Int} (h1 : i.natAbs < 2 ^ 2000) (h2 : j.natAbs < 2 ^ 2000) : (i * j).natAbs < 2 ^ 8000 := Nat.lt_trans (wide_lt h1 h2) (Nat.pow_lt_pow_right (by decide) (by decide))
theorem walk_zipT {K : PySem.W.Frag} {a b : Addr} {xs ys : List V} {n : Nat} (hn : n = min xs.length ys.length) : Walk (RZ.ItzT K a b) n (fun H => SqT K H a xs ∧ SqT K H b ys) (YPair (fun i => xs[i]?) (fun i => ys[i]?)) :=
  ⟨fun i _ lt q => ⟨xs, ys, xs[i]'(by omega), ys[i]'(by omega), q.1, q.2, List.getElem?_eq_getElem _, List.getElem?_eq_getElem _⟩, fun _ q => ⟨xs, ys, q.1, q.2, by omega⟩, fun i _ _ _ _ q y => by
    obtain ⟨T, x, u, e1, e2, e3, e4, e5⟩ := y
    exact ⟨T, x, u, e1, e2, e3, e4 xs q.1, e5 ys q.2⟩⟩
section
variable {P : Program} {w : World} {K : PySem.W.Frag} {mg : Str → Option Value} {base : Heap}
theorem ok_ptops (D : Df K mg "product_tops" s_product_tops ["one", "other"]) (B : Bi mg) : Cal P w K mg base 1 "product_tops" sp_ptops := by
  obtain ⟨f, fd, F, m, b⟩ := D.ex
  have sc := sc_product_tops
  refine ⟨f, fd, _, F.ok sc (fun _ _ _ _ ⟨_, _, _, _, e, _⟩ => by rw [e]; rfl) (fun cdv A outer s H vs Q E hr h => ?_), m, F.kp, b⟩
  obtain ⟨p, q, t1, t2, rfl, hp, hq, l1, l2, b1, b2, qq⟩ := h
  refine ⟨_, (pss_cons (ps_set (i := 2) sc.nd rfl (Or.inl rfl) (pe_callB (call_min2 rfl) (by rfl) B.min_ (by decide +kernel) (pa_cons (pe_callB call_len_seq (by rfl) B.len_ (by decide +kernel) (pa_cons (pv 0) pa_nil)) (pa_cons (pe_callB call_len_seq (by rfl) B.len_ (by decide +kernel) (pa_cons (pv 1) pa_nil)) pa_nil))))
      (pss_one (ps_ret (pe_lc (own := [("n", 4)]) (g := gName 4) (tt := tYes) (by rfl) sc.nd (pi_range1 rfl B.range (pa_cons (pv 2) pa_nil)) (blkOk_by (own := [("n", 4)]) (N := N_product_tops) (sc := defScope s_product_tops) (by decide +kernel)) (fun _ _ _ _ _ => (pg_name (i := 4) sc.nd rfl (Or.inr rfl))) (fun _ _ _ _ _ => pts_nil) (fun _ _ _ _ _ => (pe_callB (id := "sum") (r := rSum K) (cr_sum rfl) (by rfl) B.sum (by decide +kernel) (pa_cons (pe_lc (own := [("i", 3)]) (g := gName 3) (tt := tYes) (by rfl) sc.nd (pi_range1 rfl B.range (pa_cons (pe_op op_add (pv 4) pe_int) pa_nil)) (blkOk_by (own := [("i", 3)]) (N := N_product_tops) (sc := { kind := ScopeKind.function, names := [(".0", NameKind.local), ("n", NameKind.cell), ("sum", NameKind.globalImplicit), ("range", NameKind.globalImplicit), ("one", NameKind.cell), ("other", NameKind.cell)], isGenerator := false, isCoroutine := false }) (by decide +kernel)) (fun _ _ _ _ _ => (pg_name (i := 3) sc.nd rfl (Or.inl rfl))) (fun _ _ _ _ _ => pts_nil) (fun _ _ _ _ _ => (pe_op op_mulW (pe_ix (show IxR _ (rIx K) from ix_seq) (pv 0) (pv 3) (fun _ _ => rfl)) (pe_ix (show IxR _ (rIx K) from ix_seq) (pv 1) (pe_op op_sub (pv 4) (pv 3)) (fun _ _ => rfl))))) pa_nil))))))), ?_⟩
  have ll1 : (t1.map V.int).length = t1.length := List.length_map ..
  have ll2 : (t2.map V.int).length = t2.length := List.length_map ..
  refine ⟨_, rfl, p, _, rfl, .inr (SqT.of hp), _, rfl, q, _, rfl, .inr (SqT.of hq), _, _, rfl, ?_⟩
  rw [ll1, ll2]
  have em : (if (t2.length : Int) < (t1.length : Int) then (t2.length : Int) else (t1.length : Int)) = ((min t1.length t2.length : Nat) : Int) := by split <;> omega
  rw [em]
  dsimp only [gName]
  have hmul : mulL t1 t2 = (List.range (min t1.length t2.length)).map fun n => csum t1 t2 n := rfl
  generalize hm : min t1.length t2.length = many at hmul
  refine ⟨_, rfl, _, rfl, by omega, by omega, fun D1 hD1 => ?_⟩
  refine lc_range (lo := 0) (n := ((many : Int)).toNat) (fun i H' => Same H H' ∧ H' D1 = some (.lst (((List.range i).map fun n => csum t1 t2 n).map V.int))) ⟨Same.upd_new hD1, upd_same⟩ ?_ ?_
  · rintro n H2 hn ⟨s2, h2⟩
    rw [Int.toNat_natCast] at hn
    dsimp only [gName]
    rw [Int.zero_add]
    refine ⟨rfl, ?_⟩
    refine ⟨_, rfl, _, _, rfl, rfl, _, rfl, by omega, by omega, fun D2 hD2 => ?_⟩
    refine lc_range (lo := 0) (n := ((n : Int) + 1).toNat) (fun i H' => Same H2 H' ∧ H' D2 = some (.lst (((List.range i).map fun j => t1.getD j 0 * t2.getD (n - j) 0).map V.int))) ⟨Same.upd_new hD2, upd_same⟩ ?_ ?_
    · rintro j H3 hj ⟨s3, h3⟩
      have hj' : j ≤ n := by omega
      dsimp only [gName]
      rw [Int.zero_add]
      have hp3 := s3 _ _ (s2 _ _ hp)
      have hq3 := s3 _ _ (s2 _ _ hq)
      have esub : (n : Int) - (j : Int) = ((n - j : Nat) : Int) := by omega
      refine ⟨rfl, _, rfl, _, rfl, .inr (.inl ⟨p, _, _, _, rfl, rfl, SqT.of hp3, atI_nat (getD_at (by omega)), ?_⟩)⟩
      refine ⟨_, rfl, _, rfl, _, rfl, _, _, rfl, rfl, ?_⟩
      dsimp only
      rw [esub]
      refine .inr (.inl ⟨q, _, _, _, rfl, rfl, SqT.of hq3, atI_nat (getD_at (by omega)), ?_⟩)
      refine ⟨_, _, rfl, rfl, mul2 (getD_lt b1 j) (getD_lt b2 (n - j)), _, h3, ?_, fun b o e => ?_, ?_⟩
      · rw [List.length_map, List.length_map, List.length_range]
        exact Nat.lt_of_le_of_lt (by omega : j ≤ 400) (by decide)
      · rw [upd_ne (ne_of_none e hD2)]
        exact s3 _ _ e
      · rw [upd_same, List.range_succ, List.map_append, List.map_append]
        rfl
    · rintro H3 ⟨s3, h3⟩
      rw [show ((n : Int) + 1).toNat = n + 1 by omega] at h3
      refine ⟨D2, _, rfl, SqL.of h3, ?_⟩
      have h2' := s3 _ _ h2
      refine ⟨_, h2', ?_, fun b o e => ?_, ?_⟩
      · rw [List.length_map, List.length_map, List.length_range]
        exact Nat.lt_of_le_of_lt (by omega : n ≤ 400) (by decide)
      · rw [upd_ne (ne_of_none e hD1)]
        exact s3 _ _ (s2 _ _ e)
      · have ec : (List.range (n + 1)).map (fun n => csum t1 t2 n) = (List.range n).map (fun n => csum t1 t2 n) ++ [csum t1 t2 n] := by rw [List.range_succ, List.map_append]; rfl
        rw [upd_same, ec, List.map_append]
        rfl
  · rintro H2 ⟨s2, h2⟩
    rw [Int.toNat_natCast, ← hmul] at h2
    exact qq _ D1 s2 h2
theorem ok_multiplied (D : Df K mg "multiplied" s_multiplied ["one", "other"]) (c_check_beginning : Cal P w K mg base 4 "check_beginning" sp_checkBeg) (c_lowered : Cal P w K mg base 1 "lowered" sp_lowered) (c_product_tops : Cal P w K mg base 1 "product_tops" sp_ptops) : Cal P w K mg base 5 "multiplied" (sp_bin fun _ t1 _ t2 => mulL t1 t2) := by
  obtain ⟨f, fd, F, m, b⟩ := D.ex
  have sc := sc_multiplied
  refine ⟨f, fd, _, F.ok sc (fun _ _ _ _ ⟨_, _, _, _, _, _, e, _⟩ => by rw [e]; rfl) (fun cdv A outer s H vs Q E hr h => ?_), m, F.kp, b⟩
  obtain ⟨u, v, b1, t1, b2, t2, rfl, hu, hv, ok1, ok2, s1, s2, s3, s4, q⟩ := h
  refine ⟨_, (pss_cons (ps_expr (pe_c c_check_beginning hr (by decide) (by rfl) (pa_cons (pv 0) pa_nil)))
      (pss_cons (ps_expr (pe_c c_check_beginning hr (by decide) (by rfl) (pa_cons (pv 1) pa_nil)))
      (pss_one (ps_ret (pe_c c_lowered hr (by decide) (by rfl) (pa_cons (pe_op op_mulW (pe_ix (show IxR _ (rIx K) from ix_seq) (pv 0) pe_int (fun _ _ => rfl)) (pe_ix (show IxR _ (rIx K) from ix_seq) (pv 1) pe_int (fun _ _ => rfl))) (pa_cons (pe_c c_product_tops hr (by decide) (by rfl) (pa_cons (pe_ix (show IxR _ (rIx K) from ix_seq) (pv 0) pe_int (fun _ _ => rfl)) (pa_cons (pe_ix (show IxR _ (rIx K) from ix_seq) (pv 1) pe_int (fun _ _ => rfl)) pa_nil))) pa_nil))))))), ?_⟩
  have l1 := ok1.2.1
  have l2 := ok1.2.2
  have l3 := ok2.2.1
  have l4 := ok2.2.2
  have p1 := ok1.1
  have p2 := ok2.1
  have a0 : ∀ {a c : V}, atI [a, c] 0 = some a := fun {a c} => atI_nat (j := 0) rfl
  have a1 : ∀ {a c : V}, atI [a, c] 1 = some c := fun {a c} => atI_nat (j := 1) rfl
  refine ⟨_, rfl, u, b1, t1, rfl, hu, ok1, fun H1 e1 => ?_⟩
  refine ⟨_, rfl, v, b2, t2, rfl, hv.same e1, ok2, fun H2 e2 => ?_⟩
  have e12 := e1.trans e2
  obtain ⟨p, r, rfl, hp, hrt⟩ := hu.same e12
  obtain ⟨p', r', rfl, hp', hrt'⟩ := hv.same e12
  refine ⟨_, rfl, .inr (.inl ⟨p, _, 0, _, rfl, rfl, SqT.of hp, a0, _, rfl, .inr (.inl ⟨p', _, 0, _, rfl, rfl, SqT.of hp', a0, _, _, rfl, rfl, mul2 s1 s2, ?_⟩)⟩)⟩
  refine ⟨_, rfl, .inr (.inl ⟨p, _, 1, _, rfl, rfl, SqT.of hp, a1, _, rfl, .inr (.inl ⟨p', _, 1, _, rfl, rfl, SqT.of hp', a1, r, r', t1, t2, rfl, hrt, hrt', l2, l4, s3, s4, fun H3 d3 k3 h3 => ?_⟩)⟩)⟩
  refine ⟨b1 * b2, d3, mulL t1 t2, rfl, h3, Int.mul_pos (by omega) (by omega), mul_lt2 s1 s2, ?_, fun H4 r4 k4 g4 => q _ _ (e12.trans (k3.trans k4)) g4⟩
  unfold mulL
  rw [List.length_map, List.length_range]
  omega
end
end Ft

set_option exponentiation.threshold 9000
namespace Ft
open PySem L2
def BgN (N : Int) (b : Int) (ts : List Int) : Prop := b.natAbs < N.toNat ∧ ∀ x ∈ ts, x.natAbs < N.toNat
def rAbs : List V → Hp → VK → Prop := fun xs H Q => ∃ i, xs = [.int i] ∧ Q (.int (if i < 0 then -i else i)) H
def absL (ts : List Int) : List Int := ts.map fun t => (t.natAbs : Int)
theorem abs_if (z : Int) : (if z < 0 then -z else z) = (z.natAbs : Int) := by split <;> omega
theorem max_short {b m N : Int} {ts : List Int} (hb : 1 ≤ b) (h : ∀ y, y ∈ absL ts ++ [b] → y ≤ m) (hm : m < N) : BgN N b ts := by
  have h1 := h b (List.mem_append_right _ List.mem_cons_self)
  refine ⟨by omega, fun x hx => ?_⟩
  have h2 := h (x.natAbs : Int) (List.mem_append_left _ (List.mem_map_of_mem hx))
  omega
theorem max_mem {b m N : Int} {ts : List Int} (h : BgN N b ts) (hm : m ∈ absL ts ++ [b]) : m.natAbs < N.toNat := by
  rcases List.mem_append.mp hm with hm | hm
  · obtain ⟨t, ht, rfl⟩ := List.mem_map.mp hm
    rw [Int.natAbs_natCast]
    exact h.2 t ht
  · rw [List.mem_singleton.mp hm]
    exact h.1
def sp_form : Sp := fun vs H Q _ => ∃ v b ts c, vs = [v, .int ((c : Nat) : Int)] ∧ Bg H v b ts ∧ BgOk b ts ∧ BgN (10 ^ 30) b ts ∧ 1 ≤ c ∧ c ≤ 7 ∧
  ∀ H' u (e : Nat), Same H H' → 1 ≤ e → e ≤ 7 → Bg H' u (b * (e : Int)) (ts.map fun t => t * (e : Int)) → Q u H'
def sp_short : Sp := fun vs H Q _ => ∃ v b ts, vs = [v] ∧ Bg H v b ts ∧ BgOk b ts ∧ ∀ H' c, Same H H' → (c = true → BgN (10 ^ 30) b ts) → Q (.bl c) H'
section
variable {P : Program} {w : World} {K : PySem.W.Frag} {mg : Str → Option Value} {base : Heap}
theorem ok_short (D : Df K mg "_law_is_short" s__law_is_short ["_law_one"]) (B : Bi mg) : Cal P w K mg base 1 "_law_is_short" sp_short := by
  obtain ⟨f, fd, F, m, b⟩ := D.ex
  have sc := sc__law_is_short
  refine ⟨f, fd, _, F.ok sc (fun _ _ _ _ ⟨_, _, _, e, _⟩ => by rw [e]; rfl) (fun cdv A outer s H vs Q E hr h => ?_), m, F.kp, b⟩
  obtain ⟨v, b, ts, rfl, hv, ok, q⟩ := h
  refine ⟨_, (pss_one (ps_ret (pe_cmpR op_lt (pe_callB (cr_max rfl) (by rfl) B.max_ (by decide +kernel) (pa_cons (pe_op op_cat (pe_lc (own := [("_law_top", 1)]) (g := gName 1) (tt := tYes) (by rfl) sc.nd (pi_tup (pe_ix (show IxR _ (rIx K) from ix_seq) (pv 0) pe_int (fun _ _ => rfl))) (blkOk_by (own := [("_law_top", 1)]) (N := N__law_is_short) (sc := defScope s__law_is_short) (by decide +kernel)) (fun _ _ _ _ _ => (pg_name (i := 1) sc.nd rfl (Or.inl rfl))) (fun _ _ _ _ _ => pts_nil) (fun _ _ _ _ _ => (pe_callB (id := "abs") (r := rAbs) call_abs (by rfl) B.abs (by decide +kernel) (pa_cons (pv 1) pa_nil)))) (pe_lst (pa_cons (pe_ix (show IxR _ (rIx K) from ix_seq) (pv 0) pe_int (fun _ _ => rfl)) pa_nil))) pa_nil)) (pe_op op_pow pe_int pe_int) (nomark _)))), ?_⟩
  have a0 : ∀ {a c : V}, atI [a, c] 0 = some a := fun {a c} => atI_nat (j := 0) rfl
  have a1 : ∀ {a c : V}, atI [a, c] 1 = some c := fun {a c} => atI_nat (j := 1) rfl
  obtain ⟨p, r, rfl, hp, hrt⟩ := hv
  have ll : (ts.map V.int).length = ts.length := List.length_map ..
  have l2 := ok.2.2
  refine ⟨_, rfl, .inr (.inl ⟨p, _, 1, _, rfl, rfl, SqT.of hp, a1, r, rfl, ⟨_, SqT.of hrt⟩, fun D1 hD1 => ?_⟩)⟩
  refine lc_it (walk_tup (xs := ts.map V.int)) (fun i H' => Same H H' ∧ H' D1 = some (.lst ((absL (ts.take i)).map V.int))) ⟨Same.upd_new hD1, upd_same⟩ (fun i H' _ ⟨k2, _⟩ => SqT.of (k2 _ _ hrt)) ?_ ?_
  · rintro i y H2 H3 hi ⟨k2, h2⟩ ⟨rfl, hy⟩
    rw [ll] at hi
    obtain ⟨z, rfl, hz⟩ := int_at hy
    refine ⟨rfl, _, rfl, z, rfl, _, h2, ?_, fun b o e => ?_, ?_⟩
    · unfold absL
      rw [List.length_map, List.length_map, List.length_take]
      exact Nat.lt_of_le_of_lt (by omega : _ ≤ 400) (by decide)
    · rw [upd_ne (ne_of_none e hD1)]
      exact k2 _ _ e
    · rw [upd_same, take_snoc hz]
      unfold absL
      rw [List.map_append, List.map_append, abs_if]
      rfl
  · rintro H2 ⟨k2, h2⟩
    rw [ll, List.take_length] at h2
    have hp2 := k2 _ _ hp
    refine ⟨_, rfl, .inr (.inl ⟨p, _, 0, _, rfl, rfl, SqT.of hp2, a0, ?_⟩)⟩
    refine ⟨(by show (1 : Nat) ≤ sizeLine; decide), fun D2 hD2 => ?_⟩
    have s3 : Same H2 (upd H2 D2 (.lst [V.int b])) := Same.upd_new hD2
    refine ⟨D1, D2, _, _, rfl, rfl, s3 _ _ h2, upd_same, ?_, fun D3 hD3 => ?_⟩
    · unfold absL
      rw [List.length_map, List.length_map]
      exact Nat.le_trans (show ts.length + 1 ≤ 401 by omega) (by decide)
    have s4 : Same (upd H2 D2 (.lst [V.int b])) (upd (upd H2 D2 (.lst [V.int b])) D3 (.lst ((absL ts).map V.int ++ [V.int b]))) := Same.upd_new hD3
    refine ⟨D3, absL ts ++ [b], rfl, SqL.of (by rw [upd_same, List.map_append]; rfl), by rw [List.length_append]; exact Nat.succ_pos _, fun m hm hmax => ?_⟩
    refine ⟨_, _, rfl, rfl, ⟨by decide, by decide, by decide⟩, _, _, rfl, rfl, ?_⟩
    refine q _ _ (k2.trans (s3.trans s4)) fun hc => ?_
    exact max_short ok.1 hmax (of_decide_eq_true hc)
end
end Ft

set_option exponentiation.threshold 9000
namespace Ft
open PySem L2
section
variable {P : Program} {w : World} {K : PySem.W.Frag} {mg : Str → Option Value} {base : Heap}
theorem ok_reduced (D : Df K mg "_law_reduced" s__law_reduced ["_law_bottom", "_law_tops"]) (B : Bi mg)  : Cal P w K mg base 1 "_law_reduced" sp_lowered := by
  obtain ⟨f, fd, F, m, b⟩ := D.ex
  have sc := sc__law_reduced
  refine ⟨f, fd, _, F.ok sc (fun _ _ _ _ ⟨_, _, _, e, _⟩ => by rw [e]; rfl) (fun cdv A outer s H vs Q E hr h => ?_), m, F.kp, b⟩
  obtain ⟨b, p, ts, rfl, hp, b0, b1, tl, q⟩ := h
  refine ⟨_, (pss_cons (ps_set (i := 2) sc.nd rfl (Or.inr rfl) (pv 0))
      (pss_cons (ps_for PassesOwn.never rfl (pi_list (pv 1)) (pg_name (i := 3) sc.nd rfl (Or.inl rfl))
      (pss_cons (ps_par (i := 4) (j := 5) (by rfl) sc.nd rfl rfl (by decide) rfl rfl (pa_cons (pv 2) (pa_cons (pe_callB call_abs (by rfl) B.abs (by decide +kernel) (pa_cons (pv 3) pa_nil)) pa_nil)) (by rfl))
        (pss_cons (ps_while PassesOwn.never (pt_cmpR op_ne (pv 5) pe_int (nomark _))
        (pss_one (ps_par (i := 4) (j := 5) (by rfl) sc.nd rfl rfl (by decide) rfl rfl (pa_cons (pv 5) (pa_cons (pe_op op_mod (pe_callTy call_int1 (by rfl) B.int_ (by decide +kernel) (pa_cons (pv 4) pa_nil)) (pv 5)) pa_nil)) (by rfl))))
        (pss_one (ps_set (i := 2) sc.nd rfl (Or.inr rfl) (pv 4))))))
      (pss_one (ps_ret (pe_tup (pa_cons (pe_op op_fdivW (pv 0) (pv 2)) (pa_cons (pe_callTy call_tuple_of (by rfl) B.tuple (by decide +kernel) (pa_cons (pe_lc (own := [("_law_top", 3)]) (g := gName 3) (tt := tYes) (by rfl) sc.nd (pi_list (pv 1)) (blkOk_by (own := [("_law_top", 3)]) (N := N__law_reduced) (sc := defScope s__law_reduced) (by decide +kernel)) (fun _ _ _ _ _ => (pg_name (i := 3) sc.nd rfl (Or.inl rfl))) (fun _ _ _ _ _ => pts_nil) (fun _ _ _ _ _ => (pe_op op_fdivW (pv 3) (pv 2)))) pa_nil)) pa_nil))))))), ?_⟩
  have eb : b = (b.natAbs : Int) := by omega
  refine ⟨_, rfl, ?_⟩
  dsimp only [gName]
  refine tSeq_join (fun σ H' => H = H' ∧ ∃ o3 o4 o5 : Option V, σ = [some (.int b), some (.ref p), some (.int ((gcdL b.natAbs ts : Nat) : Int)), o3, o4, o5]) (fun N hN => ?_) ?_
  · refine ⟨_, rfl, p, rfl, ⟨_, SqL.of hp⟩, for_list (K := K) (a := p) (xs := ts.map V.int) (fun i σ H' => H = H' ∧ ∃ (g : Nat) (o3 o4 o5 : Option V), σ = [some (.int b), some (.ref p), some (.int (g : Int)), o3, o4, o5] ∧ gcdL g (ts.drop i) = gcdL b.natAbs ts) ⟨rfl, b.natAbs, none, none, none, by rw [← eb]; rfl, rfl⟩ (fun i σ H2 _ ⟨e, _⟩ => by rw [← e]; exact SqL.of hp) ?_ ?_⟩
    · rintro i x σ _ hi ⟨rfl, g, o3, o4, o5, rfl, hg⟩
      obtain ⟨z, rfl, hz⟩ := int_at hi
      rw [gcdL_drop hz] at hg
      have ea : (if z < 0 then -z else z) = (z.natAbs : Int) := by split <;> omega
      refine ⟨_, rfl, _, rfl, z, rfl, _, _, rfl, ?_⟩
      rw [ea]
      refine while_go (fun σ H' => H = H' ∧ ∃ (c e : Nat), σ = [some (.int b), some (.ref p), some (.int (g : Int)), some (.int z), some (.int (c : Nat)), some (.int (e : Nat))] ∧ Nat.gcd c e = Nat.gcd g z.natAbs) (fun σ _ => m0 5 σ) ⟨rfl, g, z.natAbs, rfl, rfl⟩ ?_
      rintro σ _ ⟨rfl, c, e, rfl, hce⟩
      refine ⟨_, rfl, rfl, _, rfl, ifNI (fun hne => ?_) fun he => ?_⟩
      · have e0 : 0 < e := by omega
        refine ⟨fun σ' H' => H = H' ∧ ∃ (c' e' : Nat), σ' = [some (.int b), some (.ref p), some (.int (g : Int)), some (.int z), some (.int (c' : Nat)), some (.int (e' : Nat))] ∧ Nat.gcd c' e' = Nat.gcd g z.natAbs ∧ e' < e, ?_, ?_⟩
        · rintro σ' _ ⟨rfl, c', e', rfl, h1, h2⟩
          exact ⟨_, (by show ((e' : Int)).toNat < ((e : Int)).toNat; omega), rfl, rfl, c', e', rfl, h1⟩
        refine ⟨_, rfl, _, rfl, .inl ⟨_, rfl, _, rfl, _, _, rfl, rfl, (by show (0 : Int) < (e : Int); omega), _, _, rfl, ?_⟩⟩
        refine ⟨rfl, e, c % e, rfl, ?_, Nat.mod_lt _ e0⟩
        rw [← hce, Nat.gcd_comm e, ← Nat.gcd_rec, Nat.gcd_comm]
      · have e0 : e = 0 := by omega
        subst e0
        rw [Nat.gcd_zero_right] at hce
        subst hce
        refine ⟨_, rfl, ?_⟩
        exact ⟨rfl, _, _, _, _, rfl, hg⟩
    · rintro σ _ ⟨rfl, g, o3, o4, o5, rfl, hg⟩
      rw [List.length_map, List.drop_length] at hg
      exact hN _ _ ⟨rfl, o3, o4, o5, by rw [← hg]; rfl⟩
  rintro _ _ ⟨rfl, o3, o4, o5, rfl⟩
  have gd := gcdL_dvd ts b.natAbs
  have bp : 0 < b.natAbs := by omega
  have gl := Nat.le_of_dvd bp gd
  have gp := Nat.pos_of_dvd_of_pos gd bp
  generalize hG : gcdL b.natAbs ts = G at gl gp
  have cd : ∀ i : Int, CDivW i (G : Int) := fun i => wide_div (b := 8000) (by omega) (Nat.lt_of_le_of_lt gl b1) (by decide) (by decide)
  refine ⟨_, rfl, _, rfl, _, _, rfl, rfl, cd b, ?_⟩
  refine ⟨_, rfl, p, rfl, ⟨_, SqL.of hp⟩, fun D1 hD1 => ?_⟩
  refine lc_list (K := K) (a := p) (xs := ts.map V.int) (fun i H' => Same H H' ∧ H' D1 = some (.lst ((ts.take i).map fun t => V.int (t / (G : Int))))) ⟨Same.upd_new hD1, upd_same⟩ (fun i H' _ ⟨s2, _⟩ => SqL.of (s2 _ _ hp)) ?_ ?_
  · rintro i x H2 hx ⟨s2, h2⟩
    obtain ⟨z, rfl, hz⟩ := int_at hx
    have hi := (List.getElem?_eq_some_iff.mp hz).1
    refine ⟨rfl, ?_⟩
    refine ⟨_, rfl, _, rfl, _, _, rfl, rfl, cd z, _, h2, ?_, fun b o e => ?_, ?_⟩
    · rw [List.length_map, List.length_take]
      exact Nat.lt_of_le_of_lt (Nat.le_trans (Nat.min_le_right _ _) tl) (by decide)
    · rw [upd_ne (ne_of_none e hD1)]
      exact s2 _ _ e
    · rw [upd_same, take_snoc hz, List.map_append]
      rfl
  · rintro H2 ⟨s2, h2⟩
    have e1 : (ts.take (ts.map V.int).length).map (fun t => V.int (t / (G : Int))) = (lowT b ts).map V.int := by
      unfold lowT
      rw [hG, List.length_map, List.take_length, List.map_map]
      rfl
    rw [e1] at h2
    refine ⟨D1, _, rfl, .inl ⟨SqL.of h2, fun T1 hT1 => ?_⟩⟩
    have s3 : Same H2 (upd H2 T1 (.tup ((lowT b ts).map V.int))) := Same.upd_new hT1
    have h3 : (upd H2 T1 (.tup ((lowT b ts).map V.int))) T1 = some (.tup ((lowT b ts).map V.int)) := upd_same
    generalize hH3 : upd H2 T1 (.tup ((lowT b ts).map V.int)) = H3 at s3 h3
    refine ⟨(by show (2 : Nat) ≤ sizeLine; decide), fun T2 hT2 => ?_⟩
    have s4 : Same H3 (upd H3 T2 (.tup [V.int (b / (G : Int)), V.ref T1])) := Same.upd_new hT2
    refine q _ _ (s2.trans (s3.trans s4)) ⟨T2, T1, rfl, ?_, s4 _ _ h3⟩
    unfold lowB
    rw [hG]
    exact upd_same
theorem ok_reducedT (D : Df K mg "_law_reduced" s__law_reduced ["_law_bottom", "_law_tops"]) (B : Bi mg)  : Cal P w K mg base 1 "_law_reduced" sp_loweredT := by
  obtain ⟨f, fd, F, m, b⟩ := D.ex
  have sc := sc__law_reduced
  refine ⟨f, fd, _, F.ok sc (fun _ _ _ _ ⟨_, _, _, e, _⟩ => by rw [e]; rfl) (fun cdv A outer s H vs Q E hr h => ?_), m, F.kp, b⟩
  obtain ⟨b, p, ts, rfl, hp, b0, b1, tl, q⟩ := h
  refine ⟨_, (pss_cons (ps_set (i := 2) sc.nd rfl (Or.inr rfl) (pv 0))
      (pss_cons (ps_for PassesOwn.never rfl (pi_tup (pv 1)) (pg_name (i := 3) sc.nd rfl (Or.inl rfl))
      (pss_cons (ps_par (i := 4) (j := 5) (by rfl) sc.nd rfl rfl (by decide) rfl rfl (pa_cons (pv 2) (pa_cons (pe_callB call_abs (by rfl) B.abs (by decide +kernel) (pa_cons (pv 3) pa_nil)) pa_nil)) (by rfl))
        (pss_cons (ps_while PassesOwn.never (pt_cmpR op_ne (pv 5) pe_int (nomark _))
        (pss_one (ps_par (i := 4) (j := 5) (by rfl) sc.nd rfl rfl (by decide) rfl rfl (pa_cons (pv 5) (pa_cons (pe_op op_mod (pe_callTy call_int1 (by rfl) B.int_ (by decide +kernel) (pa_cons (pv 4) pa_nil)) (pv 5)) pa_nil)) (by rfl))))
        (pss_one (ps_set (i := 2) sc.nd rfl (Or.inr rfl) (pv 4))))))
      (pss_one (ps_ret (pe_tup (pa_cons (pe_op op_fdivW (pv 0) (pv 2)) (pa_cons (pe_callTy call_tuple_of (by rfl) B.tuple (by decide +kernel) (pa_cons (pe_lc (own := [("_law_top", 3)]) (g := gName 3) (tt := tYes) (by rfl) sc.nd (pi_tup (pv 1)) (blkOk_by (own := [("_law_top", 3)]) (N := N__law_reduced) (sc := defScope s__law_reduced) (by decide +kernel)) (fun _ _ _ _ _ => (pg_name (i := 3) sc.nd rfl (Or.inl rfl))) (fun _ _ _ _ _ => pts_nil) (fun _ _ _ _ _ => (pe_op op_fdivW (pv 3) (pv 2)))) pa_nil)) pa_nil))))))), ?_⟩
  have eb : b = (b.natAbs : Int) := by omega
  refine ⟨_, rfl, ?_⟩
  dsimp only [gName]
  refine tSeq_join (fun σ H' => H = H' ∧ ∃ o3 o4 o5 : Option V, σ = [some (.int b), some (.ref p), some (.int ((gcdL b.natAbs ts : Nat) : Int)), o3, o4, o5]) (fun N hN => ?_) ?_
  · refine ⟨_, rfl, p, rfl, ⟨_, SqT.of hp⟩, for_it (walk_tup (xs := ts.map V.int)) (fun i σ H' => H = H' ∧ ∃ (g : Nat) (o3 o4 o5 : Option V), σ = [some (.int b), some (.ref p), some (.int (g : Int)), o3, o4, o5] ∧ gcdL g (ts.drop i) = gcdL b.natAbs ts) ⟨rfl, b.natAbs, none, none, none, by rw [← eb]; rfl, rfl⟩ (fun i σ H2 _ ⟨e, _⟩ => by rw [← e]; exact SqT.of hp) ?_ ?_⟩
    · rintro i x σ _ H' _ ⟨rfl, g, o3, o4, o5, rfl, hg⟩ ⟨e2, hi⟩
      replace e2 := e2.symm
      subst e2
      obtain ⟨z, rfl, hz⟩ := int_at hi
      rw [gcdL_drop hz] at hg
      have ea : (if z < 0 then -z else z) = (z.natAbs : Int) := by split <;> omega
      refine ⟨_, rfl, _, rfl, z, rfl, _, _, rfl, ?_⟩
      rw [ea]
      refine while_go (fun σ H' => H = H' ∧ ∃ (c e : Nat), σ = [some (.int b), some (.ref p), some (.int (g : Int)), some (.int z), some (.int (c : Nat)), some (.int (e : Nat))] ∧ Nat.gcd c e = Nat.gcd g z.natAbs) (fun σ _ => m0 5 σ) ⟨rfl, g, z.natAbs, rfl, rfl⟩ ?_
      rintro σ _ ⟨rfl, c, e, rfl, hce⟩
      refine ⟨_, rfl, rfl, _, rfl, ifNI (fun hne => ?_) fun he => ?_⟩
      · have e0 : 0 < e := by omega
        refine ⟨fun σ' H' => H = H' ∧ ∃ (c' e' : Nat), σ' = [some (.int b), some (.ref p), some (.int (g : Int)), some (.int z), some (.int (c' : Nat)), some (.int (e' : Nat))] ∧ Nat.gcd c' e' = Nat.gcd g z.natAbs ∧ e' < e, ?_, ?_⟩
        · rintro σ' _ ⟨rfl, c', e', rfl, h1, h2⟩
          exact ⟨_, (by show ((e' : Int)).toNat < ((e : Int)).toNat; omega), rfl, rfl, c', e', rfl, h1⟩
        refine ⟨_, rfl, _, rfl, .inl ⟨_, rfl, _, rfl, _, _, rfl, rfl, (by show (0 : Int) < (e : Int); omega), _, _, rfl, ?_⟩⟩
        refine ⟨rfl, e, c % e, rfl, ?_, Nat.mod_lt _ e0⟩
        rw [← hce, Nat.gcd_comm e, ← Nat.gcd_rec, Nat.gcd_comm]
      · have e0 : e = 0 := by omega
        subst e0
        rw [Nat.gcd_zero_right] at hce
        subst hce
        refine ⟨_, rfl, ?_⟩
        exact ⟨rfl, _, _, _, _, rfl, hg⟩
    · rintro σ _ ⟨rfl, g, o3, o4, o5, rfl, hg⟩
      rw [List.length_map, List.drop_length] at hg
      exact hN _ _ ⟨rfl, o3, o4, o5, by rw [← hg]; rfl⟩
  rintro _ _ ⟨rfl, o3, o4, o5, rfl⟩
  have gd := gcdL_dvd ts b.natAbs
  have bp : 0 < b.natAbs := by omega
  have gl := Nat.le_of_dvd bp gd
  have gp := Nat.pos_of_dvd_of_pos gd bp
  generalize hG : gcdL b.natAbs ts = G at gl gp
  have cd : ∀ i : Int, CDivW i (G : Int) := fun i => wide_div (b := 8000) (by omega) (Nat.lt_of_le_of_lt gl b1) (by decide) (by decide)
  refine ⟨_, rfl, _, rfl, _, _, rfl, rfl, cd b, ?_⟩
  refine ⟨_, rfl, p, rfl, ⟨_, SqT.of hp⟩, fun D1 hD1 => ?_⟩
  refine lc_it (walk_tup (xs := ts.map V.int)) (fun i H' => Same H H' ∧ H' D1 = some (.lst ((ts.take i).map fun t => V.int (t / (G : Int))))) ⟨Same.upd_new hD1, upd_same⟩ (fun i H' _ ⟨s2, _⟩ => SqT.of (s2 _ _ hp)) ?_ ?_
  · rintro i x H2 H3 _ ⟨s2, h2⟩ ⟨e2, hx⟩
    replace e2 := e2.symm
    subst e2
    obtain ⟨z, rfl, hz⟩ := int_at hx
    have hi := (List.getElem?_eq_some_iff.mp hz).1
    refine ⟨rfl, ?_⟩
    refine ⟨_, rfl, _, rfl, _, _, rfl, rfl, cd z, _, h2, ?_, fun b o e => ?_, ?_⟩
    · rw [List.length_map, List.length_take]
      exact Nat.lt_of_le_of_lt (Nat.le_trans (Nat.min_le_right _ _) tl) (by decide)
    · rw [upd_ne (ne_of_none e hD1)]
      exact s2 _ _ e
    · rw [upd_same, take_snoc hz, List.map_append]
      rfl
  · rintro H2 ⟨s2, h2⟩
    have e1 : (ts.take (ts.map V.int).length).map (fun t => V.int (t / (G : Int))) = (lowT b ts).map V.int := by
      unfold lowT
      rw [hG, List.length_map, List.take_length, List.map_map]
      rfl
    rw [e1] at h2
    refine ⟨D1, _, rfl, .inl ⟨SqL.of h2, fun T1 hT1 => ?_⟩⟩
    have s3 : Same H2 (upd H2 T1 (.tup ((lowT b ts).map V.int))) := Same.upd_new hT1
    have h3 : (upd H2 T1 (.tup ((lowT b ts).map V.int))) T1 = some (.tup ((lowT b ts).map V.int)) := upd_same
    generalize hH3 : upd H2 T1 (.tup ((lowT b ts).map V.int)) = H3 at s3 h3
    refine ⟨(by show (2 : Nat) ≤ sizeLine; decide), fun T2 hT2 => ?_⟩
    have s4 : Same H3 (upd H3 T2 (.tup [V.int (b / (G : Int)), V.ref T1])) := Same.upd_new hT2
    refine q _ _ (s2.trans (s3.trans s4)) ⟨T2, T1, rfl, ?_, s4 _ _ h3⟩
    unfold lowB
    rw [hG]
    exact upd_same
end
end Ft

set_option exponentiation.threshold 9000
namespace Ft
open PySem L2
def sp_lmulE : Sp := fun vs H Q _ => ∃ u v b1 t1 b2 t2, vs = [u, v] ∧ Bg H u b1 t1 ∧ Bg H v b2 t2 ∧ BgOk b1 t1 ∧ BgOk b2 t2 ∧ b1.natAbs < 2 ^ 2000 ∧ b2.natAbs < 2 ^ 2000 ∧ (∀ x ∈ t1, x.natAbs < 2 ^ 2000) ∧ (∀ x ∈ t2, x.natAbs < 2 ^ 2000) ∧ t1.length = t2.length ∧
  ∀ H' r, Same H H' → Bg H' r (lowB (b1 * b2) (mulL t1 t2)) (lowT (b1 * b2) (mulL t1 t2)) → Q r H'
section
variable {P : Program} {w : World} {K : PySem.W.Frag} {mg : Str → Option Value} {base : Heap}
theorem ok_lmul (D : Df K mg "_law_multiplied" s__law_multiplied ["_law_one", "_law_other"]) (B : Bi mg) (c__law_reduced : Cal P w K mg base 1 "_law_reduced" sp_lowered) : Cal P w K mg base 2 "_law_multiplied" sp_lmulE := by
  obtain ⟨f, fd, F, m, b⟩ := D.ex
  have sc := sc__law_multiplied
  refine ⟨f, fd, _, F.ok sc (fun _ _ _ _ ⟨_, _, _, _, _, _, e, _⟩ => by rw [e]; rfl) (fun cdv A outer s H vs Q E hr h => ?_), m, F.kp, b⟩
  obtain ⟨u, v, b1, t1, b2, t2, rfl, hu, hv, ok1, ok2, s1, s2, s3, s4, le, qq⟩ := h
  refine ⟨_, (pss_cons (ps_set (i := 2) sc.nd rfl (Or.inl rfl) (pe_callB call_len_seq (by rfl) B.len_ (by decide +kernel) (pa_cons (pe_ix (show IxR _ (rIx K) from ix_seq) (pv 0) pe_int (fun _ _ => rfl)) pa_nil)))
      (pss_cons (ps_setLc (i := 5) (own := [("_law_n", 4)]) (g := gName 4) (tt := tYes) (by rfl) sc.nd rfl rfl (sw_true rfl rfl rfl (by decide +kernel)) (pi_range1 rfl B.range (pa_cons (pv 2) pa_nil)) (blkOk_by (own := [("_law_n", 4)]) (N := N__law_multiplied) (sc := defScope s__law_multiplied) (by decide +kernel)) (fun _ _ _ _ _ => (pg_name (i := 4) sc.nd rfl (Or.inr rfl))) (fun _ _ _ _ _ => pts_nil) (fun _ _ _ _ _ => (pe_callB (id := "sum") (r := rSum K) (cr_sum rfl) (by rfl) B.sum (by decide +kernel) (pa_cons (pe_lc (own := [("_law_i", 3)]) (g := gName 3) (tt := tYes) (by rfl) sc.nd (pi_range1 rfl B.range (pa_cons (pe_op op_add (pv 4) pe_int) pa_nil)) (blkOk_by (own := [("_law_i", 3)]) (N := N__law_multiplied) (sc := { kind := ScopeKind.function, names := [(".0", NameKind.local), ("_law_n", NameKind.cell), ("sum", NameKind.globalImplicit), ("range", NameKind.globalImplicit), ("_law_one", NameKind.cell), ("_law_other", NameKind.cell)], isGenerator := false, isCoroutine := false }) (by decide +kernel)) (fun _ _ _ _ _ => (pg_name (i := 3) sc.nd rfl (Or.inl rfl))) (fun _ _ _ _ _ => pts_nil) (fun _ _ _ _ _ => (pe_op op_mulW (pe_ix (show IxR _ (rIx K) from ix_seq) (pe_ix (show IxR _ (rIx K) from ix_seq) (pv 0) pe_int (fun _ _ => rfl)) (pv 3) (fun _ _ => rfl)) (pe_ix (show IxR _ (rIx K) from ix_seq) (pe_ix (show IxR _ (rIx K) from ix_seq) (pv 1) pe_int (fun _ _ => rfl)) (pe_op op_sub (pv 4) (pv 3)) (fun _ _ => rfl))))) pa_nil))))
      (pss_one (ps_ret (pe_c c__law_reduced hr (by decide) (by rfl) (pa_cons (pe_op op_mulW (pe_ix (show IxR _ (rIx K) from ix_seq) (pv 0) pe_int (fun _ _ => rfl)) (pe_ix (show IxR _ (rIx K) from ix_seq) (pv 1) pe_int (fun _ _ => rfl))) (pa_cons (pv 5) pa_nil))))))), ?_⟩
  have l1 := ok1.2.1
  have l2 := ok1.2.2
  have l3 := ok2.2.1
  have l4 := ok2.2.2
  have p1 := ok1.1
  have p2 := ok2.1
  have a0 : ∀ {a c : V}, atI [a, c] 0 = some a := fun {a c} => atI_nat (j := 0) rfl
  have a1 : ∀ {a c : V}, atI [a, c] 1 = some c := fun {a c} => atI_nat (j := 1) rfl
  have ll1 : (t1.map V.int).length = t1.length := List.length_map ..
  have ll2 : (t2.map V.int).length = t2.length := List.length_map ..
  obtain ⟨p, r, rfl, hp, hrt⟩ := hu
  obtain ⟨p', r', rfl, hp', hrt'⟩ := hv
  refine ⟨_, rfl, .inr (.inl ⟨p, _, 1, _, rfl, rfl, SqT.of hp, a1, r, _, rfl, .inr (SqT.of hrt), ?_⟩)⟩
  rw [ll1]
  have em : t1.length = min t1.length t2.length := by omega
  rw [em]
  dsimp only [gName]
  have hmul : mulL t1 t2 = (List.range (min t1.length t2.length)).map fun n => csum t1 t2 n := rfl
  generalize hm : min t1.length t2.length = many at hmul
  refine ⟨_, rfl, _, rfl, by omega, by omega, fun D1 hD1 => ?_⟩
  refine lc_range (lo := 0) (n := ((many : Int)).toNat) (fun i H' => Same H H' ∧ H' D1 = some (.lst (((List.range i).map fun n => csum t1 t2 n).map V.int))) ⟨Same.upd_new hD1, upd_same⟩ ?_ ?_
  · rintro n H2 hn ⟨s2', h2⟩
    rw [Int.toNat_natCast] at hn
    dsimp only [gName]
    rw [Int.zero_add]
    refine ⟨rfl, ?_⟩
    refine ⟨_, rfl, _, _, rfl, rfl, _, rfl, by omega, by omega, fun D2 hD2 => ?_⟩
    refine lc_range (lo := 0) (n := ((n : Int) + 1).toNat) (fun i H' => Same H2 H' ∧ H' D2 = some (.lst (((List.range i).map fun j => t1.getD j 0 * t2.getD (n - j) 0).map V.int))) ⟨Same.upd_new hD2, upd_same⟩ ?_ ?_
    · rintro j H3 hj ⟨s3', h3⟩
      have hj' : j ≤ n := by omega
      dsimp only [gName]
      rw [Int.zero_add]
      have hp3 := s3' _ _ (s2' _ _ hp)
      have hq3 := s3' _ _ (s2' _ _ hp')
      have hr3 := s3' _ _ (s2' _ _ hrt)
      have hr3' := s3' _ _ (s2' _ _ hrt')
      have esub : (n : Int) - (j : Int) = ((n - j : Nat) : Int) := by omega
      refine ⟨rfl, _, rfl, .inr (.inl ⟨p, _, 1, _, rfl, rfl, SqT.of hp3, a1, ?_⟩)⟩
      refine ⟨_, rfl, .inr (.inl ⟨r, _, _, _, rfl, rfl, SqT.of hr3, atI_nat (getD_at (by omega)), ?_⟩)⟩
      refine ⟨_, rfl, .inr (.inl ⟨p', _, 1, _, rfl, rfl, SqT.of hq3, a1, ?_⟩)⟩
      refine ⟨_, rfl, _, rfl, _, _, rfl, rfl, ?_⟩
      dsimp only
      rw [esub]
      refine .inr (.inl ⟨r', _, _, _, rfl, rfl, SqT.of hr3', atI_nat (getD_at (by omega)), ?_⟩)
      refine ⟨_, _, rfl, rfl, mul2 (getD_lt s3 j) (getD_lt s4 (n - j)), _, h3, ?_, fun b o e => ?_, ?_⟩
      · rw [List.length_map, List.length_map, List.length_range]
        exact Nat.lt_of_le_of_lt (by omega : j ≤ 400) (by decide)
      · rw [upd_ne (ne_of_none e hD2)]
        exact s3' _ _ e
      · rw [upd_same, List.range_succ, List.map_append, List.map_append]
        rfl
    · rintro H3 ⟨s3', h3⟩
      rw [show ((n : Int) + 1).toNat = n + 1 by omega] at h3
      refine ⟨D2, _, rfl, SqL.of h3, ?_⟩
      have h2' := s3' _ _ h2
      refine ⟨_, h2', ?_, fun b o e => ?_, ?_⟩
      · rw [List.length_map, List.length_map, List.length_range]
        exact Nat.lt_of_le_of_lt (by omega : n ≤ 400) (by decide)
      · rw [upd_ne (ne_of_none e hD1)]
        exact s3' _ _ (s2' _ _ e)
      · have ec : (List.range (n + 1)).map (fun n => csum t1 t2 n) = (List.range n).map (fun n => csum t1 t2 n) ++ [csum t1 t2 n] := by rw [List.range_succ, List.map_append]; rfl
        rw [upd_same, ec, List.map_append]
        rfl
  · rintro H2 ⟨s2', h2⟩
    rw [Int.toNat_natCast, ← hmul] at h2
    have hp2 := s2' _ _ hp
    have hp2' := s2' _ _ hp'
    refine ⟨_, rfl, .inr (.inl ⟨p, _, 0, _, rfl, rfl, SqT.of hp2, a0, ?_⟩)⟩
    refine ⟨_, rfl, .inr (.inl ⟨p', _, 0, _, rfl, rfl, SqT.of hp2', a0, _, _, rfl, rfl, mul2 s1 s2, ?_⟩)⟩
    refine ⟨_, rfl, b1 * b2, D1, mulL t1 t2, rfl, h2, Int.mul_pos (by omega) (by omega), mul_lt2 s1 s2, ?_, fun H4 r4 k4 g4 => qq _ _ (s2'.trans k4) g4⟩
    unfold mulL
    rw [List.length_map, List.length_range]
    omega
end
end Ft

set_option exponentiation.threshold 9000
namespace Ft
open PySem L2
/-! rows in lowest terms -/
def L (b : Int) (t : List Int) : Int × List Int := (lowB b t, lowT b t)
def sc (c : Int) (t : List Int) : List Int := t.map fun x => c * x
theorem sc_len (c : Int) (t : List Int) : (sc c t).length = t.length := List.length_map ..
theorem L_mul {c : Int} (hc : 0 < c) {b : Int} (hb : 0 < b) (t : List Int) : L (c * b) (sc c t) = L b t := by
  obtain ⟨n, rfl⟩ : ∃ n : Nat, c = (n : Int) := ⟨c.toNat, by omega⟩
  have h := low_mul (c := n) (by omega) hb t
  exact Prod.ext h.1 h.2
theorem range_ext {f g : Nat → Int} {m n : Nat} (hm : m = n) (h : ∀ i, i < m → f i = g i) : (List.range m).map f = (List.range n).map g := by
  subst hm
  exact List.map_congr_left fun i hi => h i (List.mem_range.mp hi)
theorem sc_range (c : Int) (f : Nat → Int) (m : Nat) : sc c ((List.range m).map f) = (List.range m).map fun i => c * f i := by
  unfold sc
  rw [List.map_map]
  rfl
theorem sc_getD (c : Int) (t : List Int) (i : Nat) : (sc c t).getD i 0 = c * t.getD i 0 := getD_mul c t i
def fn (t : List Int) (i : Nat) : Int := t.getD i 0
theorem csum_conv (t1 t2 : List Int) (n : Nat) : csum t1 t2 n = conv (fn t1) (fn t2) n := sum_Sg _ _
theorem addL_len (b1 : Int) (t1 : List Int) (b2 : Int) (t2 : List Int) : (addL b1 t1 b2 t2).length = min t1.length t2.length := by unfold addL; rw [List.length_map, List.length_range]
theorem mulL_len (t1 t2 : List Int) : (mulL t1 t2).length = min t1.length t2.length := by unfold mulL; rw [List.length_map, List.length_range]
theorem addL_at (b1 : Int) (t1 : List Int) (b2 : Int) (t2 : List Int) {i : Nat} (h : i < min t1.length t2.length) : (addL b1 t1 b2 t2).getD i 0 = t1.getD i 0 * b2 + t2.getD i 0 * b1 := by
  unfold addL; rw [getD_range, if_pos h]
theorem mulL_at (t1 t2 : List Int) {i : Nat} (h : i < min t1.length t2.length) : (mulL t1 t2).getD i 0 = conv (fn t1) (fn t2) i := by
  unfold mulL; rw [getD_range, if_pos h, csum_conv]
theorem addL_sc1 (c b1 : Int) (t1 : List Int) (b2 : Int) (t2 : List Int) : addL (c * b1) (sc c t1) b2 t2 = sc c (addL b1 t1 b2 t2) := by
  unfold addL
  rw [sc_range]
  refine range_ext (by rw [sc_len]) fun i _ => ?_
  rw [sc_getD]
  grind
theorem addL_comm (b1 : Int) (t1 : List Int) (b2 : Int) (t2 : List Int) : addL b1 t1 b2 t2 = addL b2 t2 b1 t1 :=
  range_ext (Nat.min_comm _ _) fun i _ => Int.add_comm _ _
theorem addL_sc2 (c b1 : Int) (t1 : List Int) (b2 : Int) (t2 : List Int) : addL b1 t1 (c * b2) (sc c t2) = sc c (addL b1 t1 b2 t2) := by
  rw [addL_comm, addL_sc1, addL_comm]
theorem mulL_comm (t1 t2 : List Int) : mulL t1 t2 = mulL t2 t1 :=
  range_ext (Nat.min_comm _ _) fun i _ => by rw [csum_conv, csum_conv, conv_comm]
theorem mulL_sc1 (c : Int) (t1 t2 : List Int) : mulL (sc c t1) t2 = sc c (mulL t1 t2) := by
  unfold mulL
  rw [sc_range]
  refine range_ext (by rw [sc_len]) fun i _ => ?_
  rw [csum_conv, csum_conv]
  have h := conv_mul c 1 (fn t1) (fn t2) i
  rw [Int.mul_one] at h
  rw [← h]
  exact conv_congr (fun j _ => sc_getD c t1 j) fun j _ => (Int.one_mul _).symm
theorem mulL_sc2 (c : Int) (t1 t2 : List Int) : mulL t1 (sc c t2) = sc c (mulL t1 t2) := by
  rw [mulL_comm, mulL_sc1, mulL_comm]
theorem low_back {b : Int} (t : List Int) (hb : 0 < b) : ∃ g : Int, 0 < g ∧ b = g * lowB b t ∧ t = sc g (lowT b t) := by
  have := gcdL_pos hb t
  exact ⟨_, by omega, (mul_lowB t).symm, (mul_lowT t).symm⟩
theorem L_add1 {b1 b2 : Int} (h1 : 0 < b1) (h2 : 0 < b2) (t1 t2 : List Int) : L (lowB b1 t1 * b2) (addL (lowB b1 t1) (lowT b1 t1) b2 t2) = L (b1 * b2) (addL b1 t1 b2 t2) := by
  obtain ⟨g, g0, e1, e2⟩ := low_back t1 h1
  have hp := lowB_pos h1 t1
  generalize lowB b1 t1 = c at e1 hp ⊢
  generalize lowT b1 t1 = u at e2 ⊢
  subst e1 e2
  rw [addL_sc1, Int.mul_assoc, L_mul g0 (Int.mul_pos hp h2)]
theorem L_add2 {b1 b2 : Int} (h1 : 0 < b1) (h2 : 0 < b2) (t1 t2 : List Int) : L (b1 * lowB b2 t2) (addL b1 t1 (lowB b2 t2) (lowT b2 t2)) = L (b1 * b2) (addL b1 t1 b2 t2) := by
  rw [Int.mul_comm, addL_comm, L_add1 h2 h1, Int.mul_comm, addL_comm]
theorem L_mul1 {b1 b2 : Int} (h1 : 0 < b1) (h2 : 0 < b2) (t1 t2 : List Int) : L (lowB b1 t1 * b2) (mulL (lowT b1 t1) t2) = L (b1 * b2) (mulL t1 t2) := by
  obtain ⟨g, g0, e1, e2⟩ := low_back t1 h1
  have hp := lowB_pos h1 t1
  generalize lowB b1 t1 = c at e1 hp ⊢
  generalize lowT b1 t1 = u at e2 ⊢
  subst e1 e2
  rw [mulL_sc1, Int.mul_assoc, L_mul g0 (Int.mul_pos hp h2)]
theorem L_mul2 {b1 b2 : Int} (h1 : 0 < b1) (h2 : 0 < b2) (t1 t2 : List Int) : L (b1 * lowB b2 t2) (mulL t1 (lowT b2 t2)) = L (b1 * b2) (mulL t1 t2) := by
  rw [Int.mul_comm, mulL_comm, L_mul1 h2 h1, Int.mul_comm, mulL_comm]
theorem add_assoc' {b1 b2 b3 : Int} (t1 t2 t3 : List Int) : addL (b1 * b2) (addL b1 t1 b2 t2) b3 t3 = addL b1 t1 (b2 * b3) (addL b2 t2 b3 t3) := by
  show (List.range _).map _ = (List.range _).map _
  refine range_ext (by rw [addL_len, addL_len]; omega) fun i hi => ?_
  rw [addL_len] at hi
  rw [addL_at _ _ _ _ (by omega), addL_at _ _ _ _ (by omega)]
  grind
theorem mul_assoc' (t1 t2 t3 : List Int) : mulL (mulL t1 t2) t3 = mulL t1 (mulL t2 t3) := by
  show (List.range _).map _ = (List.range _).map _
  refine range_ext (by rw [mulL_len, mulL_len]; omega) fun i hi => ?_
  rw [mulL_len] at hi
  rw [csum_conv, csum_conv]
  have e1 : conv (fn (mulL t1 t2)) (fn t3) i = conv (conv (fn t1) (fn t2)) (fn t3) i := conv_congr (fun j hj => mulL_at t1 t2 (by omega)) fun j _ => rfl
  have e2 : conv (fn t1) (fn (mulL t2 t3)) i = conv (fn t1) (conv (fn t2) (fn t3)) i := conv_congr (fun j _ => rfl) fun j hj => mulL_at t2 t3 (by omega)
  rw [e1, e2, conv_assoc]
theorem mul_add' {b1 b2 b3 : Int} (t1 t2 t3 : List Int) : addL (b1 * b2) (mulL t1 t2) (b1 * b3) (mulL t1 t3) = sc b1 (mulL t1 (addL b2 t2 b3 t3)) := by
  unfold mulL
  rw [sc_range]
  show (List.range _).map _ = (List.range _).map _
  refine range_ext (by rw [addL_len]; simp only [List.length_map, List.length_range]; omega) fun i hi => ?_
  simp only [List.length_map, List.length_range] at hi
  rw [getD_range, getD_range, if_pos (by omega), if_pos (by omega), csum_conv, csum_conv, csum_conv]
  have e : conv (fn t1) (fn (addL b2 t2 b3 t3)) i = conv (fn t1) (fun j => b3 * fn t2 j + b2 * fn t3 j) i := conv_congr (fun j _ => rfl) fun j hj => by
    show (addL b2 t2 b3 t3).getD j 0 = _
    rw [addL_at _ _ _ _ (by omega), Int.mul_comm b3, Int.mul_comm b2]
    rfl
  have m : ∀ (c : Int) (g : Nat → Int), conv (fn t1) (fun j => c * g j) i = c * conv (fn t1) g i := fun c g => by
    have h := conv_mul 1 c (fn t1) g i
    rw [Int.one_mul] at h
    rw [← h]
    exact conv_congr (fun j _ => (Int.one_mul _).symm) fun j _ => rfl
  rw [e, conv_add (fn t1) (fun j => b3 * fn t2 j) (fun j => b2 * fn t3 j), m, m]
  grind
/-! the three groupings -/
theorem group_add {b1 b2 b3 : Int} (h1 : 0 < b1) (h2 : 0 < b2) (h3 : 0 < b3) (t1 t2 t3 : List Int) :
    L (lowB (b1 * b2) (addL b1 t1 b2 t2) * b3) (addL (lowB (b1 * b2) (addL b1 t1 b2 t2)) (lowT (b1 * b2) (addL b1 t1 b2 t2)) b3 t3) =
      L (b1 * lowB (b2 * b3) (addL b2 t2 b3 t3)) (addL b1 t1 (lowB (b2 * b3) (addL b2 t2 b3 t3)) (lowT (b2 * b3) (addL b2 t2 b3 t3))) := by
  rw [L_add1 (Int.mul_pos h1 h2) h3, L_add2 h1 (Int.mul_pos h2 h3), add_assoc', Int.mul_assoc]
theorem group_mul {b1 b2 b3 : Int} (h1 : 0 < b1) (h2 : 0 < b2) (h3 : 0 < b3) (t1 t2 t3 : List Int) :
    L (lowB (b1 * b2) (mulL t1 t2) * b3) (mulL (lowT (b1 * b2) (mulL t1 t2)) t3) = L (b1 * lowB (b2 * b3) (mulL t2 t3)) (mulL t1 (lowT (b2 * b3) (mulL t2 t3))) := by
  rw [L_mul1 (Int.mul_pos h1 h2) h3, L_mul2 h1 (Int.mul_pos h2 h3), mul_assoc', Int.mul_assoc]
theorem group_both {b1 b2 b3 : Int} (h1 : 0 < b1) (h2 : 0 < b2) (h3 : 0 < b3) (t1 t2 t3 : List Int) :
    L (b1 * lowB (b2 * b3) (addL b2 t2 b3 t3)) (mulL t1 (lowT (b2 * b3) (addL b2 t2 b3 t3))) =
      L (lowB (b1 * b2) (mulL t1 t2) * lowB (b1 * b3) (mulL t1 t3)) (addL (lowB (b1 * b2) (mulL t1 t2)) (lowT (b1 * b2) (mulL t1 t2)) (lowB (b1 * b3) (mulL t1 t3)) (lowT (b1 * b3) (mulL t1 t3))) := by
  have h12 := Int.mul_pos h1 h2
  have h13 := Int.mul_pos h1 h3
  have h23 := Int.mul_pos h2 h3
  rw [L_mul2 h1 h23, L_add1 h12 (lowB_pos h13 _), L_add2 h12 h13, mul_add', show b1 * b2 * (b1 * b3) = b1 * (b1 * (b2 * b3)) by grind, L_mul h1 (Int.mul_pos h1 h23)]
/-! other forms -/
theorem form_add {b1 b2 c e : Int} (h1 : 0 < b1) (h2 : 0 < b2) (hc : 0 < c) (he : 0 < e) (t1 t2 : List Int) : L ((e * b2) * (c * b1)) (addL (e * b2) (sc e t2) (c * b1) (sc c t1)) = L (b1 * b2) (addL b1 t1 b2 t2) := by
  rw [addL_sc1, addL_sc2, Int.mul_assoc, L_mul he (Int.mul_pos h2 (Int.mul_pos hc h1)), show b2 * (c * b1) = c * (b1 * b2) by grind, L_mul hc (Int.mul_pos h1 h2), addL_comm]
theorem form_mul {b1 b2 c e : Int} (h1 : 0 < b1) (h2 : 0 < b2) (hc : 0 < c) (he : 0 < e) (t1 t2 : List Int) : L ((e * b2) * (c * b1)) (mulL (sc e t2) (sc c t1)) = L (b1 * b2) (mulL t1 t2) := by
  rw [mulL_sc1, mulL_sc2, Int.mul_assoc, L_mul he (Int.mul_pos h2 (Int.mul_pos hc h1)), show b2 * (c * b1) = c * (b1 * b2) by grind, L_mul hc (Int.mul_pos h1 h2), mulL_comm]
theorem form_tim {b c e x y : Int} (h1 : 0 < b) (hy : 0 < y) (hc : 0 < c) (he : 0 < e) (t : List Int) : L ((c * b) * (y * e)) (timL (sc c t) (x * e)) = L (b * y) (timL t x) := by
  have : timL (sc c t) (x * e) = sc (c * e) (timL t x) := by
    unfold timL sc
    rw [List.map_map, List.map_map]
    refine List.map_congr_left fun z _ => ?_
    show c * z * (x * e) = c * e * (z * x)
    grind
  rw [this, show c * b * (y * e) = c * e * (b * y) by grind, L_mul (Int.mul_pos hc he) (Int.mul_pos h1 hy)]
end Ft

/-! enumerate over a tuple -/
namespace Ft
open PySem PySem.Spec PyProof.Rows L2
/-- the tuple at a, each item in a new pair with its place -/
def IteT (K : PySem.W.Frag) (a : Addr) : It where
  go := fun i H => ∃ ys : List V, SqT K H a ys ∧ i < ys.length
  yld := fun i H v H' => ∃ T y, v = .ref T ∧ H T = none ∧ H' = upd H T (.tup [.int (i : Nat), y]) ∧ ∀ ys, SqT K H a ys → ys[i]? = some y
  stop := fun i H => ∃ ys : List V, SqT K H a ys ∧ ys.length = i
theorem other_cls {h : Heap} {a b : Addr} {o : Obj} {us : Array Value} (t : h.IsTuple a us) (e : h.get? b = some o) (c : o.cls ≠ .type "tuple") : a ≠ b := by
  rintro rfl
  obtain ⟨o', e', c', _⟩ := t
  rw [e] at e'
  cases e'
  exact c c'
theorem turn_enumT {P : Program} {w : World} {K : PySem.W.Frag} {elts : List Expr} {kk : Nat} {tpos : Pos} (a e j : Addr) :
    Turn P w K (.Tuple elts kk tpos) (IteT K a) [e, j] e (fun i h => (∃ old, IsEnum h e j ((i : Nat) : Int) old) ∧ h.IsTupleIter j a i ∧ e ≠ j) where
  mem := List.mem_cons_self
  obj := fun i h z b hb => by
    obtain ⟨⟨old, ee⟩, ⟨o, eo, _, od⟩, _⟩ := z
    rcases List.mem_cons.mp hb with rfl | hb
    · exact ⟨_, ee, fun v y => nomatch y⟩
    · obtain rfl := List.mem_singleton.mp hb
      exact ⟨o, eo, fun v y => by rw [od] at y; cases y⟩
  keep := fun i h h' z k => ⟨z.1.imp fun old y => k e List.mem_cons_self _ y, z.2.1.at fun o y => k j (List.mem_cons_of_mem _ List.mem_cons_self) o y, z.2.2⟩
  item := by
    intro X hP hw hK hc i pins s σ H E I hf z g
    subst hP hw hK
    obtain ⟨⟨old, ee⟩, ej, ne⟩ := z
    obtain ⟨ys, sq, lt⟩ := g
    obtain ⟨us, rv, tp, _⟩ := I.tuple sq
    have tp' : s.heap.IsTuple a us.toArray := tp
    have lu : i < us.toArray.size := by have := rv.length; simp; omega
    have ae : a ≠ e := other_cls tp' ee (show Value.type "enumerate" ≠ Value.type "tuple" by decide +kernel)
    have aj : a ≠ j := by obtain ⟨o, eo, oc, _⟩ := id ej; exact other_cls tp' eo (by rw [oc]; decide +kernel)
    have el := Heap.lt_size ee
    have jl : j < s.heap.objs.size := by obtain ⟨o, eo, _⟩ := id ej; exact Heap.lt_size eo
    have hd : X.A.in1.handled = none := I.ok.hd hc
    refine wpAny_pyNext_enum_itemD (Draws.tuple hd j a aj us.toArray) ee ⟨ej, tp'⟩ lu ne (fun y => by
      rcases List.mem_cons.mp y with y | y
      · exact ne y
      · exact ae (List.mem_singleton.mp y).symm) fun u h' tk hu out z' hT _ kp => ?_
    refine ⟨_, rfl, wpAny_letOwnedTupleGo_enum (s := { s with heap := h', toks := tk + 1 }) out fun h2 e2 sb => ?_⟩
    have tT : h2.get? s.heap.objs.size = some { cls := .type "tuple", data := .seq #[.int i tk, u] } := (sb.2 _ (Nat.ne_of_gt el)).trans hT
    have hy : ys[i]? = some ys[i] := List.getElem?_eq_getElem lt
    obtain ⟨u', hu', ru⟩ := rv.get hy
    have uu : us[i]? = some u := by simpa using hu
    obtain rfl : u' = u := Option.some.inj (hu'.symm.trans uu)
    have nw : ObjOk X.prog X.w (upd H s.heap.objs.size (.tup [.int (i : Nat), ys[i]])) h2 s.heap.objs.size (.tup [.int (i : Nat), ys[i]]) :=
      ⟨(by show (2 : Nat) ≤ sizeLine; decide), [.int i tk, u'], .cons ⟨_, rfl⟩ (.cons ru .nil), ⟨_, tT, rfl, _, rfl⟩⟩
    have I2 : Inv X pins σ (upd H s.heap.objs.size (.tup [.int (i : Nat), ys[i]])) { s with heap := h2, toks := tk + 1 } :=
      I.turnedNew (ch := [e, j]) (fun b o nb y => (sb.2 b fun y' => nb (by rw [y']; exact List.mem_cons_self)).trans (kp b o (fun y' => nb (by rw [y']; exact List.mem_cons_self)) (fun y' => nb (by rw [y']; exact List.mem_cons_of_mem _ List.mem_cons_self)) y)) hf (Nat.le_refl _) nw
    refine ⟨.ref s.heap.objs.size, _, I2, rfl, ⟨_, _, rfl, I.hok.fresh (Nat.le_refl _), rfl, fun zs hz => by rw [I.tuple_inj hz sq]; exact hy⟩, ⟨⟨u', ?_⟩, z'.1.at fun o y => (sb.2 j ne.symm).trans y, ne⟩, fun b hb => ?_⟩
    · rw [show ((i + 1 : Nat) : Int) = (i : Int) + 1 by omega]
      exact e2
    · have bl : b < s.heap.objs.size := by
        rcases List.mem_cons.mp hb with rfl | hb'
        · exact el
        · rw [List.mem_singleton.mp hb']; exact jl
      rw [upd_ne (Nat.ne_of_lt bl)]
      exact (hf b hb).1
  done := by
    intro X hP hw hK hc i pins s σ H E I hf z g
    subst hP hw hK
    obtain ⟨⟨old, ee⟩, ej, ne⟩ := z
    obtain ⟨ys, sq, ge⟩ := g
    obtain ⟨us, rv, tp, _⟩ := I.tuple sq
    have lu : us.toArray.size = i := by have := rv.length; simp; omega
    subst lu
    have tp' : s.heap.IsTuple a us.toArray := tp
    have aj : a ≠ j := by obtain ⟨o, eo, oc, _⟩ := id ej; exact other_cls tp' eo (by rw [oc]; decide +kernel)
    have hd : X.A.in1.handled = none := I.ok.hd hc
    obtain ⟨f0, f1, f2, f3, f4, f5⟩ := hf j (List.mem_cons_of_mem _ List.mem_cons_self)
    exact wpAny_pyNext_enum_endD (Draws.tuple hd j a aj us.toArray) ee ⟨ej, tp'⟩ fun h' eb => ⟨rfl, I.turned (t' := s.toks) (fun b o nb y => eb b o nb y) f0 f1 f3 f4 f5⟩
  self := fun A i s Q E z h => wpAny_pyIter_enum z.1.choose_spec h
theorem meets_enum1 {v : Value} {o : Obj} {P1 : Heap → Prop} (B : Begins v o P1) :
    Meets (Builtin.«enumerate.__new__» ⟨[.type "enumerate", v], []⟩) (fun _ R s => P1 s.heap ∧
      R (.ok (.ret (.ref (s.heap.push o).objs.size))) { s with heap := (s.heap.push o).push { cls := .type "enumerate", data := .fields #[.none, .bool false, .ref s.heap.objs.size, rawInt 0, .none, .none] } }) :=
  .of_wp fun pr w A R s z => by
    obtain ⟨hp, g, d, tk, os⟩ := s
    obtain ⟨z1, z2⟩ := z
    have sube := sub_enumerate
    have begin_ : ∀ {A' : Around} {E : Value → Shared → Prop} {Q : Value → Shared → Prop}, Q (.ref hp.objs.size) ⟨hp.push o, g, d, tk, os⟩ → wpAny (model pr w) A' (pyIter v) Q E ⟨hp, g, d, tk, os⟩ :=
      fun y => B.iter pr w _ _ ⟨hp, g, d, tk, os⟩ _ z1 y
    wp_walk using begin_
    refine wpAny_stack_any fun st => wpAny_pure ?_
    split
    · rename_i c _ _ _ _ _
      cases (c == Value.type "enumerate") <;> (wp_walk using begin_; exact ⟨_, rfl, z2⟩)
    · wp_walk using begin_; exact ⟨_, rfl, z2⟩
section
variable {pr : Program} {w : World} {A : Around} {E : Value → Shared → Prop} {s : Shared}
theorem enum1_begins {v : Value} {o : Obj} {P1 : Heap → Prop} {Q : Value → Shared → Prop} (B : Begins v o P1) (z : P1 s.heap)
    (q : ∀ h', IsEnum h' (s.heap.objs.size + 1) s.heap.objs.size 0 .none → h'.get? s.heap.objs.size = some o → (∀ b o', s.heap.get? b = some o' → h'.get? b = some o') → Q (.ref (s.heap.objs.size + 1)) { s with heap := h' }) :
    wpAny (model pr w) A (call (.type "enumerate") [v]) Q E s := by
  have sz : (s.heap.push o).objs.size = s.heap.objs.size + 1 := Heap.size_push ..
  have ie := Heap.get?_push_size (s.heap.push o) (o := { cls := .type "enumerate", data := .fields #[.none, .bool false, .ref s.heap.objs.size, rawInt 0, .none, .none] }) rfl
  rw [sz] at ie
  refine callType_new F.called_enumerate (by decide) (F.typeCall_enumerate_1 _) (F.newCall_enumerate_1 _) (fun ob => F.args_object_init_2 ob _) F.entry_enumerate_new (meets_enum1 B) ⟨z, ?_⟩
  rw [sz]
  exact ⟨⟨_, ie, rfl⟩, q _ ie (Heap.get?_push_of_some _ (Heap.get?_push_size _ B.free)) fun b o' y => Heap.get?_push_of_some _ (Heap.get?_push_of_some _ y)⟩
end
def iEnumT (K : PySem.W.Frag) (ta : TA) : TI := fun σ H R => ta σ H fun vs H1 => ∃ a ys, vs = [.ref a] ∧ SqT K H1 a ys ∧ R (IteT K a) H1
/-- enumerate(t), t a tuple -/
theorem pi_enumT {X : Cx} {e : Expr} {ta : TA} {p pos tpos : Pos} {elts : List Expr} {kk : Nat} (hg : Gl X "enumerate") (hm : X.mg "enumerate" = none) (ha : PA X [e] ta) (hs : starEach [e] X.env = [(false, eval e X.env)] := by rfl) :
    PI X (.Tuple elts kk tpos) (.Call (.Name "enumerate" p) [e] [] pos) (iEnumT X.K ta) := by
  refine ⟨fun pins s σ H R I z => Call_ (ld_blt I hg hm PyProof.Rows.boot_enumerate (PyProof.Rows.callWith_type1 (thn (ha.run pos pins s σ H _ I z) fun us s1 ⟨vs, H1, I1, r1, q1⟩ => ?_) hs rfl))⟩
  obtain ⟨a, ys, rfl, sq, q⟩ := q1
  obtain ⟨u, rfl, ru⟩ := vals1 r1
  obtain rfl : u = Value.ref a := ru
  obtain ⟨its, rv, tp, _⟩ := I1.tuple sq
  refine enum1_begins (begins_tuple a its.toArray) (show s1.heap.IsTuple a its.toArray from tp) fun h' ie ij kp => wpAny_pyIter_enum ie ?_
  have I2 : Inv X pins σ H1 { s1 with heap := h' } := I1.kept (t' := s1.toks) kp
  refine ⟨s1.heap.objs.size + 1, [s1.heap.objs.size + 1, s1.heap.objs.size], _, _, H1, rfl, I2, turn_enumT a (s1.heap.objs.size + 1) s1.heap.objs.size, ⟨⟨.none, ie⟩, ⟨_, ij, rfl, rfl⟩, Nat.succ_ne_self _⟩, fun b hb => ?_, q⟩
  have le : s1.heap.objs.size ≤ b := by
    rcases List.mem_cons.mp hb with rfl | hb'
    · exact Nat.le_succ _
    · rw [List.mem_singleton.mp hb']; exact Nat.le_refl _
  exact I1.fpOk le (I1.hok.fresh le)
theorem walk_enumT {K : PySem.W.Frag} {a : Addr} {xs : List V} : Walk (IteT K a) xs.length (fun H => SqT K H a xs) (YPair (fun i => some (.int (i : Nat))) (fun i => xs[i]?)) :=
  ⟨fun _ _ lt q => ⟨xs, q, lt⟩, fun _ q => ⟨xs, q, rfl⟩, fun i _ _ _ _ q y => by
    obtain ⟨T, x, e1, e2, e3, e4⟩ := y
    exact ⟨T, .int (i : Nat), x, e1, e2, e3, rfl, e4 xs q⟩⟩
end Ft

/-! zip of a tuple and a list -/
namespace Ft
open PySem PySem.Spec PyProof.Rows L2
def ItzM (K : PySem.W.Frag) (a b : Addr) : It where
  go := fun i H => ∃ xs ys : List V, SqT K H a xs ∧ SqL K H b ys ∧ i < xs.length ∧ i < ys.length
  yld := fun i H v H' => ∃ T x y, v = .ref T ∧ H T = none ∧ H' = upd H T (.tup [x, y]) ∧ (∀ xs, SqT K H a xs → xs[i]? = some x) ∧ ∀ ys, SqL K H b ys → ys[i]? = some y
  stop := fun i H => ∃ xs ys : List V, SqT K H a xs ∧ SqL K H b ys ∧ i = min xs.length ys.length
theorem other_clsL {h : Heap} {a b : Addr} {o : Obj} {us : Array Value} (t : h.IsList a us) (e : h.get? b = some o) (c : o.cls ≠ .type "list") : a ≠ b := by
  rintro rfl
  obtain ⟨o', e', c', _⟩ := t
  rw [e] at e'
  cases e'
  exact c c'
theorem in5 {z TI TO i1 i2 c : Addr} (h : c ∈ [z, TI, TO, i1, i2]) : c = z ∨ c = TI ∨ c = TO ∨ c = i1 ∨ c = i2 := by simpa using h
theorem turn_zipM {P : Program} {w : World} {K : PySem.W.Frag} {elts : List Expr} {kk : Nat} {tpos : Pos} {a b z TI TO i1 i2 : Addr} (S : ZipSep2 z TI TO i1 i2 [i1, a] [i2, b]) (n12 : i1 ≠ i2) :
    Turn P w K (.Tuple elts kk tpos) (ItzM K a b) [z, TI, TO, i1, i2] z (fun i h => IsZip h z TI TO .none ∧ IsTupOf2 h TI (.ref i1) (.ref i2) ∧ (∃ x y, IsTupOf2 h TO x y) ∧ h.IsTupleIter i1 a i ∧ h.IsListIter i2 b i) where
  mem := List.mem_cons_self
  obj := fun i h st c hc => by
    obtain ⟨ez, eI, ⟨x, y, eO⟩, ⟨o1, e1, _, d1⟩, ⟨o2, e2, _, d2⟩⟩ := st
    rcases in5 hc with rfl | rfl | rfl | rfl | rfl
    · exact ⟨_, ez, fun v q => nomatch q⟩
    · exact ⟨_, eI, fun v q => nomatch q⟩
    · exact ⟨_, eO, fun v q => nomatch q⟩
    · exact ⟨o1, e1, fun v q => by rw [d1] at q; cases q⟩
    · exact ⟨o2, e2, fun v q => by rw [d2] at q; cases q⟩
  keep := fun i h h' st k => by
    obtain ⟨ez, eI, ⟨x, y, eO⟩, j1, j2⟩ := st
    exact ⟨k z (by simp) _ ez, k TI (by simp) _ eI, ⟨x, y, k TO (by simp) _ eO⟩, j1.at fun o q => k i1 (by simp) o q, j2.at fun o q => k i2 (by simp) o q⟩
  item := by
    intro X hP hw hK hc i pins s σ H E I hf st g
    subst hP hw hK
    obtain ⟨ez, eI, ⟨x0, y0, eO⟩, j1, j2⟩ := st
    obtain ⟨xs, ys, qx, qy, l1, l2⟩ := g
    obtain ⟨us, rv, tp, _⟩ := I.tuple qx
    obtain ⟨us2, rv2, tp2, _⟩ := I.list qy
    have tp' : s.heap.IsTuple a us.toArray := tp
    have tl' : s.heap.IsList b us2.toArray := tp2.isList
    have n1 : a ≠ i1 := by obtain ⟨o, eo, oc, _⟩ := id j1; exact other_cls tp' eo (by rw [oc]; decide +kernel)
    have n2 : b ≠ i2 := by obtain ⟨o, eo, oc, _⟩ := id j2; exact other_clsL tl' eo (by rw [oc]; decide +kernel)
    have hd : X.A.in1.handled = none := I.ok.hd hc
    have zl := Heap.lt_size ez
    refine wpAny_pyNext_zipD2_item S (Draws.tuple hd i1 a n1 us.toArray) (Draws.list hd i2 b n2 us2.toArray) ez eI eO ⟨j1, tp'⟩ ⟨j2, tl'⟩ (by have := rv.length; simp; omega) (by have := rv2.length; simp; omega) fun u1 u2 h' tk hu1 hu2 ez' eO' z1 z2 hT _ kp => ?_
    refine ⟨_, rfl, wpAny_letOwnedTupleGo_zip (s := { s with heap := h', toks := tk }) ez' fun h2 ez2 sb => ?_⟩
    have tT : h2.get? s.heap.objs.size = some { cls := .type "tuple", data := .seq #[u1, u2] } := (sb.2 _ (Nat.ne_of_gt zl)).trans hT
    have hx : xs[i]? = some xs[i] := List.getElem?_eq_getElem l1
    have hy : ys[i]? = some ys[i] := List.getElem?_eq_getElem l2
    obtain ⟨w1, hw1, r1⟩ := rv.get hx
    obtain ⟨w2, hw2, r2⟩ := rv2.get hy
    obtain rfl : w1 = u1 := Option.some.inj (hw1.symm.trans (by simpa using hu1))
    obtain rfl : w2 = u2 := Option.some.inj (hw2.symm.trans (by simpa using hu2))
    have nw : ObjOk X.prog X.w (upd H s.heap.objs.size (.tup [xs[i], ys[i]])) h2 s.heap.objs.size (.tup [xs[i], ys[i]]) :=
      ⟨(by show (2 : Nat) ≤ sizeLine; decide), [w1, w2], .cons r1 (.cons r2 .nil), ⟨_, tT, rfl, _, rfl⟩⟩
    have I2 : Inv X pins σ (upd H s.heap.objs.size (.tup [xs[i], ys[i]])) { s with heap := h2, toks := tk } :=
      I.turnedNew (ch := [z, TI, TO, i1, i2]) (fun c o nc y => (sb.2 c fun e => nc (by simp [e])).trans (kp c o (fun e => nc (by simp [e])) (fun e => nc (by simp [e])) (fun e => nc (by simp [e])) (fun e => nc (by simp [e])) y)) hf (Nat.le_refl _) nw
    have eI2 : IsTupOf2 h2 TI (.ref i1) (.ref i2) := (sb.2 _ S.TIz).trans (kp _ _ S.TIz S.TITO S.TIi1 S.TIi2 eI)
    refine ⟨.ref s.heap.objs.size, _, I2, rfl, ⟨_, _, _, rfl, I.hok.fresh (Nat.le_refl _), rfl, fun zs hz => by rw [I.tuple_inj hz qx]; exact hx, fun zs hz => by rw [I.list_inj hz qy]; exact hy⟩,
      ⟨ez2, eI2, ⟨_, _, (sb.2 _ S.TOz).trans eO'⟩, z1.1.at fun o y => (sb.2 _ S.zi1.symm).trans y, z2.1.at fun o y => (sb.2 _ S.zi2.symm).trans y⟩, fun c hcm => ?_⟩
    have lt : c < s.heap.objs.size := by
      rcases in5 hcm with rfl | rfl | rfl | rfl | rfl
      · exact zl
      · exact Heap.lt_size eI
      · exact Heap.lt_size eO
      · obtain ⟨_, e1, _⟩ := j1; exact Heap.lt_size e1
      · obtain ⟨_, e2, _⟩ := j2; exact Heap.lt_size e2
    rw [upd_ne (Nat.ne_of_lt lt)]
    exact (hf c hcm).1
  done := by
    intro X hP hw hK hc i pins s σ H E I hf st g
    subst hP hw hK
    obtain ⟨ez, eI, ⟨x0, y0, eO⟩, j1, j2⟩ := st
    obtain ⟨xs, ys, qx, qy, l⟩ := g
    obtain ⟨us, rv, tp, _⟩ := I.tuple qx
    obtain ⟨us2, rv2, tp2, _⟩ := I.list qy
    have tp' : s.heap.IsTuple a us.toArray := tp
    have tl' : s.heap.IsList b us2.toArray := tp2.isList
    have n1 : a ≠ i1 := by obtain ⟨o, eo, oc, _⟩ := id j1; exact other_cls tp' eo (by rw [oc]; decide +kernel)
    have n2 : b ≠ i2 := by obtain ⟨o, eo, oc, _⟩ := id j2; exact other_clsL tl' eo (by rw [oc]; decide +kernel)
    have hd : X.A.in1.handled = none := I.ok.hd hc
    have r1 := rv.length
    have r2 := rv2.length
    exact wpAny_pyNext_zipD2_end S (Draws.tuple hd i1 a n1 us.toArray) (Draws.list hd i2 b n2 us2.toArray) ez eI eO ⟨j1, tp'⟩ ⟨j2, tl'⟩ (by simp; omega) (by simp; omega) (by simp; omega) fun h' tk kp => ⟨rfl,
      I.turnedL (t' := tk) (ch := [z, TI, TO, i1, i2]) (fun c o nc y => kp c o (fun e => nc (by simp [e])) (fun e => nc (by simp [e])) (fun e => nc (by simp [e])) (fun e => nc (by simp [e])) y) hf⟩
  self := fun A i s Q E st h => wpAny_pyIter_zip st.1 h
def iZipM (K : PySem.W.Frag) (ta : TA) : TI := fun σ H R => ta σ H fun vs H1 => ∃ a b xs ys, vs = [.ref a, .ref b] ∧ SqT K H1 a xs ∧ SqL K H1 b ys ∧ R (ItzM K a b) H1
/-- zip(t, l), t a tuple, l a list -/
theorem pi_zipM {X : Cx} {e e2 : Expr} {ta : TA} {p pos tpos : Pos} {elts : List Expr} {kk : Nat} (hg : Gl X "zip") (hm : X.mg "zip" = none) (ha : PA X [e, e2] ta)
    (hs : starEach [e, e2] X.env = (false, eval e X.env) :: starEach [e2] X.env := by rfl) (hpl : (backTo pos (starEach [e2] X.env)).any (·.1) = false := by rfl) :
    PI X (.Tuple elts kk tpos) (.Call (.Name "zip" p) [e, e2] [] pos) (iZipM X.K ta) := by
  refine ⟨fun pins s σ H R I z => Call_ (ld_blt I hg hm PyProof.Rows.boot_zip (PyProof.Rows.callWith_type1 (thn (ha.run pos pins s σ H _ I z) fun us s1 ⟨vs, H1, I1, r1, q1⟩ => ?_) hs hpl))⟩
  obtain ⟨a, b, xs, ys, rfl, qx, qy, q⟩ := q1
  obtain ⟨u, u', rfl, ru, ru'⟩ := vals2 r1
  obtain rfl : u = Value.ref a := ru
  obtain rfl : u' = Value.ref b := ru'
  obtain ⟨its, rv, tp, _⟩ := I1.tuple qx
  obtain ⟨its2, rv2, tp2, _⟩ := I1.list qy
  have al : a < s1.heap.objs.size := by obtain ⟨o, eo, _⟩ := id tp; exact Heap.lt_size eo
  refine zip_begins2 (begins_tuple a its.toArray) (begins_list b its2.toArray) (show s1.heap.IsTuple a its.toArray from tp) tp2.isList fun h' ez eI eO j1 j2 _ kp => wpAny_pyIter_zip ez ?_
  have I2 : Inv X pins σ H1 { s1 with heap := h' } := I1.kept (t' := s1.toks) kp
  refine ⟨s1.heap.objs.size + 4, [s1.heap.objs.size + 4, s1.heap.objs.size + 2, s1.heap.objs.size + 3, s1.heap.objs.size, s1.heap.objs.size + 1], _, _, H1, rfl, I2,
    turn_zipM (zip_sep2 (N := s1.heap.objs.size) (fp1 := [a]) (fp2 := [b]) (fun c y => by rw [List.mem_singleton.mp y]; exact al) (fun c y => by rw [List.mem_singleton.mp y]; exact tp2.lt)) (Nat.ne_of_lt (Nat.lt_succ_self _)), ⟨ez, eI, ⟨_, _, eO⟩, ⟨_, j1, rfl, rfl⟩, ⟨_, j2, rfl, rfl⟩⟩, fun c hcm => ?_, q⟩
  have le : s1.heap.objs.size ≤ c := by
    rcases in5 hcm with rfl | rfl | rfl | rfl | rfl
    · exact Nat.le_add_right _ _
    · exact Nat.le_add_right _ _
    · exact Nat.le_add_right _ _
    · exact Nat.le_refl _
    · exact Nat.le_add_right _ _
  exact I1.fpOk le (I1.hok.fresh le)
theorem walk_zipM {K : PySem.W.Frag} {a b : Addr} {xs ys : List V} {n : Nat} (hn : n = min xs.length ys.length) : Walk (ItzM K a b) n (fun H => SqT K H a xs ∧ SqL K H b ys) (YPair (fun i => xs[i]?) (fun i => ys[i]?)) :=
  ⟨fun _ _ lt q => ⟨xs, ys, q.1, q.2, by omega, by omega⟩, fun _ q => ⟨xs, ys, q.1, q.2, hn⟩, fun i _ _ _ _ q y => by
    obtain ⟨T, x, u, e1, e2, e3, e4, e5⟩ := y
    exact ⟨T, x, u, e1, e2, e3, e4 xs q.1, e5 ys q.2⟩⟩
end Ft

/-! t * 0 and t * 1, t a tuple -/
namespace Ft
open PySem PySem.Spec PyProof.Rows L2
theorem mul_tup1 (l : Addr) (us : Array Value) (n : Nat) (dd : Option Addr) (sl : Array (Option Value)) (u : Tok) :
    Meets (Builtin.«tuple.__mul__» ⟨[.ref l, .int 1 u], []⟩) (fun _ R s => s.heap.get? l = some { cls := .type "tuple", dict := dd, data := .seq us n, slots := sl } ∧ R (.ok (.ret (.ref l))) s) :=
  .of_wp fun pr w A R s z => by
    obtain ⟨hp, g, d, tk, os⟩ := s
    obtain ⟨hl, q⟩ := z
    have ix := AutoSeq1.idx_int
    have c1 : (us.isEmpty || (1 : Int) == 1) = true := by simp
    wp_walk using wpAny_loadPart' hl
    exact ⟨_, rfl, q⟩
theorem mul_tup0 (l : Addr) (us : Array Value) (n : Nat) (dd : Option Addr) (sl : Array (Option Value)) (u : Tok) (ne : us.isEmpty = false) :
    Meets (Builtin.«tuple.__mul__» ⟨[.ref l, .int 0 u], []⟩) (fun _ R s => s.heap.get? l = some { cls := .type "tuple", dict := dd, data := .seq us n, slots := sl } ∧ R (.ok (.ret (.ref s.heap.objs.size))) { s with heap := s.heap.push { cls := .type "tuple", data := .seq #[] }, toks := s.toks }) :=
  .of_wp fun pr w A R s z => by
    obtain ⟨hp, g, d, tk, os⟩ := s
    obtain ⟨hl, q⟩ := z
    have ix := AutoSeq1.idx_int
    have c1 : (us.isEmpty || (0 : Int) == 1) = false := by rw [ne]; rfl
    wp_walk using wpAny_loadPart' hl
    exact ⟨_, rfl, q⟩
def rRepZ (K : PySem.W.Frag) : R2 := fun x y H Q => ∃ (l : Addr) (k : Nat) (xs : List V), x = .ref l ∧ y = .int (k : Int) ∧ SqT K H l xs ∧ xs ≠ [] ∧ k ≤ 1000 ∧ xs.length ≤ 1000 ∧
  (k = 0 → ∀ p, H p = none → Q (.ref p) (upd H p (.tup []))) ∧ (k = 1 → Q (.ref l) H) ∧ (2 ≤ k → ∀ p, H p = none → Q (.ref p) (upd H p (.tup (List.replicate k xs).flatten)))
/-- t * k, t a tuple that is not empty, k from 0 on -/
theorem op_repZ {X : Cx} : OpR X (binaryOp .Mult) (rRepZ X.K) := by
  intro pins s σ H x y v u Q I rx ry z
  obtain ⟨l, k, xs, rfl, rfl, sq, ne, le, lx, q0, q1, q2⟩ := z
  rcases Nat.lt_or_ge k 2 with k2 | k2
  · obtain rfl : v = Value.ref l := rx
    obtain ⟨t, rfl⟩ := ry
    obtain ⟨us, rv, ⟨⟨cls, dd, data, sl⟩, eo, ec, n, ed⟩, _⟩ := I.tuple sq
    simp only at ec ed
    subst ec ed
    have nu : us.toArray.isEmpty = false := by
      cases us with
      | nil => exact absurd (List.eq_nil_of_length_eq_zero rv.length) ne
      | cons a r => rfl
    match k, k2 with
    | 0, _ =>
      refine wpAny_binaryOp_repeat_ref (T := "tuple") (U := "int") (by decide) ⟨_, eo, rfl⟩ (fun s' => typeIs_int s' _ t) noFill_tuple_mul F.fills_int_mul F.slot_int_rmul repeat_tuple F.slot_int_index.lookup
        (call_meets F.slot_int_rmul (typeIs_int s _ t) F.entry_int_rmul (F.args_int_rmul_2 _ _) (int_rmul_tuple _ t l us.toArray n dd sl) ⟨eo, rfl, ⟨_, eo, rfl⟩,
          call_meets F.slot_tuple_mul ⟨_, eo, rfl⟩ F.entry_tuple_mul (F.args_tuple_mul_2 _ _) (mul_tup0 l us.toArray n dd sl t nu) ⟨eo, ?_⟩⟩)
      exact ⟨.ref s.heap.objs.size, _, I.laid (t' := s.toks) (o := .tup []) (fun b ob y => Heap.get?_push_of_some _ y) (Nat.le_refl _) ⟨Nat.zero_le _, [], .nil, IsTup.new _ _⟩, rfl, q0 rfl _ (I.hok.fresh (Nat.le_refl _))⟩
    | 1, _ =>
      refine wpAny_binaryOp_repeat_ref (T := "tuple") (U := "int") (by decide) ⟨_, eo, rfl⟩ (fun s' => typeIs_int s' _ t) noFill_tuple_mul F.fills_int_mul F.slot_int_rmul repeat_tuple F.slot_int_index.lookup
        (call_meets F.slot_int_rmul (typeIs_int s _ t) F.entry_int_rmul (F.args_int_rmul_2 _ _) (int_rmul_tuple _ t l us.toArray n dd sl) ⟨eo, rfl, ⟨_, eo, rfl⟩,
          call_meets F.slot_tuple_mul ⟨_, eo, rfl⟩ F.entry_tuple_mul (F.args_tuple_mul_2 _ _) (mul_tup1 l us.toArray n dd sl t) ⟨eo, ?_⟩⟩)
      exact ⟨.ref l, H, I, rfl, q1 rfl⟩
  · refine op_repT pins s σ H _ _ v u Q I rx ry ⟨l, (k : Int), xs, rfl, rfl, sq, ne, by omega, by omega, lx, ?_⟩
    rw [Int.toNat_natCast]
    exact q2 k2
end Ft

set_option exponentiation.threshold 9000
namespace Ft
open PySem L2
theorem fn_rg (M : Nat) (f : Nat → Int) : Eqm M (fn (rg M f)) f := fun n hn => by
  unfold fn rg
  rw [getD_range, if_pos hn]
theorem mulL_rg (M : Nat) (f g : Nat → Int) : mulL (rg M f) (rg M g) = rg M (conv f g) := by
  unfold mulL
  refine range_ext (by rw [rg_len, rg_len]; omega) fun i hi => ?_
  rw [rg_len, rg_len] at hi
  rw [csum_conv]
  exact ((fn_rg M f).conv (fn_rg M g)) i (by omega)
theorem rg_congr {M : Nat} {f g : Nat → Int} (h : Eqm M f g) : rg M f = rg M g := range_ext rfl h
theorem low_sc {b : Int} {f : Nat → Int} {M : Nat} : ∃ z, lowT b (rg M f) = rg M z := ⟨_, low_rg b M f⟩
/-- of numbers below 2 ^ 2000 -/
def B2 (b : Int) (ts : List Int) : Prop := b.natAbs < 2 ^ 2000 ∧ ∀ x ∈ ts, x.natAbs < 2 ^ 2000
theorem B2.low {b : Int} {ts : List Int} (h : B2 b ts) : B2 (lowB b ts) (lowT b ts) := by
  refine ⟨Nat.lt_of_le_of_lt (Int.natAbs_ediv_le_natAbs _ _) h.1, fun x hx => ?_⟩
  unfold lowT at hx
  obtain ⟨t, ht, rfl⟩ := List.mem_map.mp hx
  exact Nat.lt_of_le_of_lt (Int.natAbs_ediv_le_natAbs _ _) (h.2 t ht)
theorem B2.of {b : Int} {M : Nat} {f : Nat → Int} (h : b.natAbs < 2 ^ 2000) (h2 : ∀ n, n < M → (f n).natAbs < 2 ^ 2000) : B2 b (rg M f) := ⟨h, fun x hx => by
  obtain ⟨n, hn, rfl⟩ := List.mem_map.mp hx
  exact h2 n (List.mem_range.mp hn)⟩
def sp_lpow : Sp := fun vs H Q _ => ∃ (v : V) (b : Int) (M : Nat) (f : Nat → Int) (k : Nat), vs = [v, .int (k : Int)] ∧ Bg H v b (rg M f) ∧ 1 ≤ b ∧ 1 ≤ M ∧ M ≤ 120 ∧ k ≤ 24 ∧ (∀ i, i ≤ k + 1 → B2 (b ^ i) (rg M (np f i))) ∧
  ∀ H' r, Same H H' → Bg H' r (lowB (b ^ k) (rg M (np f k))) (lowT (b ^ k) (rg M (np f k))) → Q r H'
section
variable {P : Program} {w : World} {K : PySem.W.Frag} {mg : Str → Option Value} {base : Heap}
theorem ok_lpow (D : Df K mg "_law_power" s__law_power ["_law_one", "_law_k"]) (B : Bi mg) (c__law_multiplied : Cal P w K mg base 2 "_law_multiplied" sp_lmulE) : Cal P w K mg base 3 "_law_power" sp_lpow := by
  obtain ⟨f, fd, F, m, b⟩ := D.ex
  have sc := sc__law_power
  refine ⟨f, fd, _, F.ok sc (fun _ _ _ _ ⟨_, _, _, _, _, e, _⟩ => by rw [e]; rfl) (fun cdv A outer s H vs Q E hr h => ?_), m, F.kp, b⟩
  obtain ⟨v, b, M, f, k, rfl, hv, b1, M1, M2, k24, bB, q⟩ := h
  refine ⟨_, (pss_cons (ps_set (i := 2) sc.nd rfl (Or.inl rfl) (pe_tup (pa_cons pe_int (pa_cons (pe_op op_catA (pe_tup (pa_cons pe_int pa_nil)) (pe_op op_repZ (pe_tup (pa_cons pe_int pa_nil)) (pe_op op_sub (pe_callB call_len_seq (by rfl) B.len_ (by decide +kernel) (pa_cons (pe_ix (show IxR _ (rIx K) from ix_seq) (pv 0) pe_int (fun _ _ => rfl)) pa_nil)) pe_int))) pa_nil))))
      (pss_cons (ps_for PassesOwn.never rfl (pi_range1 rfl B.range (pa_cons (pv 1) pa_nil)) (pg_name (i := 3) sc.nd rfl (Or.inl rfl))
      (pss_one (ps_set (i := 2) sc.nd rfl (Or.inl rfl) (pe_c c__law_multiplied hr (by decide) (by rfl) (pa_cons (pv 2) (pa_cons (pv 0) pa_nil))))))
      (pss_one (ps_ret (pv 2))))), ?_⟩
  obtain ⟨p, r, rfl, hp, hrt⟩ := id hv
  have a1 : ∀ {a c : V}, atI [a, c] 1 = some c := fun {a c} => atI_nat (j := 1) rfl
  have lr : ((rg M f).map V.int).length = M := rgV_len M f
  have main : ∀ (H1 : Hp) (R T : Addr), Same H H1 → H1 R = some (.tup ((rg M oneF).map V.int)) → H1 T = some (.tup [V.int 1, V.ref R]) → (tSeq (tFor (iRng1 (tCons (tVar 1) tNil)) (gName 3) (tAsg (tCall sp_lmulE [] E0 (tCons (tVar 2) (tCons (tVar 0) tNil))) (gName 2))) (tRet (tVar 2))) { nx := fun _ H' => Q .non H', rt := Q } [some (.ref p), some (.int (k : Int)), some (.ref T), none] H1 := fun H1 R T s1 hR hT => by
    refine ⟨_, rfl, _, rfl, by omega, by omega, for_range (lo := 0) (n := ((k : Int)).toNat) (fun i σ H' => Same H H' ∧ ∃ (u : V) (o : Option V), σ = [some (.ref p), some (.int (k : Int)), some u, o] ∧ Bg H' u (lowB (b ^ i) (rg M (np f i))) (lowT (b ^ i) (rg M (np f i)))) ⟨s1, .ref T, none, rfl, T, R, rfl, ?_, ?_⟩ ?_ ?_⟩
    · rw [Int.pow_zero, (low_one _).1]; exact hT
    · rw [Int.pow_zero, (low_one _).2]; exact hR
    · rintro i σ H2 hi ⟨s2, u, o, rfl, hu⟩
      rw [Int.toNat_natCast] at hi
      have bp : 0 < b ^ i := Int.pow_pos (by omega)
      have B0 := (bB i (by omega)).low
      have B1 := bB 1 (by omega)
      rw [Int.pow_one, np_one] at B1
      refine ⟨_, rfl, _, rfl, u, .ref p, _, _, b, _, rfl, hu, hv.same s2, ⟨by have := lowB_pos bp (rg M (np f i)); omega, ?_, ?_⟩, ⟨b1, by rw [rg_len]; exact M1, by rw [rg_len]; omega⟩, B0.1, B1.1, B0.2, B1.2, ?_, fun H3 u3 s3 h3 => ?_⟩
      · rw [low_rg, rg_len]; exact M1
      · rw [low_rg, rg_len]; omega
      · rw [low_rg, rg_len, rg_len]
      · have e := L_mul1 bp (by omega : 0 < b) (rg M (np f i)) (rg M f)
        have e1 := congrArg Prod.fst e
        have e2 := congrArg Prod.snd e
        dsimp only [L] at e1 e2
        rw [e1, e2, mulL_rg, ← Int.pow_succ] at h3
        exact ⟨s2.trans s3, u3, _, rfl, h3⟩
    · rintro σ H2 ⟨s2, u, o, rfl, hu⟩
      rw [Int.toNat_natCast] at hu
      exact ⟨_, rfl, q _ _ s2 hu⟩
  refine ⟨(by show (1 : Nat) ≤ sizeLine; decide), fun T1 hT1 => ?_⟩
  have z1 : Same H (upd H T1 (.tup [V.int 1])) := Same.upd_new hT1
  have h1 : (upd H T1 (.tup [V.int 1])) T1 = some (.tup [V.int 1]) := upd_same
  generalize upd H T1 (.tup [V.int 1]) = H1 at z1 h1
  refine ⟨(by show (1 : Nat) ≤ sizeLine; decide), fun T2 hT2 => ?_⟩
  have z2 : Same H1 (upd H1 T2 (.tup [V.int 0])) := Same.upd_new hT2
  have h2 : (upd H1 T2 (.tup [V.int 0])) T2 = some (.tup [V.int 0]) := upd_same
  generalize upd H1 T2 (.tup [V.int 0]) = H2 at z2 h2
  have hp2 := z2 _ _ (z1 _ _ hp)
  have hr2 := z2 _ _ (z1 _ _ hrt)
  have h12 := z2 _ _ h1
  have row := one_row M1
  refine ⟨_, rfl, .inr (.inl ⟨p, _, 1, _, rfl, rfl, SqT.of hp2, a1, r, _, rfl, .inr (SqT.of hr2), _, _, rfl, rfl, ?_⟩)⟩
  rw [lr]
  have em : (M : Int) - 1 = ((M - 1 : Nat) : Int) := by omega
  have fin : ∀ (H3 : Hp) (R : Addr), Same H2 H3 → H3 R = some (.tup ([V.int 1] ++ List.replicate (M - 1) (V.int 0))) → ∀ T, H3 T = none → (tSeq (tFor (iRng1 (tCons (tVar 1) tNil)) (gName 3) (tAsg (tCall sp_lmulE [] E0 (tCons (tVar 2) (tCons (tVar 0) tNil))) (gName 2))) (tRet (tVar 2))) { nx := fun _ H' => Q .non H', rt := Q } [some (.ref p), some (.int (k : Int)), some (.ref T), none] (upd H3 T (.tup [V.int 1, V.ref R])) := fun H3 R z3 hR T hT => by
    have z4 : Same H3 (upd H3 T (.tup [V.int 1, V.ref R])) := Same.upd_new hT
    refine main _ R T (z1.trans (z2.trans (z3.trans z4))) ?_ upd_same
    rw [← show rg M oneF = (List.range M).map oneF from rfl] at row
    rw [← row]
    exact z4 _ _ hR
  dsimp only
  rw [em]
  have two : 2 ≤ sizeLine := by decide
  have cz : 1 + (M - 1) ≤ sizeLine := Nat.le_trans (by omega : 1 + (M - 1) ≤ 120) (by decide)
  have one_ne : ([V.int 1] : List V) ≠ [] := (fun e => by cases e)
  have cat : ∀ (H3 : Hp) (R : Addr) (ys : List V), Same H2 H3 → H3 R = some (.tup ys) → ys = List.replicate (M - 1) (V.int 0) → rCatA K (V.ref T1) (V.ref R) H3 fun x H1 => [V.int 1, x].length ≤ sizeLine ∧ ∀ T, H1 T = none → (tSeq (tFor (iRng1 (tCons (tVar 1) tNil)) (gName 3) (tAsg (tCall sp_lmulE [] E0 (tCons (tVar 2) (tCons (tVar 0) tNil))) (gName 2))) (tRet (tVar 2))) { nx := fun _ H' => Q .non H', rt := Q } [some (.ref p), some (.int (k : Int)), some (.ref T), none] (upd H1 T (.tup [V.int 1, x])) := fun H3 R ys z3 hR hy => by
    have ly : ys.length = M - 1 := by rw [hy, List.length_replicate]
    refine ⟨T1, R, _, _, rfl, rfl, SqT.of (z3 _ _ h12), SqT.of hR, by rw [ly]; exact cz, fun e => absurd e one_ne, fun _ e => ?_, fun _ _ S hS => ?_⟩
    · refine ⟨two, fun T hT => fin H3 T1 z3 ?_ T hT⟩
      rw [← hy, e, List.append_nil]
      exact z3 _ _ h12
    · refine ⟨two, fun T hT => fin _ S (z3.trans (Same.upd_new hS)) ?_ T hT⟩
      rw [← hy]
      exact upd_same
  refine ⟨T2, M - 1, [V.int 0], rfl, rfl, SqT.of h2, (fun e => by cases e), by omega, by decide, fun e S hS => ?_, fun e => ?_, fun e S hS => ?_⟩
  · exact cat _ S [] (Same.upd_new hS) upd_same (by rw [e]; rfl)
  · exact cat _ T2 _ (Same.refl _) h2 (by rw [e]; rfl)
  · exact cat _ S _ (Same.upd_new hS) upd_same (flat_one _ _)
end
end Ft

set_option exponentiation.threshold 9000
namespace Ft
open PySem L2
theorem int_short7 {v : Int} (h : v.natAbs < 2 ^ 1900) : (PyData.int v).leavesShort 700 = true := by
  have key : (PyData.shown (.int v)).length ≤ 700 := by
    have p : (2 : Int) ^ 1900 < 10 ^ 650 := by decide
    have p2 : (2 : Int) ^ 1900 = ((2 ^ 1900 : Nat) : Int) := by rw [Int.natCast_pow]; rfl
    rcases Int.lt_or_le v 0 with h0 | h0
    · obtain ⟨m, rfl⟩ : ∃ m : Nat, v = Int.negSucc m := ⟨v.natAbs - 1, by omega⟩
      have l := PyProof.Rows.toString_length_le (v := ((m + 1 : Nat) : Int)) (by omega) (k := 650) (by decide) (Int.lt_trans (by rw [p2]; exact Int.ofNat_lt.mpr h) p)
      have e : toString (Int.negSucc m) = "-" ++ toString (m + 1) := rfl
      show (Str.ofString (toString (Int.negSucc m))).length ≤ 700
      rw [e, PyProof.Rows.ofString_length, String.toList_append, List.length_append]
      rw [PyProof.Rows.ofString_length] at l
      have l' : (toString (m + 1)).toList.length ≤ 650 := l
      have : "-".toList.length = 1 := by decide
      omega
    · have l := PyProof.Rows.toString_length_le h0 (k := 650) (by decide) (Int.lt_trans (by rw [p2]; omega) p)
      exact Nat.le_trans l (by decide)
  simpa only [PyData.leavesShort, decide_eq_true_eq] using key
theorem int_showable7 {v : Int} (h : v.natAbs < 2 ^ 1900) : (PyData.int v).showable = true := by
  have := PySem.Flt.log2_lt_of (by decide) h
  simp only [PyData.showable, decide_eq_true_eq]
  omega
structure Rs (k m : Nat) (d : PyData) : Prop where
  show_ : d.showable = true
  dict : d.hasDict = false
  depth : d.depth ≤ k
  short : d.leavesShort 700 = true
  bulk : d.bulk ≤ m
structure RsL (k m : Nat) (ds : List PyData) : Prop where
  show_ : PyData.showableAll ds = true
  dict : PyData.hasDictAll ds = false
  depth : PyData.depthAll ds ≤ k
  short : PyData.leavesShortAll 700 ds = true
  bulk : PyData.bulkAll ds ≤ m
theorem Rs.mono {k m k' m' : Nat} {d : PyData} (h : Rs k m d) (h1 : k ≤ k') (h2 : m ≤ m') : Rs k' m' d := ⟨h.show_, h.dict, Nat.le_trans h.depth h1, h.short, Nat.le_trans h.bulk h2⟩
theorem RsL.nil {k : Nat} : RsL k 0 [] := ⟨by simp only [PyData.showableAll], by simp only [PyData.hasDictAll], by simp only [PyData.depthAll]; omega, by simp only [PyData.leavesShortAll], by simp only [PyData.bulkAll]; omega⟩
theorem RsL.cons {k m n : Nat} {d : PyData} {ds : List PyData} (h : Rs k m d) (t : RsL k n ds) : RsL k (m + n + 2) (d :: ds) := by
  refine ⟨?_, ?_, ?_, ?_, ?_⟩
  · simp only [PyData.showableAll, h.show_, t.show_, Bool.and_self]
  · simp only [PyData.hasDictAll, h.dict, t.dict, Bool.or_self]
  · simp only [PyData.depthAll]
    have := h.depth
    have := t.depth
    omega
  · simp only [PyData.leavesShortAll, h.short, t.short, Bool.and_self]
  · simp only [PyData.bulkAll]
    have := h.bulk
    have := t.bulk
    omega
theorem Rs.tup {k m : Nat} {ds : List PyData} (t : RsL k m ds) : Rs (k + 1) (m + 2) (.tuple ds) := by
  refine ⟨?_, ?_, ?_, ?_, ?_⟩
  · simp only [PyData.showable, t.show_]
  · simp only [PyData.hasDict, t.dict]
  · simp only [PyData.depth]
    have := t.depth
    omega
  · simp only [PyData.leavesShort, t.short]
  · simp only [PyData.bulk]
    have := t.bulk
    omega
theorem Rs.list {k m : Nat} {ds : List PyData} (t : RsL k m ds) : Rs (k + 1) (m + 2) (.list ds) := by
  refine ⟨?_, ?_, ?_, ?_, ?_⟩
  · simp only [PyData.showable, t.show_]
  · simp only [PyData.hasDict, t.dict]
  · simp only [PyData.depth]
    have := t.depth
    omega
  · simp only [PyData.leavesShort, t.short]
  · simp only [PyData.bulk]
    have := t.bulk
    omega
theorem rs_int {v : Int} {k m : Nat} (h : v.natAbs < 2 ^ 1900) : Rs k (m + 1) (.int v) := ⟨int_showable7 h, by simp only [PyData.hasDict], by simp only [PyData.depth]; omega, int_short7 h, by simp only [PyData.bulk]; omega⟩
theorem rs_ints {k : Nat} : ∀ {ts : List Int}, (∀ x ∈ ts, x.natAbs < 2 ^ 1900) → RsL k (3 * ts.length) (ts.map PyData.int)
  | [], _ => .nil
  | t :: ts, h => by
    have := RsL.cons (rs_int (k := k) (m := 0) (h t List.mem_cons_self)) (rs_ints (k := k) (ts := ts) fun x hx => h x (List.mem_cons_of_mem _ hx))
    exact ⟨this.show_, this.dict, this.depth, this.short, Nat.le_trans this.bulk (by rw [List.length_cons]; omega)⟩
theorem Rs.rep {k m : Nat} {d : PyData} (h : Rs k m d) (hk : k ≤ 64) (hm : m ≤ 10000) : RepOk d := by
  refine ⟨h.show_, h.dict, Nat.le_trans h.depth hk, ?_⟩
  have l := PyData.shown_le_bulk 700 (by decide) d h.short
  have := h.bulk
  have e : sizeLine = 16777216 := by decide
  have b := Nat.mul_le_mul_left 702 (Nat.le_trans h.bulk hm)
  omega
theorem rs_bg {b : Int} {ts : List Int} (hb : b.natAbs < 2 ^ 1900) (ht : ∀ x ∈ ts, x.natAbs < 2 ^ 1900) (hl : ts.length ≤ 400) : Rs 2 1300 (bgD b ts) := (Rs.tup (RsL.cons (rs_int (m := 0) hb) (RsL.cons (Rs.tup (rs_ints (k := 0) ht)) .nil))).mono (Nat.le_refl _) (by omega)
theorem rep_big {K : PySem.W.Frag} {H : Hp} {u : V} {b : Int} {ts : List Int} {Q : VK} (g : Bg H u b ts) (hb : b.natAbs < 2 ^ 1900) (ht : ∀ x ∈ ts, x.natAbs < 2 ^ 1900) (hl : ts.length ≤ 400) (q : ∀ z, z = (bgD b ts).shown → Q (.str z) H) : rRepr K [u] H Q := by
  have d := dp_bg (K := K) g
  obtain ⟨p, r, rfl, _, _⟩ := g
  have R := (rs_bg hb ht hl).rep (by decide) (by decide)
  exact ⟨p, _, rfl, d, R.show_, R.dict, R.depth, R.len, q _ rfl⟩
theorem low_big {N : Nat} {b : Int} {ts : List Int} (hb : b.natAbs < N) (ht : ∀ x ∈ ts, x.natAbs < N) : (lowB b ts).natAbs < N ∧ ∀ x ∈ lowT b ts, x.natAbs < N := by
  refine ⟨Nat.lt_of_le_of_lt (Int.natAbs_ediv_le_natAbs _ _) hb, fun x hx => ?_⟩
  obtain ⟨t, h, rfl⟩ := List.mem_map.mp hx
  exact Nat.lt_of_le_of_lt (Int.natAbs_ediv_le_natAbs _ _) (ht t h)
end Ft

set_option exponentiation.threshold 9000
namespace Ft
open PySem L2
theorem ints_lay : ∀ ts : List Int, PyData.canLayAll0 (ts.map PyData.int) = true
  | [] => rfl
  | t :: ts => by
    rw [List.map_cons, PyData.canLayAll0, ints_lay ts]
    rfl
theorem bgD_lay (b : Int) (ts : List Int) : (bgD b ts).canLay0 = true := by
  simp only [bgD, PyData.canLay0, PyData.canLayAll0, ints_lay, Bool.and_true, Bool.and_self]
theorem bgD_shaped (b : Int) (ts : List Int) : SeqAt.shaped (bgD b ts) = true := by
  show ((bgD b ts).canLay0 && decide ((bgD b ts).depth ≤ 64)) = true
  rw [bgD_lay, bgD_depth]
  rfl
theorem bgD_eqv (b : Int) (ts : List Int) : PyData.eqv (bgD b ts) (bgD b ts) = true := PySem.SeqAt.eqv_refl _ (bgD_lay b ts)
def sp_isLowest : Sp := fun vs H Q _ => ∃ (v : V) (b : Int) (ts : List Int) (M : Nat), vs = [v, .int (M : Int)] ∧ Bg H v b ts ∧ ts.length = M ∧ 1 ≤ b ∧ 1 ≤ M ∧ M ≤ 400 ∧ b.natAbs < 2 ^ 8000 ∧ lowB b ts = b ∧ lowT b ts = ts ∧ ∀ H', Same H H' → Q (.bl true) H'
section
variable {P : Program} {w : World} {K : PySem.W.Frag} {mg : Str → Option Value} {base : Heap}
theorem ok_isLowest (D : Df K mg "_law_is_lowest" s__law_is_lowest ["_law_one", "_law_many"]) (B : Bi mg) (c__law_reduced : Cal P w K mg base 1 "_law_reduced" sp_loweredT) : Cal P w K mg base 2 "_law_is_lowest" sp_isLowest := by
  obtain ⟨f, fd, F, m, b⟩ := D.ex
  have sc := sc__law_is_lowest
  refine ⟨f, fd, _, F.ok sc (fun _ _ _ _ ⟨_, _, _, _, e, _⟩ => by rw [e]; rfl) (fun cdv A outer s H vs Q E hr h => ?_), m, F.kp, b⟩
  obtain ⟨v, b, ts, M, rfl, hv, lM, b1, M1, M4, b8, eB, eT, q⟩ := h
  have h64 : (A.deeper (PyProof.Rows.envOfC "_law_is_lowest" (defScope s__law_is_lowest) s.heap.objs.size f cdv)).units + 64 < cLine := by have := hr.un; omega
  refine ⟨_, (pss_cons (ps_if (PW.pt (pw_or (pt_not (pt_val (pe_callB (id := "isinstance") (r := rIsi K) call_isi (by rfl) B.isinstance (by decide +kernel) (pa_cons (pv 0) (pa_cons (pe_ty (n := "tuple") (by rfl) B.tuple (by decide +kernel)) pa_nil))))) (pw_or (pt_cmpR op_ne (pe_callB call_len_seq (by rfl) B.len_ (by decide +kernel) (pa_cons (pv 0) pa_nil)) pe_int (nomark _)) (pw_or (pt_not (pt_val (pe_callB (id := "isinstance") (r := rIsi K) call_isi (by rfl) B.isinstance (by decide +kernel) (pa_cons (pe_ix (show IxR _ (rIx K) from ix_seq) (pv 0) pe_int (fun _ _ => rfl)) (pa_cons (pe_ty (n := "tuple") (by rfl) B.tuple (by decide +kernel)) pa_nil))))) (pw_or1 (pt_cmpR op_ne (pe_callB call_len_seq (by rfl) B.len_ (by decide +kernel) (pa_cons (pe_ix (show IxR _ (rIx K) from ix_seq) (pv 0) pe_int (fun _ _ => rfl)) pa_nil)) (pv 1) (nomark _)))))))
      (pss_one (ps_ret pe_bl))
      pss_nil)
      (pss_cons (ps_if (PW.pt (pw_or (pt_cmpR (op_neD h64) (pe_lc (own := [("_law_x", 2)]) (g := gName 2)  (by rfl) sc.nd (pi_tup (pe_op op_catA (pe_ix (show IxR _ (rIx K) from ix_seq) (pv 0) pe_int (fun _ _ => rfl)) (pe_slice sl_tupA (pv 0) po_none (po_some pe_int)))) (blkOk_by (own := [("_law_x", 2)]) (N := N__law_is_lowest) (sc := defScope s__law_is_lowest) (by decide +kernel)) (fun _ _ _ _ _ => (pg_name (i := 2) sc.nd rfl (Or.inl rfl))) (fun _ _ _ _ _ => (pts_one (PW.pt (pw_or (pt_not (pt_val (pe_callB (id := "isinstance") (r := rIsi K) call_isi (by rfl) B.isinstance (by decide +kernel) (pa_cons (pv 2) (pa_cons (pe_ty (n := "int") (by rfl) B.int_ (by decide +kernel)) pa_nil))))) (pw_or1 (pt_val (pe_callB (id := "isinstance") (r := rIsi K) call_isi (by rfl) B.isinstance (by decide +kernel) (pa_cons (pv 2) (pa_cons (pe_ty (n := "bool") (by rfl) B.bool (by decide +kernel)) pa_nil))))))))) (fun _ _ _ _ _ => (pv 2))) (pe_lst pa_nil) (nomark _)) (pw_or1 (pt_cmpR op_lt (pe_ix (show IxR _ (rIx K) from ix_seq) (pv 0) pe_int (fun _ _ => rfl)) pe_int (nomark _)))))
      (pss_one (ps_ret pe_bl))
      pss_nil)
      (pss_one (ps_ret (pe_cmpR (op_eqD h64) (pe_c c__law_reduced hr (by decide) (by rfl) (pa_cons (pe_ix (show IxR _ (rIx K) from ix_seq) (pv 0) pe_int (fun _ _ => rfl)) (pa_cons (pe_ix (show IxR _ (rIx K) from ix_seq) (pv 0) pe_int (fun _ _ => rfl)) pa_nil))) (pv 0) (nomark _)))))), ?_⟩
  have hv' := hv
  obtain ⟨p, r, rfl, hp, hrt⟩ := hv'
  have a0 : ∀ {a c : V}, atI [a, c] 0 = some a := fun {a c} => atI_nat (j := 0) rfl
  have a1 : ∀ {a c : V}, atI [a, c] 1 = some c := fun {a c} => atI_nat (j := 1) rfl
  have ll : (ts.map V.int).length = M := by rw [List.length_map, lM]
  refine ⟨_, rfl, _, _, _, _, true, rfl, .ty _, .base (.tup hp), kit_tup_tup, _, rfl, iteF ?_⟩
  refine ⟨_, rfl, p, _, rfl, .inr (SqT.of hp), rfl, _, rfl, ifNI (fun e => absurd rfl e) fun _ => ?_⟩
  refine ⟨_, rfl, .inr (.inl ⟨p, _, 1, _, rfl, rfl, SqT.of hp, a1, _, _, _, _, true, rfl, .ty _, .base (.tup hrt), kit_tup_tup, _, rfl, iteF ?_⟩)⟩
  refine ⟨_, rfl, .inr (.inl ⟨p, _, 1, _, rfl, rfl, SqT.of hp, a1, r, _, rfl, .inr (SqT.of hrt), ?_⟩)⟩
  rw [ll]
  refine ⟨_, rfl, rfl, _, rfl, ifNI (fun e => absurd rfl e) fun _ => ?_⟩
  refine ⟨_, rfl, .inr (.inl ⟨p, _, 1, _, rfl, rfl, SqT.of hp, a1, ?_⟩)⟩
  refine ⟨_, rfl, 1, rfl, p, _, rfl, SqT.of hp, fun e => absurd e.2 (show ¬ (1 : Nat) = 2 by decide), fun _ S hS => ?_⟩
  have cut : cutV [V.int b, V.ref r] none (some 1) = [V.int b] := rfl
  rw [cut]
  have z1 : Same H (upd H S (.tup [V.int b])) := Same.upd_new hS
  have h1 : (upd H S (.tup [V.int b])) S = some (.tup [V.int b]) := upd_same
  generalize upd H S (.tup [V.int b]) = H1 at z1 h1
  have hr1 := z1 _ _ hrt
  have tne : ts.map V.int ≠ [] := fun e => by have := congrArg List.length e; rw [ll] at this; exact absurd this (by show M ≠ 0; omega)
  refine ⟨r, S, _, _, rfl, rfl, SqT.of hr1, SqT.of h1, ?_, fun e => absurd e tne, fun _ e => (by cases e), fun _ _ T hT => ?_⟩
  · rw [ll]
    exact Nat.le_trans (show M + 1 ≤ 401 by omega) (by decide)
  have ex : ts.map V.int ++ [V.int b] = (ts ++ [b]).map V.int := by rw [List.map_append]; rfl
  rw [ex]
  have z2 : Same H1 (upd H1 T (.tup ((ts ++ [b]).map V.int))) := Same.upd_new hT
  have h2 : (upd H1 T (.tup ((ts ++ [b]).map V.int))) T = some (.tup ((ts ++ [b]).map V.int)) := upd_same
  generalize upd H1 T (.tup ((ts ++ [b]).map V.int)) = H2 at z2 h2
  refine ⟨T, rfl, ⟨_, SqT.of h2⟩, fun D1 hD1 => ?_⟩
  refine lc_tup (xs := (ts ++ [b]).map V.int) (fun i H' => Same H2 H' ∧ H' D1 = some (.lst [])) ⟨Same.upd_new hD1, upd_same⟩ (fun i H' _ ⟨s2, _⟩ => SqT.of (s2 _ _ h2)) ?_ ?_
  · rintro i x H3 hx ⟨s3, h3⟩
    obtain ⟨z, rfl, _⟩ := int_at hx
    refine ⟨rfl, ?_⟩
    refine ⟨_, rfl, _, _, _, _, true, rfl, .ty _, .base (.int _), kit_int_int, _, rfl, iteF ?_⟩
    refine ⟨_, rfl, _, _, _, _, false, rfl, .ty _, .base (.int _), kit_int_bool, _, rfl, iteF ?_⟩
    exact ⟨s3, h3⟩
  rintro H3 ⟨s3, h3⟩
  refine ⟨(by show (0 : Nat) ≤ sizeLine; decide), fun E1 hE1 => ?_⟩
  have z3 : Same H3 (upd H3 E1 (.lst [])) := Same.upd_new hE1
  refine ⟨.list [], .list [], .lst (SqL.of (z3 _ _ h3)) .nil, .lst (SqL.of upd_same) .nil, rfl, rfl, _, rfl, iteF ?_⟩
  generalize upd H3 E1 (.lst []) = H4 at z3
  have s4 : Same H H4 := z1.trans (z2.trans (s3.trans z3))
  have hp4 := s4 _ _ hp
  refine ⟨_, rfl, .inr (.inl ⟨p, _, 0, _, rfl, rfl, SqT.of hp4, a0, _, _, rfl, rfl, _, rfl, ifD (fun e => absurd e (by omega)) fun _ => ?_⟩)⟩
  refine ⟨_, rfl, .inr (.inl ⟨p, _, 0, _, rfl, rfl, SqT.of hp4, a0, ?_⟩)⟩
  refine ⟨_, rfl, .inr (.inl ⟨p, _, 1, _, rfl, rfl, SqT.of hp4, a1, b, r, ts, rfl, s4 _ _ hrt, by omega, b8, by omega, fun H5 u s5 h5 => ?_⟩)⟩
  rw [eB, eT] at h5
  refine ⟨_, rfl, bgD b ts, bgD b ts, dp_bg h5, dp_bg ((hv.same s4).same s5), bgD_shaped _ _, bgD_shaped _ _, ?_⟩
  rw [bgD_eqv]
  exact q _ (s4.trans s5)
end
end Ft

set_option exponentiation.threshold 9000
namespace Ft
open PySem L2
/-! ### a value that is a power -/
structure Pw (M : Nat) (b : Int) (f : Nat → Int) (p q : Nat) (B : Int) (z : Nat → Int) : Prop where
  pos : 0 < B
  zp : Zp M b f p q B z
  lb : lowB B (rg M z) = B
  lt : lowT B (rg M z) = rg M z
theorem Zp.cut {M p q : Nat} {b c : Int} {f z : Nat → Int} (h : Zp M b f p q c z) (c0 : 0 < c) : ∃ z', lowT c (rg M z) = rg M z' ∧ Pw M b f p q (lowB c (rg M z)) z' ∧ (∀ N : Nat, (∀ n, n < M → (z n).natAbs ≤ N) → ∀ n, (z' n).natAbs ≤ N) := by
  obtain ⟨g, g0, e1, e2⟩ := low_back (rg M z) c0
  have hp := lowB_pos c0 (rg M z)
  have ll : (lowT c (rg M z)).length = M := by rw [low_rg, rg_len]
  refine ⟨fn (lowT c (rg M z)), ?_, ?_, ?_⟩
  · have : lowT c (rg M z) = rg M (fn (lowT c (rg M z))) := by
      rw [low_rg]
      exact (rg_congr (fn_rg M _)).symm
    exact this
  · have eT : lowT c (rg M z) = rg M (fn (lowT c (rg M z))) := by
      rw [low_rg]
      exact (rg_congr (fn_rg M _)).symm
    have eL : L (lowB c (rg M z)) (lowT c (rg M z)) = L c (rg M z) := by
      have := L_mul g0 hp (lowT c (rg M z))
      rw [← e1, ← e2] at this
      exact this.symm
    refine ⟨hp, ?_, ?_, ?_⟩
    · refine Zp.scale (g := g) ?_ (by omega)
      rw [← e1]
      refine h.congrZ fun n hn => ?_
      have := congrArg (fun t => fn t n) e2
      rw [show fn (sc g (lowT c (rg M z))) n = g * fn (lowT c (rg M z)) n from sc_getD g _ n] at this
      rw [← fn_rg M z n hn]
      exact this
    · rw [← eT]; exact congrArg Prod.fst eL
    · rw [← eT]; exact congrArg Prod.snd eL
  · intro N hN n
    by_cases hn : n < M
    · have : fn (lowT c (rg M z)) n = z n / ((gcdL c.natAbs (rg M z) : Nat) : Int) := by
        rw [low_rg]
        exact fn_rg M _ n hn
      rw [this]
      exact Nat.le_trans (Int.natAbs_ediv_le_natAbs _ _) (hN n hn)
    · have : fn (lowT c (rg M z)) n = 0 := by
        unfold fn
        rw [List.getD_eq_getElem?_getD, List.getElem?_eq_none (by omega)]
        rfl
      rw [this]
      exact Nat.zero_le _
theorem Pw.uniq {M p q p' q' : Nat} {b B B' : Int} {f z z' : Nat → Int} (h : Pw M b f p q B z) (h' : Pw M b f p' q' B' z') (e : p + q' = p' + q) (b0 : b ≠ 0) (f0 : f 0 ≠ 0 ∨ (q = 0 ∧ q' = 0)) : B = B' ∧ rg M z = rg M z' := by
  have u := h.zp.uniq h'.zp e b0 f0
  rw [conv_cS, conv_cS] at u
  have e1 := L_mul h'.pos h.pos (rg M z)
  have e2 := L_mul h.pos h'.pos (rg M z')
  have e3 : sc B' (rg M z) = sc B (rg M z') := by
    unfold rg
    rw [sc_range, sc_range]
    exact range_ext rfl u
  rw [e3, Int.mul_comm, e2] at e1
  have a := congrArg Prod.fst e1
  have c := congrArg Prod.snd e1
  dsimp only [L] at a c
  rw [h.lb, h'.lb] at a
  rw [h.lt, h'.lt] at c
  exact ⟨a.symm, c.symm⟩
theorem Pw.mul {M p q p' q' : Nat} {b B B' : Int} {f z z' : Nat → Int} (h : Pw M b f p q B z) (h' : Pw M b f p' q' B' z') : ∃ y, lowT (B * B') (mulL (rg M z) (rg M z')) = rg M y ∧ Pw M b f (p + p') (q + q') (lowB (B * B') (mulL (rg M z) (rg M z'))) y := by
  rw [mulL_rg]
  obtain ⟨y, e, P, _⟩ := (h.zp.mul h'.zp).cut (Int.mul_pos h.pos h'.pos)
  exact ⟨y, e, P⟩
theorem Pw.pow {M p1 q1 p2 q2 : Nat} {b B B' : Int} {f z z' : Nat → Int} (h : Pw M b f p1 q1 B z) (h' : Pw M B z p2 q2 B' z') : Pw M b f (p1 * p2 + q1 * q2) (p1 * q2 + q1 * p2) B' z' :=
  ⟨h'.pos, h.zp.pow h'.zp (by have := h.pos; omega), h'.lb, h'.lt⟩
/-- the power of a product -/
theorem Pw.both {M p q : Nat} {b b' B B' : Int} {f f' z z' w : Nat → Int} (h : Pw M b f p q B z) (h' : Pw M b' f' p q B' z') (b0 : 0 < b) (b0' : 0 < b') (hw : lowT (b * b') (mulL (rg M f) (rg M f')) = rg M w) :
    ∃ y, lowT (B * B') (mulL (rg M z) (rg M z')) = rg M y ∧ Pw M (lowB (b * b') (mulL (rg M f) (rg M f'))) w p q (lowB (B * B') (mulL (rg M z) (rg M z'))) y := by
  have bb := Int.mul_pos b0 b0'
  rw [mulL_rg] at hw ⊢
  rw [mulL_rg]
  obtain ⟨g, g0, e1, e2⟩ := low_back (rg M (conv f f')) bb
  rw [hw] at e2
  have z1 := h.zp.both h'.zp
  have eq : Eqm M (conv f f') (fun n => g * w n) := fun n hn => by
    have := congrArg (fun t => fn t n) e2
    unfold rg at this
    rw [sc_range] at this
    rw [← fn_rg M (conv f f') n hn]
    exact this.trans (fn_rg M (fun i => g * w i) n hn)
  have z2 := z1.congr eq
  rw [e1] at z2
  obtain ⟨y, e, P, _⟩ := (z2.scaleB (by omega)).cut (Int.mul_pos h.pos h'.pos)
  exact ⟨y, e, P⟩
theorem Pw.f0 {M p q : Nat} {b B : Int} {f z : Nat → Int} (h : Pw M b f p q B z) (M1 : 1 ≤ M) (b0 : b ≠ 0) (f0 : f 0 ≠ 0) : z 0 ≠ 0 := fun e => by
  have := h.zp 0 M1
  rw [conv_0, conv_0, conv_0, conv_0, e, Int.zero_mul, Int.zero_mul, np_0, np_0, cS_0, cS_0] at this
  have n1 := Int.mul_ne_zero (Int.mul_ne_zero (by have := h.pos; omega : B ≠ 0) (Int.pow_ne_zero b0 : b ^ q ≠ 0)) (Int.pow_ne_zero f0 : f 0 ^ p ≠ 0)
  exact n1 this.symm
end Ft

set_option exponentiation.threshold 9000
namespace Ft
open PySem L2
theorem B2.low' {b : Int} {M : Nat} {f z : Nat → Int} (h : B2 b (rg M f)) (e : lowT b (rg M f) = rg M z) : B2 (lowB b (rg M f)) (rg M z) := by
  have := h.low
  rw [e] at this
  exact this
theorem Pw.up {M : Nat} {b : Int} {f : Nat → Int} (b0 : 0 < b) (k : Nat) : ∃ z, lowT (b ^ k) (rg M (np f k)) = rg M z ∧ Pw M b f k 0 (lowB (b ^ k) (rg M (np f k))) z ∧ (∀ N : Nat, (∀ n, n < M → (np f k n).natAbs ≤ N) → ∀ n, (z n).natAbs ≤ N) := (Zp.up M k b f).cut (Int.pow_pos b0)
theorem one_abs (n : Nat) : (oneF n).natAbs ≤ 1 := by unfold oneF; split <;> decide
def sp_undone : Sp := fun vs H Q _ => ∃ (v u : V) (b B : Int) (M k : Nat) (f z : Nat → Int), vs = [v, .int (k : Int), u] ∧ Bg H v b (rg M f) ∧ Bg H u B (rg M z) ∧ Pw M b f 0 k B z ∧ 1 ≤ b ∧ f 0 ≠ 0 ∧ 1 ≤ M ∧ M ≤ 120 ∧ k ≤ 24 ∧ (∀ i, i ≤ k + 1 → B2 (b ^ i) (rg M (np f i))) ∧ B2 B (rg M z) ∧ ∀ H', Same H H' → Q (.bl true) H'
section
variable {P : Program} {w : World} {K : PySem.W.Frag} {mg : Str → Option Value} {base : Heap}
theorem fn_undone {f : Addr} {fd : FuncData} (F : Fun K "_law_is_undone" "_law_is_undone" s__law_is_undone f fd) (B : Bi mg) (c__law_is_lowest : Cal P w K mg base 2 "_law_is_lowest" sp_isLowest) (c__law_multiplied : Cal P w K mg base 2 "_law_multiplied" sp_lmulE) (c__law_power : Cal P w K mg base 3 "_law_power" sp_lpow) : FnG P w K mg base 5 f fd ["_law_one", "_law_k", "_law_told"] sp_undone := by
  have sc := sc__law_is_undone
  refine fun_g F sc (fun _ _ _ _ ⟨_, _, _, _, _, _, _, _, e, _⟩ => by rw [e]; rfl) (fun cdv A outer s H vs Q E hgd hr h => ?_)
  obtain ⟨v, u, b, B0, M, k, f, z, rfl, hv, hu, Pt, b1, f0, M1, M2, k24, bP, bT, q⟩ := h
  refine ⟨_, (pss_cons (ps_if (pt_not (pt_val (pe_c c__law_is_lowest hr (by decide) (by rfl) (pa_cons (pv 2) (pa_cons (pe_callB call_len_seq (by rfl) B.len_ (by decide +kernel) (pa_cons (pe_ix (show IxR _ (rIx K) from ix_seq) (pv 0) pe_int (fun _ _ => rfl)) pa_nil)) pa_nil)))))
      (pss_one (ps_ret pe_bl))
      pss_nil)
      (pss_one (ps_ret (pe_cmpR op_eq (pe_callB (call_repr hgd hr) (by rfl) B.repr (by decide +kernel) (pa_cons (pe_c c__law_multiplied hr (by decide) (by rfl) (pa_cons (pv 2) (pa_cons (pe_c c__law_power hr (by decide) (by rfl) (pa_cons (pv 0) (pa_cons (pv 1) pa_nil))) pa_nil))) pa_nil)) (pe_callB (call_repr hgd hr) (by rfl) B.repr (by decide +kernel) (pa_cons (pe_c c__law_power hr (by decide) (by rfl) (pa_cons (pv 0) (pa_cons pe_int pa_nil))) pa_nil)) (nomark _))))), ?_⟩
  obtain ⟨p, r, rfl, hp, hrt⟩ := id hv
  have a0 : ∀ {a c : V}, atI [a, c] 0 = some a := fun {a c} => atI_nat (j := 0) rfl
  have a1 : ∀ {a c : V}, atI [a, c] 1 = some c := fun {a c} => atI_nat (j := 1) rfl
  have bp : 0 < b := by omega
  have Bp := Pt.pos
  refine ⟨_, rfl, _, rfl, .inr (.inl ⟨p, _, 1, _, rfl, rfl, SqT.of hp, a1, r, _, rfl, .inr (SqT.of hrt), ?_⟩)⟩
  rw [rgV_len]
  refine ⟨u, B0, _, M, rfl, hu, rg_len _ _, by omega, M1, by omega, Nat.lt_trans bT.1 (Nat.pow_lt_pow_right (by decide) (by decide)), Pt.lb, Pt.lt, fun H1 s1 => ⟨_, rfl, iteF ?_⟩⟩
  refine ⟨_, rfl, _, rfl, _, rfl, _, b, M, f, k, rfl, hv.same s1, b1, M1, M2, k24, bP, fun H2 x s2 hx => ?_⟩
  obtain ⟨y, ey, Py, _⟩ := Pw.up (M := M) (f := f) bp k
  rw [ey] at hx
  have by2 := (bP k (by omega)).low' ey
  refine ⟨u, x, B0, _, _, _, rfl, (hu.same s1).same s2, hx, ⟨by omega, by rw [rg_len]; exact M1, by rw [rg_len]; omega⟩, ⟨by have := Py.pos; omega, by rw [rg_len]; exact M1, by rw [rg_len]; omega⟩, bT.1, by2.1, bT.2, by2.2, by rw [rg_len, rg_len], fun H3 x3 s3 h3 => ?_⟩
  obtain ⟨y3, e3, P3⟩ := Pt.mul Py
  rw [e3] at h3
  obtain ⟨y0, e0, P0, _⟩ := Pw.up (M := M) (f := f) bp 0
  obtain ⟨c1, c2⟩ := P3.uniq P0 (by omega) (by omega) (.inl f0)
  rw [c1, c2, ← e0] at h3
  have lo := low_big (N := 2 ^ 1900) (b := b ^ 0) (ts := rg M (np f 0)) (by rw [Int.pow_zero]; decide) (fun x hx => by
    obtain ⟨n, _, rfl⟩ := List.mem_map.mp hx
    exact Nat.lt_of_le_of_lt (one_abs n) (by decide))
  have ll : (lowT (b ^ 0) (rg M (np f 0))).length ≤ 400 := by rw [low_rg, rg_len]; omega
  dsimp only [tNil, tCons, tC, List.cons_append, List.nil_append]
  refine rep_big h3 lo.1 lo.2 ll fun z1 ez1 => ?_
  refine ⟨_, rfl, _, b, M, f, 0, rfl, ((hv.same s1).same s2).same s3, b1, M1, M2, by omega, fun i hi => bP i (by omega), fun H4 x4 s4 h4 => ?_⟩
  dsimp only [tNil, tCons, tC, List.cons_append, List.nil_append]
  refine rep_big h4 lo.1 lo.2 ll fun z2 ez2 => ?_
  obtain rfl : z2 = z1 := ez2.trans ez1.symm
  refine ⟨rfl, ?_⟩
  rw [decide_eq_true rfl]
  exact q _ (s1.trans (s2.trans (s3.trans s4)))
end
end Ft

namespace Ft
open PySem L2
/-- two keywords, in the other order -/
def swapV : List V → List V → List V := fun us zs => match us, zs with
  | [], [a, b] => [b, a]
  | _, _ => []
def swapU : List Value → List Value → List Value := fun us zs => match us, zs with
  | [], [a, b] => [b, a]
  | _, _ => []
theorem swap_rel : ∀ {vs : List V} {us : List Value} {zs : List V} {ws : List Value}, Vals vs us → Vals zs ws → Vals (swapV vs zs) (swapU us ws)
  | _, _, _, _, .nil, .nil => .nil
  | _, _, _, _, .nil, .cons _ .nil => .nil
  | _, _, _, _, .nil, .cons a (.cons b .nil) => .cons b (.cons a .nil)
  | _, _, _, _, .nil, .cons _ (.cons _ (.cons _ _)) => .nil
  | _, _, _, _, .cons _ _, _ => .nil
end Ft

set_option exponentiation.threshold 9000
namespace Ft
open PySem L2 PySem.Spec PyProof.Rows
def sp_isRefused : Sp := fun vs H Q _ => ∃ (v : V) (b k w : Int) (M : Nat) (f : Nat → Int), vs = [v, .int k, .int w] ∧ Bg H v b (rg M f) ∧ 1 ≤ b ∧ 1 ≤ M ∧ M ≤ 120 ∧ f 0 = 0 ∧ k < 0 ∧ ∀ H', Same H H' → Q (.bl true) H'
section
variable {P : Program} {w : World} {K : PySem.W.Frag} {mg : Str → Option Value} {base : Heap}
theorem ok_isRefused {C : Addr} (D : Df K mg "_law_is_refused" s__law_is_refused ["_law_one", "_law_k", "_law_way"]) (T : Ex0 K mg "DividedByZero" C) (x_power : CalL P w K mg base 5 "power" ["beginning", "k"] ["k", "beginning"] swapV (sp_powerE C)) : Cal P w K mg base 6 "_law_is_refused" sp_isRefused := by
  obtain ⟨f, fd, F, m, b⟩ := D.ex
  have sc := sc__law_is_refused
  obtain ⟨fP, fdP, gP, FP, mP, kP, bP, kbP⟩ := x_power.ex
  refine ⟨f, fd, _, F.ok sc (fun _ _ _ _ ⟨_, _, _, _, _, _, e, _⟩ => by rw [e]; rfl) (fun cdv A outer s H vs Q E hr h => ?_), m, F.kp, b⟩
  obtain ⟨v, b, k, wy, M, f, rfl, hv, b1, M1, M2, f0, kn, q⟩ := h
  have rm := hr.mono (show 5 ≤ 5 by decide)
  refine ⟨_, pss_cons (ps_try_only
      (tb := fun W => tIfS (tTest (tOp rEq (tVar 2) (tC (.int 0)))) (tDrop (tCallS (sp_powerE C) (WE W) (tCons (tVar 0) (tCons (tVar 1) tNil)))) (tDrop (tCallKS (sp_powerE C) swapV (WE W) (tCons (tVar 1) (tCons (tVar 0) tNil)))))
      (ts := fun _ _ _ => tRet (tC (.bl true))) (Wout := fun _ _ _ _ => False) rfl rfl ⟨rfl, by decide, Or.inl T.g⟩ LamX.takes0
      (fun W pn xe tk _ => pss_one (ps_if (pt_cmpR op_eq (pv 2) pe_int (nomark _))
        (pss_one (ps_expr (pe_callS FP rm rfl mP kP bP (fun σ => passAt tk σ) (pa_cons (pv 0) (pa_cons (pv 1) pa_nil)))))
        (pss_one (ps_expr (pe_kxS FP rm rfl mP kP kbP (fun σ => passAt tk σ) (pk_cons (pv 1) (pk_cons (pv 0) pk_nil)))))))
      (fun _ _ _ _ _ _ _ => pss_one (ps_ret pe_bl)))
    (pss_one (ps_ret pe_bl)), ?_⟩
  refine ⟨_, rfl, rfl, _, rfl, ifI (fun e => ?_) fun e => ?_⟩
  · exact ⟨_, rfl, _, rfl, v, b, M, f, k, rfl, hv, b1, M1, M2, f0, kn, fun H1 s1 => ⟨true, T.ex, fun _ a _ => q _ s1, fun z => by cases z⟩⟩
  · exact ⟨_, rfl, _, rfl, v, b, M, f, k, rfl, hv, b1, M1, M2, f0, kn, fun H1 s1 => ⟨true, T.ex, fun _ a _ => q _ s1, fun z => by cases z⟩⟩
end
end Ft

set_option exponentiation.threshold 9000
namespace Ft
open PySem L2
theorem rg_fn (ts : List Int) : rg ts.length (fn ts) = ts := by
  refine List.ext_getElem? fun i => ?_
  unfold rg fn
  rw [List.getElem?_map]
  rcases Nat.lt_or_ge i ts.length with h | h
  · rw [List.getElem?_range h, Option.map_some, List.getD_eq_getElem?_getD, List.getElem?_eq_getElem h]
    rfl
  · rw [List.getElem?_eq_none (by rw [List.length_range]; exact h), List.getElem?_eq_none h]
    rfl
theorem fn_le {ts : List Int} {N : Nat} (h : ∀ x ∈ ts, x.natAbs ≤ N) (n : Nat) : (fn ts n).natAbs ≤ N := by
  unfold fn
  rcases Nat.lt_or_ge n ts.length with hi | hi
  · exact h _ (getD_mem hi)
  · rw [List.getD_eq_getElem?_getD, List.getElem?_eq_none hi]
    exact Nat.zero_le _
theorem But.updN {d l p : Addr} {H H' : Hp} {o : HO} (b : But d l H H') (hp : H p = none) : But d l H (upd H' p o) := fun c u e h1 h2 => by
  rw [upd_ne (ne_of_none e hp)]
  exact b c u e h1 h2
theorem DeckAt.updN {H : Hp} {d l p : Addr} {o : HO} (D : DeckAt H d l) (h1 : p ≠ d) (h2 : p ≠ l) : DeckAt (upd H p o) d l := by
  obtain ⟨mx, dr, cs, e1, e2, e3⟩ := D
  exact ⟨mx, dr, cs, by rw [upd_ne h1.symm]; exact e1, by rw [upd_ne h2.symm]; exact e2, e3⟩
theorem But.none {d l p : Addr} {H H' : Hp} (b : But d l H H') (hp : H' p = none) (h1 : p ≠ d) (h2 : p ≠ l) : H p = none := by
  cases e : H p with
  | none => rfl
  | some o =>
    have := b _ _ e h1 h2
    rw [hp] at this
    cases this
def sp_begR : Sp := fun vs H Q _ => ∃ (d l : Addr) (many : Nat), vs = [.ref d, .int (many : Int)] ∧ DeckAt H d l ∧ 1 ≤ many ∧ many ≤ 120 ∧ ∀ H' v b M f, DeckAt H' d l → But d l H H' → Bg H' v b (rg M f) → 1 ≤ b → b ≤ 9 → 1 ≤ M → M ≤ many → (∀ n, (f n).natAbs ≤ 12) → Q v H'
section
variable {P : Program} {w : World} {K : PySem.W.Frag} {mg : Str → Option Value} {base : Heap}
theorem ok_begR (D : Df K mg "_law_beginning" s__law_beginning ["_law_deck_here", "_law_many"]) (B : Bi mg) (c__law_draw : Cal P w K mg base 1 "_law_draw" sp_draw) (c__law_pick : Cal P w K mg base 2 "_law_pick" (sp_pick K)) : Cal P w K mg base 3 "_law_beginning" sp_begR := by
  obtain ⟨f, fd, F, m, b⟩ := D.ex
  have sc := sc__law_beginning
  refine ⟨f, fd, _, F.ok sc (fun _ _ _ _ ⟨_, _, _, e, _⟩ => by rw [e]; rfl) (fun cdv A outer s H vs Q E hr h => ?_), m, F.kp, b⟩
  obtain ⟨d, l, many, rfl, D0, m1, m2, q⟩ := h
  refine ⟨_, (pss_cons (ps_asg (pe_tup (pa_cons (pe_c c__law_draw hr (by decide) (by rfl) (pa_cons (pv 0) (pa_cons pe_int pa_nil))) (pa_cons (pe_op op_add pe_int (pe_c c__law_draw hr (by decide) (by rfl) (pa_cons (pv 0) (pa_cons pe_int pa_nil)))) pa_nil))) (pg_tup rfl (pgs_cons (pg_name (i := 2) sc.nd rfl (Or.inr rfl)) (pgs_cons (pg_name (i := 3) sc.nd rfl (Or.inr rfl)) pgs_nil))))
      (pss_cons (ps_set (i := 4) sc.nd rfl (Or.inl rfl) (pe_c c__law_pick hr (by decide) (by rfl) (pa_cons (pv 0) (pa_cons (pe_lst (pa_cons pe_int (pa_cons pe_int (pa_cons pe_int (pa_cons pe_int pa_nil))))) pa_nil))))
      (pss_cons (ps_set (i := 5) sc.nd rfl (Or.inl rfl) (pe_ifExp (pt_cmpR op_gt (pv 1) pe_int (nomark _)) (pv 1) (pe_op op_add pe_int (pe_c c__law_draw hr (by decide) (by rfl) (pa_cons (pv 0) (pa_cons (pv 1) pa_nil))))))
      (pss_cons (ps_setLc (i := 7) (own := [("_law_at", 6)]) (g := gName 6) (tt := tYes) (by rfl) sc.nd rfl rfl (sw_true rfl rfl rfl (by decide +kernel)) (pi_range1 rfl B.range (pa_cons (pv 5) pa_nil)) (blkOk_by (own := [("_law_at", 6)]) (N := N__law_beginning) (sc := defScope s__law_beginning) (by decide +kernel)) (fun _ _ _ _ _ => (pg_name (i := 6) sc.nd rfl (Or.inl rfl))) (fun _ _ _ _ _ => pts_nil) (fun _ _ _ _ _ => (pe_op op_mulW (pe_op op_sub (pe_c c__law_draw hr (by decide) (by rfl) (pa_cons (pv 0) (pa_cons pe_int pa_nil))) pe_int) (pe_ifExp (pt_cmpR op_lt (pe_c c__law_draw hr (by decide) (by rfl) (pa_cons (pv 0) (pa_cons pe_int pa_nil))) (pv 2) (nomark _)) pe_int pe_int))))
      (pss_cons (ps_asg (pe_c c__law_pick hr (by decide) (by rfl) (pa_cons (pv 0) (pa_cons (pe_lst (pa_cons (pv 4) (pa_cons (pe_un un_neg (pv 4)) (pa_cons (pv 4) (pa_cons pe_int (pa_cons (pe_op op_sub (pe_c c__law_draw hr (by decide) (by rfl) (pa_cons (pv 0) (pa_cons pe_int pa_nil))) pe_int) pa_nil)))))) pa_nil))) (pg_sub (pv 7) pe_int set_list))
      (pss_one (ps_ret (pe_tup (pa_cons (pe_op op_mulW (pv 3) (pv 4)) (pa_cons (pe_callTy call_tuple_of (by rfl) B.tuple (by decide +kernel) (pa_cons (pe_lc (own := [("_law_top", 8)]) (g := gName 8) (tt := tYes) (by rfl) sc.nd (pi_list (pv 7)) (blkOk_by (own := [("_law_top", 8)]) (N := N__law_beginning) (sc := defScope s__law_beginning) (by decide +kernel)) (fun _ _ _ _ _ => (pg_name (i := 8) sc.nd rfl (Or.inl rfl))) (fun _ _ _ _ _ => pts_nil) (fun _ _ _ _ _ => (pe_op op_mulW (pv 3) (pv 8)))) pa_nil)) pa_nil)))))))))), ?_⟩
  refine ⟨_, rfl, d, l, _, rfl, D0, by decide, by decide, fun H1 th D1 b1 w0 w1 => ?_⟩
  refine ⟨_, rfl, d, l, _, rfl, D1, by decide, by decide, fun H2 fc D2 b2 f0 f1 => ?_⟩
  refine ⟨_, _, rfl, rfl, (by show (2 : Nat) ≤ sizeLine; decide), fun p1 hp1 => ?_⟩
  have s3 : Same H2 (upd H2 p1 (.tup [V.int th, V.int (1 + fc)])) := Same.upd_new hp1
  have h3 : (upd H2 p1 (.tup [V.int th, V.int (1 + fc)])) p1 = some (.tup [V.int th, V.int (1 + fc)]) := upd_same
  generalize upd H2 p1 (.tup [V.int th, V.int (1 + fc)]) = H3 at s3 h3
  refine ⟨p1, _, rfl, SqT.of h3, rfl, ?_⟩
  refine ⟨_, _, rfl, _, _, rfl, rfl, ?_⟩
  have D3 := D2.same s3
  have b3 : But d l H H3 := (b1.trans b2).trans (But.of s3)
  dsimp only [gName]
  refine ⟨_, rfl, (by show (4 : Nat) ≤ sizeLine; decide), fun p3 hp3 => ?_⟩
  have n3 := D3.new hp3
  have s4 : Same H3 (upd H3 p3 (.lst [V.int 1, V.int 1, V.int 2, V.int 3])) := Same.upd_new hp3
  refine ⟨d, l, p3, _, rfl, D3.same s4, .inl ⟨upd_same, n3.2⟩, (by show 0 < 4; decide), (by show 4 < 2 ^ 64; decide), fun H5 v D5 b5 hv => ?_⟩
  have hz : ∃ z : Int, v = .int z ∧ 1 ≤ z ∧ z ≤ 3 := by
    simp only [List.mem_cons, List.not_mem_nil, or_false] at hv
    rcases hv with h | h | h | h <;> exact ⟨_, h, by decide, by decide⟩
  obtain ⟨bt, rfl, t1, t2⟩ := hz
  have b05 : But d l H H5 := (b3.trans (But.of s4)).trans b5
  clear hv b5 s4 hp3 n3 b3 D3 h3 s3 hp1 b1 b2 D1 D2
  dsimp only [gName]
  refine tSeq_join (fun σ H' => DeckAt H' d l ∧ But d l H H' ∧ ∃ N : Nat, σ = [some (.ref d), some (.int (many : Int)), some (.int th), some (.int (1 + fc)), some (.int bt), some (.int (N : Int)), none, none, none] ∧ 1 ≤ N ∧ N ≤ many) (fun Nx hN => ?_) ?_
  · refine ⟨_, rfl, _, _, rfl, rfl, _, rfl, ifD (fun hx => ?_) fun hx => ?_⟩
    · refine ⟨_, rfl, hN _ _ ⟨D5, b05, many, rfl, by omega, by omega⟩⟩
    · refine ⟨_, rfl, _, rfl, d, l, _, rfl, D5, by omega, by omega, fun H6 n D6 b6 n0 n1 => ?_⟩
      obtain ⟨N, rfl⟩ : ∃ N : Nat, n = (N : Int) := ⟨n.toNat, by omega⟩
      exact ⟨_, _, rfl, rfl, hN _ _ ⟨D6, b05.trans b6, 1 + N, by rw [Int.natCast_add]; rfl, by omega, by omega⟩⟩
  clear D5 b05
  rintro _ H5 ⟨D5, b5, N, rfl, N1, N2⟩
  refine ⟨_, rfl, _, rfl, by omega, by omega, fun P hP => ?_⟩
  have nP := D5.new hP
  have hPn := b5.none hP nP.1 nP.2
  have s6 : Same H5 (upd H5 P (.lst [])) := Same.upd_new hP
  refine lc_range (lo := 0) (n := ((N : Int)).toNat) (fun i H' => DeckAt H' d l ∧ But d l H H' ∧ ∃ ts : List Int, H' P = some (.lst (ts.map V.int)) ∧ ts.length = i ∧ ∀ x ∈ ts, x.natAbs ≤ 4) ⟨D5.same s6, b5.trans (But.of s6), [], upd_same, rfl, fun x hx => by cases hx⟩ ?_ ?_
  · rintro i H6 hi ⟨D6, b6, ts, h6, lts, sts⟩
    rw [Int.toNat_natCast] at hi
    refine ⟨rfl, _, rfl, d, l, _, rfl, D6, by decide, by decide, fun H7 x D7 b7 x0 x1 => ?_⟩
    refine ⟨_, _, rfl, rfl, ?_⟩
    refine ⟨_, rfl, d, l, _, rfl, D7, by decide, by decide, fun H8 y D8 b8 y0 y1 => ?_⟩
    have h8 := b8 _ _ (b7 _ _ h6 nP.1 nP.2) nP.1 nP.2
    have fin : ∀ c : Int, c = 0 ∨ c = 1 → ∃ acc, H8 P = some (.lst acc) ∧ acc.length < sizeLine ∧ (DeckAt (upd H8 P (.lst (acc ++ [V.int ((x - 3) * c)]))) d l ∧ But d l H (upd H8 P (.lst (acc ++ [V.int ((x - 3) * c)]))) ∧ ∃ ts : List Int, (upd H8 P (.lst (acc ++ [V.int ((x - 3) * c)]))) P = some (.lst (ts.map V.int)) ∧ ts.length = i + 1 ∧ ∀ x ∈ ts, x.natAbs ≤ 4) := fun c hc => by
      refine ⟨_, h8, ?_, D8.updN nP.1 nP.2, ((b6.trans b7).trans b8).updN hPn, ts ++ [(x - 3) * c], ?_, ?_, fun z hz => ?_⟩
      · rw [List.length_map, lts]
        exact Nat.lt_of_le_of_lt (by omega : i ≤ 120) (by decide)
      · rw [upd_same, List.map_append]; rfl
      · rw [List.length_append, lts]; rfl
      · rcases List.mem_append.mp hz with hz | hz
        · exact sts z hz
        · rw [List.mem_singleton.mp hz]
          rcases hc with rfl | rfl <;> omega
    have cm : ∀ c : Int, c = 0 ∨ c = 1 → CMulW (x - 3) c := fun c hc => mul2 (Nat.lt_of_le_of_lt (by omega : _ ≤ 10) (by decide)) (Nat.lt_of_le_of_lt (by omega : _ ≤ 10) (by decide))
    refine ⟨_, rfl, _, _, rfl, rfl, _, rfl, ifD (fun hx => ?_) fun hx => ?_⟩
    · exact ⟨_, _, rfl, rfl, cm 0 (.inl rfl), fin 0 (.inl rfl)⟩
    · exact ⟨_, _, rfl, rfl, cm 1 (.inr rfl), fin 1 (.inr rfl)⟩
  rintro H6 ⟨D6, b6, ts, h6, lts, sts⟩
  rw [Int.toNat_natCast] at lts
  clear D5 b5 s6 hP
  dsimp only [gName]
  refine ⟨_, rfl, _, rfl, _, rfl, _, rfl, _, rfl, _, rfl, d, l, _, rfl, D6, by decide, by decide, fun H7 y D7 b7 y0 y1 => ?_⟩
  refine ⟨_, _, rfl, rfl, (by show (5 : Nat) ≤ sizeLine; decide), fun p3 hp3 => ?_⟩
  have n3 := D7.new hp3
  have s8 : Same H7 (upd H7 p3 (.lst [V.int bt, V.int (-bt), V.int bt, V.int 0, V.int (y - 4)])) := Same.upd_new hp3
  refine ⟨d, l, p3, _, rfl, D7.same s8, .inl ⟨upd_same, n3.2⟩, (by show 0 < 5; decide), (by show 5 < 2 ^ 64; decide), fun H9 v D9 b9 hv => ?_⟩
  have hz : ∃ z : Int, v = .int z ∧ z.natAbs ≤ 4 := by
    simp only [List.mem_cons, List.not_mem_nil, or_false] at hv
    rcases hv with h | h | h | h | h <;> exact ⟨_, h, by omega⟩
  obtain ⟨z0, rfl, hz0⟩ := hz
  have h9 := b9 _ _ (s8 _ _ (b7 _ _ h6 nP.1 nP.2)) nP.1 nP.2
  have b09 := ((b6.trans b7).trans (But.of s8)).trans b9
  clear b7 s8 b9 b6 D7 D6 h6 hv n3 hp3
  have ll : (ts.map V.int).length = N := by rw [List.length_map, lts]
  have ix : ixN (ts.map V.int).length 0 = some 0 := by
    unfold ixN
    rw [ll]
    have h : (0 : Int) < (N : Int) := by omega
    simp only [h]
    rfl
  refine ⟨_, rfl, P, _, 0, 0, rfl, rfl, h9, ix, ?_⟩
  have eset : (ts.map V.int).set 0 (V.int z0) = (ts.set 0 z0).map V.int := List.map_set.symm
  rw [eset]
  have sts' : ∀ x ∈ ts.set 0 z0, x.natAbs ≤ 4 := fun x hx => by
    rcases List.mem_or_eq_of_mem_set hx with h | h
    · exact sts x h
    · rw [h]; exact hz0
  have lts' : (ts.set 0 z0).length = N := by rw [List.length_set, lts]
  generalize ts.set 0 z0 = us at sts' lts' ⊢
  have D10 := D9.updN (o := .lst (us.map V.int)) nP.1 nP.2
  have b10 := b09.updN (o := .lst (us.map V.int)) hPn
  have h10 : (upd H9 P (.lst (us.map V.int))) P = some (.lst (us.map V.int)) := upd_same
  generalize upd H9 P (.lst (us.map V.int)) = H10 at D10 b10 h10
  clear D9 b09 h9 ix eset ll sts lts ts
  have lu : (us.map V.int).length = N := by rw [List.length_map, lts']
  have cm : ∀ x : Int, x.natAbs ≤ 4 → CMulW (1 + fc) x := fun x hx => mul2 (Nat.lt_of_le_of_lt (by omega : _ ≤ 10) (by decide)) (Nat.lt_of_le_of_lt (by omega : _ ≤ 10) (by decide))
  refine ⟨_, rfl, _, rfl, _, _, rfl, rfl, cm bt (by omega), ?_⟩
  refine ⟨_, rfl, P, rfl, ⟨_, SqL.of h10⟩, fun E1 hE1 => ?_⟩
  refine lc_list (K := K) (a := P) (xs := us.map V.int) (fun i H' => Same H10 H' ∧ H' E1 = some (.lst ((Ft.sc (1 + fc) (us.take i)).map V.int))) ⟨Same.upd_new hE1, upd_same⟩ (fun i H' _ ⟨k2, _⟩ => SqL.of (k2 _ _ h10)) ?_ ?_
  · rintro i x H11 hx ⟨k2, h2⟩
    obtain ⟨z, rfl, hz⟩ := int_at hx
    have hi := (List.getElem?_eq_some_iff.mp hz).1
    refine ⟨rfl, _, rfl, _, rfl, _, _, rfl, rfl, cm z (sts' z (List.mem_of_getElem? hz)), _, h2, ?_, fun b o e => ?_, ?_⟩
    · unfold Ft.sc
      rw [List.length_map, List.length_map, List.length_take]
      exact Nat.lt_of_le_of_lt (by omega : _ ≤ 400) (by decide)
    · rw [upd_ne (ne_of_none e hE1)]
      exact k2 _ _ e
    · rw [upd_same, take_snoc hz]
      unfold Ft.sc
      rw [List.map_append, List.map_append]
      rfl
  rintro H11 ⟨k11, h11⟩
  rw [lu, ← lts', List.take_length] at h11
  refine ⟨E1, _, rfl, .inl ⟨SqL.of h11, fun T1 hT1 => ?_⟩⟩
  have s12 : Same H11 (upd H11 T1 (.tup ((Ft.sc (1 + fc) us).map V.int))) := Same.upd_new hT1
  have h12 : (upd H11 T1 (.tup ((Ft.sc (1 + fc) us).map V.int))) T1 = some (.tup ((Ft.sc (1 + fc) us).map V.int)) := upd_same
  generalize upd H11 T1 (.tup ((Ft.sc (1 + fc) us).map V.int)) = H12 at s12 h12
  refine ⟨(by show (2 : Nat) ≤ sizeLine; decide), fun T2 hT2 => ?_⟩
  have s13 : Same H12 (upd H12 T2 (.tup [V.int ((1 + fc) * bt), V.ref T1])) := Same.upd_new hT2
  have k13 := k11.trans (s12.trans s13)
  have ls : (Ft.sc (1 + fc) us).length = N := by rw [sc_len, lts']
  have g1 : 1 ≤ (1 + fc) * bt := Int.mul_le_mul (a := 1) (b := 1) (by omega) t1 (by decide) (by omega)
  have g2 : (1 + fc) * bt ≤ 9 := Int.mul_le_mul (c := 3) (d := 3) (by omega) t2 (by omega) (by decide)
  refine q _ _ ((1 + fc) * bt) N (fn (Ft.sc (1 + fc) us)) (D10.same k13) (b10.trans (But.of k13)) ⟨T2, T1, rfl, upd_same, ?_⟩ g1 g2 N1 N2 (fn_le fun x hx => ?_)
  · rw [← ls, rg_fn]
    exact s13 _ _ h12
  · obtain ⟨t, ht, rfl⟩ := List.mem_map.mp hx
    rw [Int.natAbs_mul]
    exact Nat.mul_le_mul (by omega : (1 + fc).natAbs ≤ 3) (sts' t ht)
end
end Ft

set_option exponentiation.threshold 9000
namespace Ft
open PySem L2
theorem sp_pow {H : Hp} {v : V} {b : Int} {M N : Nat} {f : Nat → Int} {k : Int} {Q : VK} {E : XK} (hv : Bg H v b (rg M f)) (b1 : 1 ≤ b) (M1 : 1 ≤ M) (M2 : M ≤ 120) (hN : N < 2 ^ 100) (bN : b.natAbs ≤ N) (fN : ∀ n, (f n).natAbs ≤ N) (f0 : k < 0 → f 0 ≠ 0) (k24 : k.natAbs ≤ 24) (kb : k < 0 → bdP N M k < 2 ^ 13000)
    (q : ∀ H' u B z, Same H H' → Bg H' u B (rg M z) → Pw M b f k.toNat (-k).toNat B z → B.natAbs ≤ bdP N M k → (∀ n, (z n).natAbs ≤ bdP N M k) → Q u H') : sp_powerR [v, .int k] H Q E := by
  refine ⟨v, b, M, N, f, k, rfl, hv, b1, M1, M2, hN, bN, fN, f0, k24, kb, fun H' u c z s c0 g zp bc bz => ?_⟩
  obtain ⟨z', e, P, B⟩ := zp.cut c0
  rw [e] at g
  exact q _ _ _ z' s g P (Nat.le_trans (Int.natAbs_ediv_le_natAbs _ _) bc) (B _ bz)
theorem bd12 {M : Nat} {k : Int} (h : (M ≤ 12 ∧ k.natAbs ≤ 24) ∨ (M ≤ 60 ∧ k.natAbs ≤ 6) ∨ (M ≤ 120 ∧ k.natAbs ≤ 4)) : bdP 12 M k < 2 ^ 1900 := by
  have hM : M ≤ 120 := by omega
  have hk : k.natAbs ≤ 24 := by omega
  have hp : k.natAbs * M ≤ 480 := by
    rcases h with ⟨a, c⟩ | ⟨a, c⟩ | ⟨a, c⟩
    · exact Nat.le_trans (Nat.mul_le_mul c a) (by decide)
    · exact Nat.le_trans (Nat.mul_le_mul c a) (by decide)
    · exact Nat.mul_le_mul c a
  have hs : M + k.natAbs ≤ 144 := by omega
  unfold bdP
  split
  · refine Nat.lt_of_lt_of_le (two_pow_lt (a := 11) (k := 300) (Nat.lt_of_le_of_lt (Nat.mul_le_mul_right 12 hM) (by decide)) (by omega)) (Nat.pow_le_pow_right (by decide) (by decide))
  · have a := Nat.pow_le_pow_right (show 0 < 2 by decide) hp
    have c : 12 ^ (M + k.natAbs) < 2 ^ 600 := two_pow_lt (a := 4) (by decide) (by omega)
    generalize 12 ^ (M + k.natAbs) = y at c
    generalize 2 ^ (k.natAbs * M) = x at a
    refine Nat.lt_of_le_of_lt (Nat.mul_le_mul a (Nat.le_of_lt c)) ?_
    rw [← Nat.pow_add]
    exact Nat.pow_lt_pow_right (by decide) (by decide)
theorem bd30 {N M : Nat} {k : Int} (hN : N < 2 ^ 100) (h : (M ≤ 12 ∧ k.natAbs ≤ 24) ∨ (M ≤ 120 ∧ -1 ≤ k)) (k0 : k < 0) : bdP N M k < 2 ^ 13000 := by
  have hp : k.natAbs * M ≤ 288 := by
    rcases h with ⟨a, c⟩ | ⟨a, c⟩
    · exact Nat.mul_le_mul c a
    · exact Nat.le_trans (Nat.mul_le_mul (by omega : k.natAbs ≤ 1) a) (by decide)
  have hs : M + k.natAbs ≤ 121 := by omega
  unfold bdP
  rw [if_neg (by omega)]
  have a := Nat.pow_le_pow_right (show 0 < 2 by decide) hp
  have c : N ^ (M + k.natAbs) < 2 ^ 12200 := two_pow_lt hN (by omega)
  generalize N ^ (M + k.natAbs) = y at c
  generalize 2 ^ (k.natAbs * M) = x at a
  refine Nat.lt_of_le_of_lt (Nat.mul_le_mul a (Nat.le_of_lt c)) ?_
  rw [← Nat.pow_add]
  exact Nat.pow_lt_pow_right (by decide) (by decide)
theorem toNat_neg (n : Nat) : (-(n : Int)).toNat = 0 := by omega
theorem mulS (j k : Int) : j.toNat * k.toNat + (-j).toNat * (-k).toNat + (-(j * k)).toNat = (j * k).toNat + (j.toNat * (-k).toNat + (-j).toNat * k.toNat) := by
  have e : ∀ a c : Nat, ((a : Int) * (c : Int)) = ((a * c : Nat) : Int) := fun a c => (Int.natCast_mul a c).symm
  obtain ⟨a, rfl | rfl⟩ := j.eq_nat_or_neg <;> obtain ⟨c, rfl | rfl⟩ := k.eq_nat_or_neg
  · rw [e, toNat_neg, toNat_neg, toNat_neg, Int.toNat_natCast, Int.toNat_natCast, Int.toNat_natCast]; simp
  · rw [Int.mul_neg, e, Int.neg_neg, Int.neg_neg, toNat_neg, toNat_neg, toNat_neg, Int.toNat_natCast, Int.toNat_natCast, Int.toNat_natCast]; simp
  · rw [Int.neg_mul, e, Int.neg_neg, Int.neg_neg, toNat_neg, toNat_neg, toNat_neg, Int.toNat_natCast, Int.toNat_natCast, Int.toNat_natCast]; simp
  · rw [Int.neg_mul_neg, e, Int.neg_neg, Int.neg_neg, toNat_neg, toNat_neg, toNat_neg, Int.toNat_natCast, Int.toNat_natCast, Int.toNat_natCast]; simp
theorem Pw.fn {M p q : Nat} {b B : Int} {f z : Nat → Int} (h : Pw M b f p q B z) : Pw M b f p q B (Ft.fn (rg M z)) := by
  have e : rg M (Ft.fn (rg M z)) = rg M z := rg_congr (fn_rg M z)
  exact ⟨h.pos, h.zp.congrZ (fn_rg M z).symm, by rw [e]; exact h.lb, by rw [e]; exact h.lt⟩
theorem rg_fn' (M : Nat) (z : Nat → Int) : rg M (fn (rg M z)) = rg M z := rg_congr (fn_rg M z)
theorem low0 {M : Nat} {c : Int} {z w : Nat → Int} (M1 : 1 ≤ M) (c0 : 0 < c) (h : lowT c (rg M z) = rg M w) (z0 : z 0 ≠ 0) : w 0 ≠ 0 := fun e => by
  obtain ⟨g, g0, e1, e2⟩ := low_back (rg M z) c0
  rw [h] at e2
  have := congrArg (fun t => fn t 0) e2
  unfold rg at this
  rw [sc_range] at this
  have a := fn_rg M z 0 M1
  have d := fn_rg M (fun i => g * w i) 0 M1
  unfold rg at a d
  rw [a, d] at this
  have d2 : (fun i => g * w i) 0 = g * w 0 := rfl
  rw [d2, e, Int.mul_zero] at this
  exact z0 this
def JJ (M : Nat) (j k : Int) : Prop := (M ≤ 12 ∧ -2 ≤ j ∧ j ≤ 4 ∧ -2 ≤ k ∧ k ≤ 4) ∨ (M ≤ 120 ∧ -1 ≤ j ∧ j ≤ 2 ∧ -1 ≤ k ∧ k ≤ 2)
theorem JJ.mul {M : Nat} {j k : Int} (h : JJ M j k) : (M ≤ 12 ∧ (j * k).natAbs ≤ 24) ∨ (M ≤ 60 ∧ (j * k).natAbs ≤ 6) ∨ (M ≤ 120 ∧ (j * k).natAbs ≤ 4) := by
  have hj : j = -2 ∨ j = -1 ∨ j = 0 ∨ j = 1 ∨ j = 2 ∨ j = 3 ∨ j = 4 := by unfold JJ at h; omega
  unfold JJ at h
  rcases hj with rfl | rfl | rfl | rfl | rfl | rfl | rfl <;> omega
theorem JJ.add {M : Nat} {j k : Int} (h : JJ M j k) : (M ≤ 12 ∧ (j + k).natAbs ≤ 24) ∨ (M ≤ 60 ∧ (j + k).natAbs ≤ 6) ∨ (M ≤ 120 ∧ (j + k).natAbs ≤ 4) := by
  unfold JJ at h
  omega
theorem JJ.one {M : Nat} {j k : Int} (h : JJ M j k) : (M ≤ 12 ∧ j.natAbs ≤ 24) ∨ (M ≤ 60 ∧ j.natAbs ≤ 6) ∨ (M ≤ 120 ∧ j.natAbs ≤ 4) := by
  unfold JJ at h
  omega
theorem JJ.symm {M : Nat} {j k : Int} (h : JJ M j k) : JJ M k j := by
  unfold JJ at h ⊢
  omega
theorem JJ.big {M : Nat} {j k : Int} (h : JJ M j k) : (M ≤ 12 ∧ j.natAbs ≤ 24) ∨ (M ≤ 120 ∧ -1 ≤ j) := by
  unfold JJ at h
  omega
/-- where a power below 0 is taken, the first term is not 0 -/
theorem nz_mul {f0 : Int} {j k : Int} (h : j < 0 ∨ k < 0 → f0 ≠ 0) (e : j * k < 0) : f0 ≠ 0 := by
  refine h ?_
  rcases Int.lt_or_le j 0 with a | a
  · exact .inl a
  · rcases Int.lt_or_le k 0 with c | c
    · exact .inr c
    · exact absurd (Int.mul_nonneg a c) (by omega)
/-- of a sum or a product of exponents: two forms of one power -/
theorem Pw.sum {M : Nat} {b B B' : Int} {f z z' : Nat → Int} {j k : Int} (h : Pw M b f (j.toNat + k.toNat) ((-j).toNat + (-k).toNat) B z) (h' : Pw M b f (j + k).toNat (-(j + k)).toNat B' z') (b0 : b ≠ 0) (f0 : j < 0 ∨ k < 0 → f 0 ≠ 0) : B = B' ∧ rg M z = rg M z' := by
  refine h.uniq h' (by omega) b0 ?_
  by_cases e : j < 0 ∨ k < 0
  · exact .inl (f0 e)
  · exact .inr ⟨by omega, by omega⟩
theorem Pw.prod {M : Nat} {b B B' : Int} {f z z' : Nat → Int} {j k : Int} (h : Pw M b f (j.toNat * k.toNat + (-j).toNat * (-k).toNat) (j.toNat * (-k).toNat + (-j).toNat * k.toNat) B z) (h' : Pw M b f (j * k).toNat (-(j * k)).toNat B' z') (b0 : b ≠ 0) (f0 : j < 0 ∨ k < 0 → f 0 ≠ 0) : B = B' ∧ rg M z = rg M z' := by
  refine h.uniq h' (mulS j k) b0 ?_
  by_cases e : j < 0 ∨ k < 0
  · exact .inl (f0 e)
  · have a : (-j).toNat = 0 := by omega
    have c : (-k).toNat = 0 := by omega
    have d : 0 ≤ j * k := Int.mul_nonneg (by omega) (by omega)
    exact .inr ⟨by rw [a, c, Nat.mul_zero, Nat.zero_mul], by omega⟩
theorem pw_ex {M N : Nat} {b : Int} {f : Nat → Int} (k : Int) (b1 : 1 ≤ b) (M1 : 1 ≤ M) (N1 : 1 ≤ N) (bN : b.natAbs ≤ N) (fN : ∀ n, (f n).natAbs ≤ N) (f0 : k < 0 → f 0 ≠ 0) : ∃ B z, Pw M b f k.toNat (-k).toNat B z ∧ B.natAbs ≤ bdP N M k ∧ ∀ n, (z n).natAbs ≤ bdP N M k := by
  rcases Int.lt_or_le k 0 with kn | kp
  · have F0 := f0 kn
    obtain ⟨k0, rfl⟩ : ∃ k0 : Nat, k = -(k0 : Int) := ⟨k.natAbs, by omega⟩
    have K1 : 1 ≤ k0 := by omega
    have ek : (-(k0 : Int)).natAbs = k0 := by omega
    have bd : bdP N M (-(k0 : Int)) = 2 ^ (k0 * M) * N ^ (M + k0) := by unfold bdP; rw [if_neg (by omega), ek]
    obtain ⟨ba1, ba2⟩ := below_abs (M := M) K1 N1 bN fN
    have c0 : f 0 ^ (M - 1 + k0) ≠ 0 := Int.pow_ne_zero F0
    have zp := below_Zp (B := b) (K := k0) (last := M - 1) (f := f) rfl F0
    rw [show M - 1 + 1 = M by omega] at zp
    generalize belowR b (f 0) f k0 (M - 1) = z at zp ba2
    generalize f 0 ^ (M - 1 + k0) = c at zp ba1 c0
    have key : ∃ c' z', 0 < c' ∧ Zp M b f 0 k0 c' z' ∧ c'.natAbs = c.natAbs ∧ ∀ n, (z' n).natAbs = (z n).natAbs := by
      by_cases hc : c < 0
      · refine ⟨-c, fun n => -z n, by omega, Zp.scale (g := -1) ?_ (by decide), by omega, fun n => by show (-z n).natAbs = _; omega⟩
        rw [show (-1 : Int) * -c = c by omega]
        exact zp.congrZ fun n _ => by show z n = -1 * -z n; omega
      · exact ⟨c, z, by omega, zp, rfl, fun _ => rfl⟩
    obtain ⟨c', z', c0', zp', e1, e2⟩ := key
    obtain ⟨y, _, P, Y⟩ := zp'.cut c0'
    have P' : Pw M b f (-(k0 : Int)).toNat (- -(k0 : Int)).toNat (lowB c' (rg M z')) y := by
      rw [toNat_neg, Int.neg_neg, Int.toNat_natCast]
      exact P
    exact ⟨_, y, P', Nat.le_trans (Int.natAbs_ediv_le_natAbs _ _) (by rw [bd, e1]; exact ba1), Y _ fun n hn => by rw [bd, e2]; exact ba2 n hn⟩
  · obtain ⟨n, rfl⟩ := Int.eq_ofNat_of_zero_le kp
    have bd : bdP N M ((n : Nat) : Int) = (M * N) ^ n := by unfold bdP; rw [if_pos (by omega), Int.toNat_natCast]
    obtain ⟨y, _, P, Y⟩ := (Zp.up M n b f).cut (Int.pow_pos (by omega))
    have P' : Pw M b f ((n : Nat) : Int).toNat (-((n : Nat) : Int)).toNat (lowB (b ^ n) (rg M (np f n))) y := by
      rw [toNat_neg, Int.toNat_natCast]
      exact P
    refine ⟨_, y, P', Nat.le_trans (Int.natAbs_ediv_le_natAbs _ _) ?_, Y _ fun m hm => by rw [bd]; exact np_abs (fun n _ => fN n) n m hm⟩
    · rw [bd, Int.natAbs_pow]
      exact Nat.pow_le_pow_left (Nat.le_trans bN (Nat.le_mul_of_pos_left N M1)) n
/-- of a product of two short rows -/
theorem prod_small {M : Nat} {B1 B2 : Int} {z1 z2 : Nat → Int} (M2 : M ≤ 120) (h1 : BgN (10 ^ 30) B1 (rg M z1)) (h2 : BgN (10 ^ 30) B2 (rg M z2)) : (lowB (B1 * B2) (mulL (rg M z1) (rg M z2))).natAbs < 2 ^ 1900 ∧ ∀ x ∈ lowT (B1 * B2) (mulL (rg M z1) (rg M z2)), x.natAbs < 2 ^ 1900 := by
  have e30 : (10 ^ 30 : Int).toNat = 10 ^ 30 := by decide
  unfold BgN at h1 h2
  rw [e30] at h1 h2
  have zs : ∀ {z : Nat → Int}, (∀ x ∈ rg M z, x.natAbs < 10 ^ 30) → ∀ n, n < M → (z n).natAbs ≤ 10 ^ 30 := fun h n hn => Nat.le_of_lt (h _ (List.mem_map.mpr ⟨n, List.mem_range.mpr hn, rfl⟩))
  refine low_big ?_ ?_
  · rw [Int.natAbs_mul]
    exact Nat.lt_of_le_of_lt (Nat.mul_le_mul (Nat.le_of_lt h1.1) (Nat.le_of_lt h2.1)) (by decide)
  · rw [mulL_rg]
    intro x hx
    obtain ⟨n, hn, rfl⟩ := List.mem_map.mp hx
    have := conv_abs (zs h1.2) (zs h2.2) n (List.mem_range.mp hn)
    exact Nat.lt_of_le_of_lt (Nat.le_trans this (Nat.mul_le_mul_right _ M2)) (by decide)
end Ft

set_option exponentiation.threshold 9000
namespace Ft
open PySem L2
theorem e30 : (10 ^ 30 : Int).toNat = 1000000000000000000000000000000 := by decide
theorem BgN.b2 {b : Int} {ts : List Int} (h : BgN (10 ^ 30) b ts) : B2 b ts := by
  unfold BgN at h
  rw [e30] at h
  exact ⟨Nat.lt_trans h.1 (by decide), fun x hx => Nat.lt_trans (h.2 x hx) (by decide)⟩
theorem neS {z : V} {A B : Prop} (h : B) : if (!decide (z = z)) = true then A else B := by rw [decide_eq_true rfl]; exact iteF h
/-- of a power of a small beginning: small enough to be shown -/
theorem small_of {N : Nat} {B : Int} {M : Nat} {z : Nat → Int} (h : N < 2 ^ 1900) (hB : B.natAbs ≤ N) (hz : ∀ n, (z n).natAbs ≤ N) : B.natAbs < 2 ^ 1900 ∧ ∀ x ∈ rg M z, x.natAbs < 2 ^ 1900 := ⟨Nat.lt_of_le_of_lt hB h, fun x hx => by
  obtain ⟨n, _, rfl⟩ := List.mem_map.mp hx
  exact Nat.lt_of_le_of_lt (hz n) h⟩
def sp_together : Sp := fun vs H Q _ => ∃ (v u : V) (b : Int) (M : Nat) (f g : Nat → Int) (j k : Int), vs = [v, u, .int j, .int k] ∧ Bg H v b (rg M f) ∧ Bg H u b (rg M g) ∧ 1 ≤ b ∧ b ≤ 9 ∧ 1 ≤ M ∧ M ≤ 120 ∧ (∀ n, (f n).natAbs ≤ 12) ∧ (∀ n, (g n).natAbs ≤ 12) ∧ g 0 ≠ 0 ∧ (j < 0 ∨ k < 0 → f 0 ≠ 0) ∧ JJ M j k ∧ ∀ H', Same H H' → Q (.bl true) H'
section
variable {P : Program} {w : World} {K : PySem.W.Frag} {mg : Str → Option Value} {base : Heap}
set_option maxHeartbeats 0 in
theorem fn_together {f : Addr} {fd : FuncData} (F : Fun K "_law_are_together" "_law_are_together" s__law_are_together f fd) (B : Bi mg) (c_power : Cal P w K mg base 5 "power" sp_powerR) (c_multiplied : Cal P w K mg base 5 "multiplied" (sp_bin fun _ t1 _ t2 => mulL t1 t2)) (c__law_is_short : Cal P w K mg base 1 "_law_is_short" sp_short) : FnG P w K mg base 7 f fd ["_law_one", "_law_other", "_law_j", "_law_k"] sp_together := by
  have sc := sc__law_are_together
  refine fun_g F sc (fun _ _ _ _ ⟨_, _, _, _, _, _, _, _, e, _⟩ => by rw [e]; rfl) (fun cdv A outer s H vs Q E hgd hr h => ?_)
  obtain ⟨v, u, b, M, f, g, j, k, rfl, hv, hu, b1, b9, M1, M2, fN, gN, g0, f0, jj, q⟩ := h
  refine ⟨_, (pss_cons (ps_par (i := 4) (j := 5) (by rfl) sc.nd rfl rfl (by decide) rfl rfl (pa_cons (pe_c c_power hr (by decide) (by rfl) (pa_cons (pv 0) (pa_cons (pv 2) pa_nil))) (pa_cons (pe_c c_power hr (by decide) (by rfl) (pa_cons (pv 0) (pa_cons (pv 3) pa_nil))) pa_nil)) (by rfl))
      (pss_cons (ps_if (PW.pt (pw_and (pt_val (pe_c c__law_is_short hr (by decide) (by rfl) (pa_cons (pv 4) pa_nil))) (pw_and (pt_val (pe_c c__law_is_short hr (by decide) (by rfl) (pa_cons (pv 5) pa_nil))) (pw_and (pt_cmpR op_lt (pe_callB call_abs (by rfl) B.abs (by decide +kernel) (pa_cons (pe_op op_add (pv 2) (pv 3)) pa_nil)) pe_int (nomark _)) (pw_and1 (pt_cmpR op_ne (pe_callB (call_repr hgd hr) (by rfl) B.repr (by decide +kernel) (pa_cons (pe_c c_multiplied hr (by decide) (by rfl) (pa_cons (pv 4) (pa_cons (pv 5) pa_nil))) pa_nil)) (pe_callB (call_repr hgd hr) (by rfl) B.repr (by decide +kernel) (pa_cons (pe_c c_power hr (by decide) (by rfl) (pa_cons (pv 0) (pa_cons (pe_op op_add (pv 2) (pv 3)) pa_nil))) pa_nil)) (nomark _)))))))
      (pss_one (ps_ret pe_bl))
      pss_nil)
      (pss_cons (ps_if (PW.pt (pw_and (pt_val (pe_c c__law_is_short hr (by decide) (by rfl) (pa_cons (pv 4) pa_nil))) (pw_and (pt_cmpR op_lt (pe_callB call_abs (by rfl) B.abs (by decide +kernel) (pa_cons (pe_op op_mulW (pv 2) (pv 3)) pa_nil)) pe_int (nomark _)) (pw_and1 (pt_cmpR op_ne (pe_callB (call_repr hgd hr) (by rfl) B.repr (by decide +kernel) (pa_cons (pe_c c_power hr (by decide) (by rfl) (pa_cons (pv 4) (pa_cons (pv 3) pa_nil))) pa_nil)) (pe_callB (call_repr hgd hr) (by rfl) B.repr (by decide +kernel) (pa_cons (pe_c c_power hr (by decide) (by rfl) (pa_cons (pv 0) (pa_cons (pe_op op_mulW (pv 2) (pv 3)) pa_nil))) pa_nil)) (nomark _))))))
      (pss_one (ps_ret pe_bl))
      pss_nil)
      (pss_cons (ps_set (i := 6) sc.nd rfl (Or.inl rfl) (pe_c c_multiplied hr (by decide) (by rfl) (pa_cons (pv 0) (pa_cons (pv 1) pa_nil))))
      (pss_cons (ps_if (PW.pt (pw_or (pt_cmpR op_ne (pe_callB call_len_seq (by rfl) B.len_ (by decide +kernel) (pa_cons (pe_ix (show IxR _ (rIx K) from ix_seq) (pv 0) pe_int (fun _ _ => rfl)) pa_nil)) (pe_callB call_len_seq (by rfl) B.len_ (by decide +kernel) (pa_cons (pe_ix (show IxR _ (rIx K) from ix_seq) (pv 1) pe_int (fun _ _ => rfl)) pa_nil)) (nomark _)) (pw_or1 (pt_not (pt_val (pe_c c__law_is_short hr (by decide) (by rfl) (pa_cons (pv 6) pa_nil)))))))
      (pss_one (ps_ret pe_bl))
      pss_nil)
      (pss_cons (ps_set (i := 7) sc.nd rfl (Or.inl rfl) (pe_c c_power hr (by decide) (by rfl) (pa_cons (pv 1) (pa_cons (pv 2) pa_nil))))
      (pss_cons (ps_if (PW.pt (pw_or (pt_not (pt_val (pe_c c__law_is_short hr (by decide) (by rfl) (pa_cons (pv 4) pa_nil)))) (pw_or1 (pt_not (pt_val (pe_c c__law_is_short hr (by decide) (by rfl) (pa_cons (pv 7) pa_nil)))))))
      (pss_one (ps_ret pe_bl))
      pss_nil)
      (pss_one (ps_ret (pe_cmpR op_eq (pe_callB (call_repr hgd hr) (by rfl) B.repr (by decide +kernel) (pa_cons (pe_c c_multiplied hr (by decide) (by rfl) (pa_cons (pv 4) (pa_cons (pv 7) pa_nil))) pa_nil)) (pe_callB (call_repr hgd hr) (by rfl) B.repr (by decide +kernel) (pa_cons (pe_c c_power hr (by decide) (by rfl) (pa_cons (pv 6) (pa_cons (pv 2) pa_nil))) pa_nil)) (nomark _))))))))))), ?_⟩
  have b0 : b ≠ 0 := by omega
  have bN : b.natAbs ≤ 12 := by omega
  have okr : ∀ {B : Int} {z : Nat → Int}, 1 ≤ B → BgOk B (rg M z) := fun h => ⟨h, by rw [rg_len]; exact M1, by rw [rg_len]; omega⟩
  have N12 : (12 : Nat) < 2 ^ 100 := by decide
  have two : ∀ {x : Int}, (M ≤ 12 ∧ x.natAbs ≤ 24) ∨ (M ≤ 60 ∧ x.natAbs ≤ 6) ∨ (M ≤ 120 ∧ x.natAbs ≤ 4) → x.natAbs ≤ 24 ∧ bdP 12 M x < 2 ^ 13000 := fun h => ⟨by omega, Nat.lt_trans (bd12 h) (Nat.pow_lt_pow_right (by decide) (by decide))⟩
  refine ⟨_, rfl, _, rfl, ?_⟩
  refine sp_pow (E := E0) (N := 12) hv b1 M1 M2 N12 bN fN (fun e => f0 (.inl e)) (two jj.one).1 (fun _ => (two jj.one).2) fun H1 x1 B1 z1 s1 hx1 P1 cb1 cz1 => ?_
  refine ⟨_, rfl, _, rfl, ?_⟩
  refine sp_pow (E := E0) (N := 12) (hv.same s1) b1 M1 M2 N12 bN fN (fun e => f0 (.inr e)) (two jj.symm.one).1 (fun _ => (two jj.symm.one).2) fun H2 x2 B2' z2 s2 hx2 P2 cb2 cz2 => ?_
  replace hx1 := hx1.same s2
  have hv2 := hv.same (s1.trans s2)
  have hu2 := hu.same (s1.trans s2)
  refine ⟨_, _, rfl, ?_⟩
  dsimp only [gName]
  have c30 : (10 ^ 30 : Int).toNat < 2 ^ 100 := by decide
  have fnN : ∀ {B : Int} {z : Nat → Int}, BgN (10 ^ 30) B (rg M z) → B.natAbs ≤ (10 ^ 30 : Int).toNat ∧ ∀ n, (fn (rg M z) n).natAbs ≤ (10 ^ 30 : Int).toNat := fun h => ⟨Nat.le_of_lt h.1, fn_le fun x hx => Nat.le_of_lt (h.2 x hx)⟩
  have ll4 : ∀ z : Nat → Int, (rg M z).length ≤ 400 := fun z => by rw [rg_len]; omega
  have s02 := s1.trans s2
  refine tSeq_join (fun σ H' => Same H2 H' ∧ σ = [some v, some u, some (.int j), some (.int k), some x1, some x2, none, none]) (fun N hN => ?_) ?_
  · refine ⟨_, rfl, x1, B1, _, rfl, hx1, okr P1.pos, fun H3 c3 s3 sh1 => ⟨_, rfl, ?_⟩⟩
    cases c3 with
    | false => exact iteF (iteF (hN _ _ ⟨s3, rfl⟩))
    | true =>
    refine iteT ?_
    refine ⟨_, rfl, x2, B2', _, rfl, hx2.same s3, okr P2.pos, fun H4 c4 s4 sh2 => ⟨_, rfl, ?_⟩⟩
    have s34 := s3.trans s4
    cases c4 with
    | false => exact iteF (iteF (hN _ _ ⟨s34, rfl⟩))
    | true =>
    refine iteT ?_
    refine ⟨_, rfl, _, rfl, _, _, rfl, rfl, _, rfl, _, _, rfl, rfl, _, rfl, ifD (fun _ => ?_) fun _ => ?_⟩
    · have sh1 := sh1 rfl
      have sh2 := sh2 rfl
      have b1' := sh1.b2
      have b2' := sh2.b2
      refine ⟨_, rfl, _, rfl, x1, x2, B1, _, B2', _, rfl, hx1.same s34, hx2.same s34, okr P1.pos, okr P2.pos, b1'.1, b2'.1, b1'.2, b2'.2, fun H5 x5 s5 h5 => ?_⟩
      obtain ⟨y, ey, Py⟩ := P1.mul P2
      obtain ⟨B6, z6, P6, cb6, cz6⟩ := pw_ex (M := M) (N := 12) (j + k) b1 M1 (by decide) bN fN (fun e => f0 (by omega))
      obtain ⟨e1, e2⟩ := Py.sum P6 b0 f0
      rw [ey, e1, e2] at h5
      obtain ⟨sm1, sm2⟩ := small_of (M := M) (bd12 jj.add) cb6 cz6
      dsimp only [tNil, tCons, tC, List.cons_append, List.nil_append]
      refine rep_big h5 sm1 sm2 (ll4 _) fun w1 ew1 => ?_
      refine ⟨_, rfl, _, rfl, _, rfl, _, _, rfl, rfl, ?_⟩
      refine sp_pow (E := E0) (N := 12) (hv2.same (s34.trans s5)) b1 M1 M2 N12 bN fN (fun e => f0 (by omega)) (two jj.add).1 (fun _ => (two jj.add).2) fun H6 x6 B7 z7 s6 h6 P7 _ _ => ?_
      obtain ⟨e3, e4⟩ := P7.uniq P6 rfl b0 (by
        by_cases e : j < 0 ∨ k < 0
        · exact .inl (f0 e)
        · exact .inr ⟨by omega, by omega⟩)
      rw [e3, e4] at h6
      dsimp only [tNil, tCons, tC, List.cons_append, List.nil_append]
      refine rep_big h6 sm1 sm2 (ll4 _) fun w2 ew2 => ?_
      obtain rfl : w2 = w1 := ew2.trans ew1.symm
      refine ⟨rfl, _, rfl, neS ?_⟩
      exact hN _ _ ⟨s34.trans (s5.trans s6), rfl⟩
    · exact hN _ _ ⟨s34, rfl⟩
  rintro _ H3 ⟨s3, rfl⟩
  replace hx1 := hx1.same s3
  replace hx2 := hx2.same s3
  replace hv2 := hv2.same s3
  replace hu2 := hu2.same s3
  replace s02 := s02.trans s3
  clear s1 s2 s3 hv hu H1 H2
  have jkb : j.natAbs < 2 ^ 2000 ∧ k.natAbs < 2 ^ 2000 := ⟨Nat.lt_of_le_of_lt (two jj.one).1 (by decide), Nat.lt_of_le_of_lt (two jj.symm.one).1 (by decide)⟩
  refine tSeq_join (fun σ H' => Same H3 H' ∧ σ = [some v, some u, some (.int j), some (.int k), some x1, some x2, none, none]) (fun N hN => ?_) ?_
  · refine ⟨_, rfl, x1, B1, _, rfl, hx1, okr P1.pos, fun H4 c4 s4 sh1 => ⟨_, rfl, ?_⟩⟩
    cases c4 with
    | false => exact iteF (iteF (hN _ _ ⟨s4, rfl⟩))
    | true =>
    refine iteT ?_
    refine ⟨_, rfl, _, rfl, _, _, rfl, rfl, mul2 jkb.1 jkb.2, _, rfl, _, _, rfl, rfl, _, rfl, ifD (fun _ => ?_) fun _ => ?_⟩
    · have sh1 := sh1 rfl
      obtain ⟨nB, nz⟩ := fnN sh1
      refine ⟨_, rfl, _, rfl, ?_⟩
      refine sp_pow (E := E0) (f := fn (rg M z1)) (by rw [rg_fn']; exact hx1.same s4) P1.pos M1 M2 c30 nB nz (fun e => P1.fn.f0 M1 b0 (f0 (.inr e))) (two jj.symm.one).1 (fun e => bd30 c30 jj.symm.big e) fun H5 x5 B5 z5 s5 h5 P5 _ _ => ?_
      obtain ⟨B6, z6, P6, cb6, cz6⟩ := pw_ex (M := M) (N := 12) (j * k) b1 M1 (by decide) bN fN (fun e => nz_mul f0 e)
      obtain ⟨e1, e2⟩ := (P1.fn.pow P5).prod P6 b0 f0
      rw [e1, e2] at h5
      obtain ⟨sm1, sm2⟩ := small_of (M := M) (bd12 jj.mul) cb6 cz6
      dsimp only [tNil, tCons, tC, List.cons_append, List.nil_append]
      refine rep_big h5 sm1 sm2 (ll4 _) fun w1 ew1 => ?_
      refine ⟨_, rfl, _, rfl, _, rfl, _, _, rfl, rfl, mul2 jkb.1 jkb.2, ?_⟩
      refine sp_pow (E := E0) (N := 12) (hv2.same (s4.trans s5)) b1 M1 M2 N12 bN fN (fun e => nz_mul f0 e) (two jj.mul).1 (fun _ => (two jj.mul).2) fun H6 x6 B7 z7 s6 h6 P7 _ _ => ?_
      obtain ⟨e3, e4⟩ := P7.uniq P6 rfl b0 (by
        by_cases e : j < 0 ∨ k < 0
        · exact .inl (f0 e)
        · have d : 0 ≤ j * k := Int.mul_nonneg (by omega) (by omega)
          exact .inr ⟨by omega, by omega⟩)
      rw [e3, e4] at h6
      dsimp only [tNil, tCons, tC, List.cons_append, List.nil_append]
      refine rep_big h6 sm1 sm2 (ll4 _) fun w2 ew2 => ?_
      obtain rfl : w2 = w1 := ew2.trans ew1.symm
      refine ⟨rfl, _, rfl, neS ?_⟩
      exact hN _ _ ⟨s4.trans (s5.trans s6), rfl⟩
    · exact hN _ _ ⟨s4, rfl⟩
  rintro _ H4 ⟨s4, rfl⟩
  replace hx1 := hx1.same s4
  replace hv2 := hv2.same s4
  replace hu2 := hu2.same s4
  replace s02 := s02.trans s4
  clear hx2 s4 H3
  have sfN : ∀ {g : Nat → Int}, (∀ n, (g n).natAbs ≤ 12) → B2 b (rg M g) := fun h => B2.of (Nat.lt_of_le_of_lt bN (by decide)) fun n _ => Nat.lt_of_le_of_lt (h n) (by decide)
  refine ⟨_, rfl, _, rfl, v, u, b, _, b, _, rfl, hv2, hu2, okr b1, okr b1, (sfN fN).1, (sfN gN).1, (sfN fN).2, (sfN gN).2, fun H5 x5 s5 h5 => ?_⟩
  dsimp only [gName]
  have bb := Int.mul_pos (by omega : 0 < b) (by omega : 0 < b)
  obtain ⟨w0, hw0, ww⟩ : ∃ w0, lowT (b * b) (mulL (rg M f) (rg M g)) = rg M w0 ∧ fn (rg M w0) = w0 := by
    rw [mulL_rg]
    obtain ⟨z, hz⟩ := low_sc (b := b * b) (f := conv f g) (M := M)
    exact ⟨fn (rg M z), hz.trans (rg_fn' M z).symm, by rw [rg_fn']⟩
  have w00 : f 0 ≠ 0 → w0 0 ≠ 0 := fun e => low0 M1 bb (mulL_rg M f g ▸ hw0) (by rw [conv_0]; exact Int.mul_ne_zero e g0)
  have Bbp : 0 < lowB (b * b) (mulL (rg M f) (rg M g)) := lowB_pos bb _
  rw [hw0] at h5
  obtain ⟨p, r, rfl, hp, hrt⟩ := id (hv2.same s5)
  obtain ⟨p', r', rfl, hp', hrt'⟩ := id (hu2.same s5)
  have a1 : ∀ {a c : V}, atI [a, c] 1 = some c := fun {a c} => atI_nat (j := 1) rfl
  refine tSeq_join (fun σ H' => Same H5 H' ∧ BgN (10 ^ 30) (lowB (b * b) (mulL (rg M f) (rg M g))) (rg M w0) ∧ σ = [some (.ref p), some (.ref p'), some (.int j), some (.int k), some x1, some x2, some x5, none]) (fun N hN => ?_) ?_
  · refine ⟨_, rfl, .inr (.inl ⟨p, _, 1, _, rfl, rfl, SqT.of hp, a1, r, _, rfl, .inr (SqT.of hrt), ?_⟩)⟩
    refine ⟨_, rfl, .inr (.inl ⟨p', _, 1, _, rfl, rfl, SqT.of hp', a1, r', _, rfl, .inr (SqT.of hrt'), ?_⟩)⟩
    rw [rgV_len, rgV_len]
    refine ⟨rfl, _, rfl, ifNI (fun e => absurd rfl e) fun _ => ?_⟩
    refine ⟨_, rfl, x5, _, _, rfl, h5, okr Bbp, fun H6 c6 s6 sh => ⟨_, rfl, ?_⟩⟩
    cases c6 with
    | false => exact iteT (q _ (s02.trans (s5.trans s6)))
    | true => exact iteF (hN _ _ ⟨s6, sh rfl, rfl⟩)
  rintro _ H6 ⟨s6, shB, rfl⟩
  have s56 := s5.trans s6
  replace hx1 := hx1.same s56
  replace hu2 := hu2.same s56
  replace h5 := h5.same s6
  replace s02 := s02.trans s56
  clear s5 s6 s56 hv2 hp hrt hp' hrt' H5
  refine ⟨_, rfl, _, rfl, ?_⟩
  refine sp_pow (E := E0) (N := 12) hu2 b1 M1 M2 N12 bN gN (fun _ => g0) (two jj.one).1 (fun _ => (two jj.one).2) fun H7 x7 B3 z3 s7 h7 P3 _ _ => ?_
  dsimp only [gName]
  replace hx1 := hx1.same s7
  replace h5 := h5.same s7
  replace s02 := s02.trans s7
  refine tSeq_join (fun σ H' => Same H7 H' ∧ BgN (10 ^ 30) B1 (rg M z1) ∧ BgN (10 ^ 30) B3 (rg M z3) ∧ σ = [some (.ref p), some (.ref p'), some (.int j), some (.int k), some x1, some x2, some x5, some x7]) (fun N hN => ?_) ?_
  · refine ⟨_, rfl, x1, B1, _, rfl, hx1, okr P1.pos, fun H8 c8 s8 sh1 => ⟨_, rfl, ?_⟩⟩
    cases c8 with
    | false => exact iteT (iteT (q _ (s02.trans s8)))
    | true =>
    refine iteF ?_
    refine ⟨_, rfl, x7, B3, _, rfl, h7.same s8, okr P3.pos, fun H9 c9 s9 sh3 => ⟨_, rfl, ?_⟩⟩
    cases c9 with
    | false => exact iteT (q _ (s02.trans (s8.trans s9)))
    | true => exact iteF (hN _ _ ⟨s8.trans s9, sh1 rfl, sh3 rfl, rfl⟩)
  rintro _ H8 ⟨s8, sh1, sh3, rfl⟩
  have b1' := sh1.b2
  have b3' := sh3.b2
  refine ⟨_, rfl, _, rfl, x1, x7, B1, _, B3, _, rfl, hx1.same s8, h7.same s8, okr P1.pos, okr P3.pos, b1'.1, b3'.1, b1'.2, b3'.2, fun H9 x9 s9 h9 => ?_⟩
  obtain ⟨sm1, sm2⟩ := prod_small M2 sh1 sh3
  obtain ⟨y, ey, Py⟩ := P1.both P3 (by omega) (by omega) hw0
  rw [ey] at h9 sm2
  dsimp only [tNil, tCons, tC, List.cons_append, List.nil_append]
  refine rep_big h9 sm1 sm2 (ll4 _) fun w1 ew1 => ?_
  obtain ⟨nB, nz⟩ := fnN shB
  rw [ww] at nz
  refine ⟨_, rfl, _, rfl, ?_⟩
  have fz : j < 0 → w0 0 ≠ 0 := fun e => w00 (f0 (.inl e))
  refine sp_pow (E := E0) ((h5.same s8).same s9) Bbp M1 M2 c30 nB nz fz (two jj.one).1 (fun e => bd30 c30 jj.big e) fun H10 x10 B10 z10 s10 h10 P10 _ _ => ?_
  obtain ⟨e3, e4⟩ := P10.uniq Py rfl (Int.ne_of_gt Bbp) (by
    by_cases e : j < 0
    · exact .inl (fz e)
    · exact .inr ⟨by omega, by omega⟩)
  rw [e3, e4] at h10
  dsimp only [tNil, tCons, tC, List.cons_append, List.nil_append]
  refine rep_big h10 sm1 sm2 (ll4 _) fun w2 ew2 => ?_
  obtain rfl : w2 = w1 := ew2.trans ew1.symm
  refine ⟨rfl, ?_⟩
  rw [decide_eq_true rfl]
  exact q _ (s02.trans (s8.trans (s9.trans s10)))
end
end Ft

set_option exponentiation.threshold 9000
namespace Ft
open PySem L2
theorem kb_power {K : PySem.W.Frag} {f : Addr} {fd : FuncData} (F : Fun K "power" "power" s_power f fd) : KBinds K fd ["beginning", "k"] ["k", "beginning"] swapU swapV := by
  obtain ⟨oc, od, kV, doc, pm, an, cdv, ct, osl, rfl, lk, hcd⟩ := F.ex
  refine ⟨fun s us ws _ hl => ?_, swap_rel⟩
  match us, ws, hl with
  | [], [a, b], _ => exact .of_eq rfl
/-- two beginnings, shown -/
theorem rep_two {K : PySem.W.Frag} {H : Hp} {T : Addr} {u1 u2 : V} {b1 b2 : Int} {t1 t2 : List Int} {Q : VK} (hT : H T = some (.tup [u1, u2])) (g1 : Bg H u1 b1 t1) (g2 : Bg H u2 b2 t2) (hb1 : b1.natAbs < 2 ^ 1900) (ht1 : ∀ x ∈ t1, x.natAbs < 2 ^ 1900) (hl1 : t1.length ≤ 400)
    (hb2 : b2.natAbs < 2 ^ 1900) (ht2 : ∀ x ∈ t2, x.natAbs < 2 ^ 1900) (hl2 : t2.length ≤ 400) (q : ∀ z, z = (PyData.tuple [bgD b1 t1, bgD b2 t2]).shown → Q (.str z) H) : rRepr K [.ref T] H Q := by
  have R := (Rs.tup (RsL.cons (rs_bg hb1 ht1 hl1) (RsL.cons (rs_bg hb2 ht2 hl2) .nil))).rep (by decide) (by decide)
  exact ⟨T, _, rfl, .tup (SqT.of hT) (.cons (dp_bg g1) (.cons (dp_bg g2) .nil)), R.show_, R.dict, R.depth, R.len, q _ rfl⟩
theorem many_of {v : V} (h : v ∈ ([V.int 120] ++ (List.replicate 3 [V.int 60]).flatten) ++ (List.replicate 28 [V.int 12]).flatten) : ∃ m : Nat, v = .int (m : Int) ∧ (m = 120 ∨ m = 60 ∨ m = 12) := by
  rcases List.mem_append.mp h with h | h
  · rcases List.mem_append.mp h with h | h
    · exact ⟨120, List.mem_singleton.mp h, .inl rfl⟩
    · rw [flat_one] at h
      exact ⟨60, List.eq_of_mem_replicate h, .inr (.inl rfl)⟩
  · rw [flat_one] at h
    exact ⟨12, List.eq_of_mem_replicate h, .inr (.inr rfl)⟩
theorem DeckAt.offd {H : Hp} {d l p : Addr} {xs : List V} (D : DeckAt H d l) (h : H p = some (.tup xs)) : p ≠ d := fun e => by
  obtain ⟨mx, dr, cs, e1, e2, e3⟩ := D
  rw [e, e1] at h
  cases h
theorem DeckAt.offl {H : Hp} {d l p : Addr} {xs : List V} (D : DeckAt H d l) (h : H p = some (.tup xs)) : p ≠ l := fun e => by
  obtain ⟨mx, dr, cs, e1, e2, e3⟩ := D
  rw [e, e2] at h
  cases h
theorem Bg.but {H H' : Hp} {v : V} {b : Int} {ts : List Int} {d l : Addr} (D : DeckAt H d l) (h : Bg H v b ts) (z : But d l H H') : Bg H' v b ts := by
  obtain ⟨p, q, e, h1, h2⟩ := h
  exact ⟨p, q, e, z _ _ h1 (D.offd h1) (D.offl h1), z _ _ h2 (D.offd h2) (D.offl h2)⟩
theorem wide_div2 {i : Int} : CDivW i 2 := wide_div (b := 8000) (by decide) (by decide) (by decide) (by decide)
theorem cut_1 (xs : List V) : cutV xs (some 1) none = xs.drop 1 := by
  unfold cutV
  have e1 : HT.sIx xs.length 0 (some 1) = min 1 xs.length := by
    have := HT.sIx_nat xs.length 0 1
    rw [show ((1 : Nat) : Int) = 1 from rfl] at this
    exact this
  have e2 : HT.sIx xs.length xs.length none = xs.length := rfl
  rw [e1, e2]
  cases xs with
  | nil => rfl
  | cons x l =>
    rw [show min 1 (x :: l).length = 1 by rw [List.length_cons]; omega]
    refine List.take_of_length_le ?_
    rw [List.length_drop]
    exact Nat.le_refl _
theorem if_tC {c : Bool} {x y : V} {σ : L2.St} {H : Hp} {Kc : V → Hp → Prop} (h : ∀ z, z = x ∨ z = y → Kc z H) : if c = true then tC x σ H Kc else tC y σ H Kc := by
  cases c
  · exact iteF (h y (.inr rfl))
  · exact iteT (h x (.inl rfl))
/-- powers up to the 25th of a small beginning -/
theorem pows_small {M : Nat} {b : Int} {f : Nat → Int} (M1 : 1 ≤ M) (M2 : M ≤ 120) (bN : b.natAbs ≤ 12) (fN : ∀ n, (f n).natAbs ≤ 12) {k : Nat} (hk : k ≤ 24) : ∀ i, i ≤ k + 1 → B2 (b ^ i) (rg M (np f i)) := fun i hi => by
  refine B2.of ?_ fun n hn => ?_
  · rw [Int.natAbs_pow]
    exact Nat.lt_of_le_of_lt (Nat.pow_le_pow_left bN i) (two_pow_lt (a := 4) (by decide) (by omega))
  · refine Nat.lt_of_le_of_lt (np_abs (fun n _ => fN n) i n hn) (two_pow_lt (a := 11) (Nat.lt_of_le_of_lt (Nat.mul_le_mul_right 12 M2) (by decide)) (by omega))
def sp_law (K : PySem.W.Frag) : Sp := fun vs H Q _ => ∃ (a : Addr) (ns : List Int), vs = [.ref a] ∧ SqL K H a (ns.map V.int) ∧ ns.length ≤ 63 ∧ ∀ H', Q (.bl true) H'
section
variable {P : Program} {w : World} {K : PySem.W.Frag} {mg : Str → Option Value} {base : Heap}
set_option maxHeartbeats 0 in
theorem fn_law {f : Addr} {fd : FuncData} (F : Fun K "law" "law" s_law f fd) (B : Bi mg) (c__law_deck : Cal P w K mg base 1 "_law_deck" (sp_deck K)) (c__law_pick : Cal P w K mg base 2 "_law_pick" (sp_pick K)) (c__law_beginning : Cal P w K mg base 3 "_law_beginning" sp_begR) (c__law_draw : Cal P w K mg base 1 "_law_draw" sp_draw) (c_power : Cal P w K mg base 5 "power" sp_powerR) (k_power : CalK P w K mg base 5 "power" ["k", "beginning"] swapV sp_powerR) (c__law_power : Cal P w K mg base 3 "_law_power" sp_lpow) (c__law_reduced : Cal P w K mg base 1 "_law_reduced" sp_loweredT) (c__law_is_refused : Cal P w K mg base 6 "_law_is_refused" sp_isRefused) (g_undone : CalG P w K mg base 5 "_law_is_undone" sp_undone) (g_together : CalG P w K mg base 7 "_law_are_together" sp_together) : FnG P w K mg base 8 f fd ["_law_script"] (sp_law K) := by
  have sc := sc_law
  refine fun_g F sc (fun _ _ _ _ ⟨_, _, e, _⟩ => by rw [e]; rfl) (fun cdv A outer s H vs Q E hgd hr h => ?_)
  obtain ⟨a, ns, rfl, hS, hlen, q⟩ := h
  refine ⟨_, (pss_cons (ps_set (i := 1) sc.nd rfl (Or.inr rfl) (pe_c c__law_deck hr (by decide) (by rfl) (pa_cons (pv 0) pa_nil)))
      (pss_cons (ps_set (i := 2) sc.nd rfl (Or.inl rfl) (pe_c c__law_pick hr (by decide) (by rfl) (pa_cons (pv 1) (pa_cons (pe_op op_cat (pe_op op_cat (pe_lst (pa_cons pe_int pa_nil)) (pe_op op_rep (pe_lst (pa_cons pe_int pa_nil)) pe_int)) (pe_op op_rep (pe_lst (pa_cons pe_int pa_nil)) pe_int)) pa_nil))))
      (pss_cons (ps_for PassesOwn.never rfl (pi_range1 rfl B.range (pa_cons (pe_ifExp (pt_cmpR op_lt (pv 2) pe_int (nomark _)) pe_int pe_int) pa_nil)) (pg_name (i := 3) sc.nd rfl (Or.inl rfl))
      (pss_cons (ps_par (i := 4) (j := 5) (by rfl) sc.nd rfl rfl (by decide) rfl rfl (pa_cons (pe_c c__law_beginning hr (by decide) (by rfl) (pa_cons (pv 1) (pa_cons (pv 2) pa_nil))) (pa_cons (pe_op op_odd (pv 3) pe_int) pa_nil)) (by rfl))
        (pss_cons (ps_set (i := 6) sc.nd rfl (Or.inl rfl) (pe_c c__law_draw hr (by decide) (by rfl) (pa_cons (pv 1) (pa_cons (pe_ifExp (PW.pt (pw_and (pt_cmpR op_lt (pv 2) pe_int (nomark _)) (pw_and1 (pt_cmpR op_eq (pv 3) pe_int (nomark _))))) pe_int (pe_ifExp (pt_cmpR op_lt (pv 2) pe_int (nomark _)) pe_int pe_int)) pa_nil))))
        (pss_cons (ps_set (i := 7) sc.nd rfl (Or.inl rfl) (pe_ifExp (pt_cmpR op_eq (pv 5) pe_int (nomark _)) (pe_c c_power hr (by decide) (by rfl) (pa_cons (pv 4) (pa_cons (pv 6) pa_nil))) (pe_k0 k_power hr (by decide) (by rfl) (pk_cons (pv 6) (pk_cons (pv 4) pk_nil)))))
        (pss_cons (ps_if (pt_cmpR op_ne (pe_callB (call_repr hgd hr) (by rfl) B.repr (by decide +kernel) (pa_cons (pv 7) pa_nil)) (pe_callB (call_repr hgd hr) (by rfl) B.repr (by decide +kernel) (pa_cons (pe_c c__law_power hr (by decide) (by rfl) (pa_cons (pv 4) (pa_cons (pv 6) pa_nil))) pa_nil)) (nomark _))
        (pss_one (ps_ret pe_bl))
        pss_nil)
        (pss_cons (ps_if (pt_cmpR op_ne (pe_callB (call_repr hgd hr) (by rfl) B.repr (by decide +kernel) (pa_cons (pe_tup (pa_cons (pe_c c_power hr (by decide) (by rfl) (pa_cons (pv 4) (pa_cons pe_int pa_nil))) (pa_cons (pe_c c_power hr (by decide) (by rfl) (pa_cons (pv 4) (pa_cons pe_int pa_nil))) pa_nil))) pa_nil)) (pe_callB (call_repr hgd hr) (by rfl) B.repr (by decide +kernel) (pa_cons (pe_tup (pa_cons (pe_c c__law_power hr (by decide) (by rfl) (pa_cons (pv 4) (pa_cons pe_int pa_nil))) (pa_cons (pe_c c__law_reduced hr (by decide) (by rfl) (pa_cons (pe_ix (show IxR _ (rIx K) from ix_seq) (pv 4) pe_int (fun _ _ => rfl)) (pa_cons (pe_ix (show IxR _ (rIx K) from ix_seq) (pv 4) pe_int (fun _ _ => rfl)) pa_nil))) pa_nil))) pa_nil)) (nomark _))
        (pss_one (ps_ret pe_bl))
        pss_nil)
        (pss_cons (ps_if (PW.pt (pw_and (pt_cmpR op_eq (pe_ix (show IxR _ (rIx K) from ix_seq) (pe_ix (show IxR _ (rIx K) from ix_seq) (pv 4) pe_int (fun _ _ => rfl)) pe_int (fun _ _ => rfl)) pe_int (nomark _)) (pw_and1 (pt_not (pt_val (pe_c c__law_is_refused hr (by decide) (by rfl) (pa_cons (pv 4) (pa_cons (pe_op op_sub (pe_un un_neg pe_int) (pe_op op_fdivW (pv 6) pe_int)) (pa_cons (pv 5) pa_nil)))))))))
        (pss_one (ps_ret pe_bl))
        pss_nil)
        (pss_cons (ps_set (i := 8) sc.nd rfl (Or.inl rfl) (pe_cmpR op_eq (pe_callB call_abs (by rfl) B.abs (by decide +kernel) (pa_cons (pe_ix (show IxR _ (rIx K) from ix_seq) (pe_ix (show IxR _ (rIx K) from ix_seq) (pv 4) pe_int (fun _ _ => rfl)) pe_int (fun _ _ => rfl)) pa_nil)) (pe_ix (show IxR _ (rIx K) from ix_seq) (pv 4) pe_int (fun _ _ => rfl)) (nomark _)))
        (pss_cons (ps_if (PW.pt (pw_and (pt_val (pv 8)) (pw_and1 (pt_not (pt_val (pe_g g_undone hgd hr (by decide) (by rfl) (pa_cons (pv 4) (pa_cons (pv 6) (pa_cons (pe_ifExp (pt_cmpR op_eq (pv 5) pe_int (nomark _)) (pe_c c_power hr (by decide) (by rfl) (pa_cons (pv 4) (pa_cons (pe_un un_neg (pv 6)) pa_nil))) (pe_k0 k_power hr (by decide) (by rfl) (pk_cons (pe_un un_neg (pv 6)) (pk_cons (pv 4) pk_nil)))) pa_nil)))))))))
        (pss_one (ps_ret pe_bl))
        pss_nil)
        (pss_cons (ps_set (i := 10) sc.nd rfl (Or.inl rfl) (pe_callTy call_tuple_of (by rfl) B.tuple (by decide +kernel) (pa_cons (pe_lc (own := [("_law_at", 9)]) (g := gName 9) (tt := tYes) (by rfl) sc.nd (pi_tup (pe_ix (show IxR _ (rIx K) from ix_seq) (pv 4) pe_int (fun _ _ => rfl))) (blkOk_by (own := [("_law_at", 9)]) (N := N_law) (sc := defScope s_law) (by decide +kernel)) (fun _ _ _ _ _ => (pg_name (i := 9) sc.nd rfl (Or.inl rfl))) (fun _ _ _ _ _ => pts_nil) (fun _ _ _ _ _ => (pe_op op_sub (pe_c c__law_draw hr (by decide) (by rfl) (pa_cons (pv 1) (pa_cons pe_int pa_nil))) pe_int))) pa_nil)))
        (pss_cons (ps_set (i := 11) sc.nd rfl (Or.inl rfl) (pe_tup (pa_cons (pe_ix (show IxR _ (rIx K) from ix_seq) (pv 4) pe_int (fun _ _ => rfl)) (pa_cons (pe_op op_catA (pe_tup (pa_cons (pe_c c__law_pick hr (by decide) (by rfl) (pa_cons (pv 1) (pa_cons (pe_lst (pa_cons (pe_ix (show IxR _ (rIx K) from ix_seq) (pv 4) pe_int (fun _ _ => rfl)) (pa_cons (pe_un un_neg (pe_ix (show IxR _ (rIx K) from ix_seq) (pv 4) pe_int (fun _ _ => rfl))) pa_nil))) pa_nil))) pa_nil)) (pe_slice sl_tupA (pv 10) (po_some pe_int) po_none)) pa_nil))))
        (pss_cons (ps_set (i := 12) sc.nd rfl (Or.inl rfl) (pe_ifExp (pt_cmpR op_lt (pv 2) pe_int (nomark _)) pe_int pe_int))
        (pss_cons (ps_par (i := 13) (j := 6) (by rfl) sc.nd rfl rfl (by decide) rfl rfl (pa_cons (pe_c c__law_draw hr (by decide) (by rfl) (pa_cons (pv 1) (pa_cons (pe_op op_add (pe_op op_mulW pe_int (pv 12)) pe_int) pa_nil))) (pa_cons (pe_c c__law_draw hr (by decide) (by rfl) (pa_cons (pv 1) (pa_cons (pe_op op_add (pe_op op_mulW pe_int (pv 12)) pe_int) pa_nil))) pa_nil)) (by rfl))
        (pss_cons (ps_if (pt_val (pv 8))
        (pss_one (ps_par (i := 13) (j := 6) (by rfl) sc.nd rfl rfl (by decide) rfl rfl (pa_cons (pe_op op_sub (pv 13) (pv 12)) (pa_cons (pe_op op_sub (pv 6) (pv 12)) pa_nil)) (by rfl)))
        pss_nil)
        (pss_one (ps_if (pt_not (pt_val (pe_g g_together hgd hr (by decide) (by rfl) (pa_cons (pv 4) (pa_cons (pv 11) (pa_cons (pv 13) (pa_cons (pv 6) pa_nil)))))))
        (pss_one (ps_ret pe_bl))
        pss_nil))))))))))))))))
      (pss_one (ps_ret pe_bl))))), ?_⟩
  refine ⟨_, rfl, a, ns, rfl, hS, hlen, ?_⟩
  intro H1 d l D1 s1 _ _
  dsimp only [gName]
  have sz1 : 1 ≤ sizeLine := by decide
  refine ⟨_, rfl, sz1, fun A1 hA1 => ?_⟩
  have z1 : Same H1 (upd H1 A1 (.lst [V.int 120])) := Same.upd_new hA1
  have h1 : (upd H1 A1 (.lst [V.int 120])) A1 = some (.lst [V.int 120]) := upd_same
  generalize upd H1 A1 (.lst [V.int 120]) = G1 at z1 h1
  refine ⟨sz1, fun A2 hA2 => ?_⟩
  have z2 : Same G1 (upd G1 A2 (.lst [V.int 60])) := Same.upd_new hA2
  have h2 : (upd G1 A2 (.lst [V.int 60])) A2 = some (.lst [V.int 60]) := upd_same
  generalize upd G1 A2 (.lst [V.int 60]) = G2 at z2 h2
  refine ⟨A2, 3, _, rfl, rfl, h2, (by decide), (by decide), (by show 1 * 3 ≤ sizeLine; decide), fun A3 hA3 => ?_⟩
  have z3 := Same.upd_new (o := .lst (List.replicate (Int.toNat 3) [V.int 60]).flatten) hA3
  have h3 : (upd G2 A3 (.lst (List.replicate (Int.toNat 3) [V.int 60]).flatten)) A3 = some (.lst (List.replicate 3 [V.int 60]).flatten) := upd_same
  generalize upd G2 A3 (.lst (List.replicate (Int.toNat 3) [V.int 60]).flatten) = G3 at z3 h3
  refine ⟨A1, A3, _, _, rfl, rfl, z3 _ _ (z2 _ _ h1), h3, (by decide), fun A4 hA4 => ?_⟩
  have z4 := Same.upd_new (o := .lst ([V.int 120] ++ (List.replicate 3 [V.int 60]).flatten)) hA4
  have h4 : (upd G3 A4 (.lst ([V.int 120] ++ (List.replicate 3 [V.int 60]).flatten))) A4 = some (.lst ([V.int 120] ++ (List.replicate 3 [V.int 60]).flatten)) := upd_same
  generalize upd G3 A4 (.lst ([V.int 120] ++ (List.replicate 3 [V.int 60]).flatten)) = G4 at z4 h4
  refine ⟨sz1, fun A5 hA5 => ?_⟩
  have z5 : Same G4 (upd G4 A5 (.lst [V.int 12])) := Same.upd_new hA5
  have h5 : (upd G4 A5 (.lst [V.int 12])) A5 = some (.lst [V.int 12]) := upd_same
  generalize upd G4 A5 (.lst [V.int 12]) = G5 at z5 h5
  refine ⟨A5, 28, _, rfl, rfl, h5, (by decide), (by decide), (by show 1 * 28 ≤ sizeLine; decide), fun A6 hA6 => ?_⟩
  have z6 := Same.upd_new (o := .lst (List.replicate (Int.toNat 28) [V.int 12]).flatten) hA6
  have h6 : (upd G5 A6 (.lst (List.replicate (Int.toNat 28) [V.int 12]).flatten)) A6 = some (.lst (List.replicate 28 [V.int 12]).flatten) := upd_same
  generalize upd G5 A6 (.lst (List.replicate (Int.toNat 28) [V.int 12]).flatten) = G6 at z6 h6
  refine ⟨A4, A6, _, _, rfl, rfl, z6 _ _ (z5 _ _ h4), h6, (by decide), fun A7 hA7 => ?_⟩
  have z16 := z1.trans (z2.trans (z3.trans (z4.trans (z5.trans z6))))
  have D6 := D1.same z16
  have n7 := D6.new hA7
  have z7 : Same G6 (upd G6 A7 (.lst (([V.int 120] ++ (List.replicate 3 [V.int 60]).flatten) ++ (List.replicate 28 [V.int 12]).flatten))) := Same.upd_new hA7
  refine ⟨d, l, A7, _, rfl, D6.same z7, .inl ⟨upd_same, n7.2⟩, (by decide), (by decide), fun H2 v D2 _ hv => ?_⟩
  obtain ⟨m, rfl, hm⟩ := many_of hv
  clear hv z7 n7 D6 z16 z6 h6 z5 h5 z4 h4 z3 h3 z2 h2 z1 h1 D1 hA1 hA2 hA3 hA4 hA5 hA6 hA7 s1
  dsimp only [gName]
  refine ⟨_, rfl, _, _, rfl, rfl, _, rfl, if_tC fun z hz => ?_⟩
  obtain ⟨n, rfl, n3⟩ : ∃ n : Nat, z = .int (n : Int) ∧ n ≤ 3 := by
    rcases hz with h | h
    · exact ⟨3, h, by decide⟩
    · exact ⟨1, h, by decide⟩
  clear hz
  have m2 : m ≤ 120 := by omega
  have mb : (10 : Nat) ≤ m := by omega
  refine ⟨_, rfl, by omega, by omega, for_range (lo := 0) (n := ((n : Int)).toNat) (fun i σ H' => DeckAt H' d l ∧ ∃ o3 o4 o5 o6 o7 o8 o9 o10 o11 o12 o13 : Option V, σ = [some (.ref a), some (.ref d), some (.int (m : Int)), o3, o4, o5, o6, o7, o8, o9, o10, o11, o12, o13]) ⟨D2, none, none, none, none, none, none, none, none, none, none, none, rfl⟩ ?_ fun σ H2 _ => q _⟩
  clear D2
  rintro i σ H2 hi ⟨D2, o3, o4, o5, o6, o7, o8, o9, o10, o11, o12, o13, rfl⟩
  rw [Int.toNat_natCast] at hi
  dsimp only [gName]
  rw [Int.zero_add]
  refine ⟨_, rfl, _, rfl, d, l, m, rfl, D2, by omega, m2, fun H3 v b M f D3 _ hv b1 b9 M1 Mm fN => ?_⟩
  clear D2
  refine ⟨_, rfl, i, rfl, rfl, ?_⟩
  refine ⟨_, _, rfl, ?_⟩
  dsimp only [gName, List.set]
  have bN : b.natAbs ≤ 12 := by omega
  have M2 : M ≤ 120 := by omega
  have b0 : b ≠ 0 := by omega
  have N12 : (12 : Nat) < 2 ^ 100 := by decide
  refine tSeq_join (fun σ H' => DeckAt H' d l ∧ Bg H' v b (rg M f) ∧ ∃ k : Nat, σ = [some (.ref a), some (.ref d), some (.int (m : Int)), some (.int (i : Int)), some v, some (.int ((i % 2 : Nat) : Int)), some (.int (k : Int)), o7, o8, o9, o10, o11, o12, o13] ∧ ((M ≤ 12 ∧ k ≤ 24) ∨ (M ≤ 60 ∧ k ≤ 6) ∨ (M ≤ 120 ∧ k ≤ 3))) (fun N hN => ?_) ?_
  · have fin : ∀ K0 : Nat, ((M ≤ 12 ∧ K0 ≤ 25) ∨ (M ≤ 60 ∧ K0 ≤ 7) ∨ (M ≤ 120 ∧ K0 ≤ 4)) → ∀ (H4 : Hp) (r : Int), DeckAt H4 d l → But d l H3 H4 → 0 ≤ r → r < (K0 : Int) → N [some (.ref a), some (.ref d), some (.int (m : Int)), some (.int (i : Int)), some v, some (.int ((i % 2 : Nat) : Int)), some (.int r), o7, o8, o9, o10, o11, o12, o13] H4 := fun K0 hK H4 r D4 b4 r0 r1 => by
      obtain ⟨k, rfl⟩ : ∃ k : Nat, r = (k : Int) := ⟨r.toNat, by omega⟩
      exact hN _ _ ⟨D4, hv.but D3 b4, k, rfl, by omega⟩
    refine ⟨_, rfl, _, rfl, _, _, rfl, rfl, _, rfl, ifD (fun h1 => ?_) fun h1 => ?_⟩
    · refine ⟨_, rfl, rfl, _, rfl, ifI (fun e => ?_) fun e => ?_⟩
      · exact ⟨d, l, 25, rfl, D3, by decide, by decide, fun H4 r D4 b4 r0 r1 => fin 25 (by omega) H4 r D4 b4 r0 r1⟩
      · refine ⟨_, rfl, _, _, rfl, rfl, _, rfl, ifD (fun h2 => ?_) fun h2 => ?_⟩
        · exact ⟨d, l, 7, rfl, D3, by decide, by decide, fun H4 r D4 b4 r0 r1 => fin 7 (by omega) H4 r D4 b4 r0 r1⟩
        · exact ⟨d, l, 4, rfl, D3, by decide, by decide, fun H4 r D4 b4 r0 r1 => fin 4 (by omega) H4 r D4 b4 r0 r1⟩
    · refine iteF ⟨_, rfl, _, _, rfl, rfl, _, rfl, ifD (fun h2 => ?_) fun h2 => ?_⟩
      · exact ⟨d, l, 7, rfl, D3, by decide, by decide, fun H4 r D4 b4 r0 r1 => fin 7 (by omega) H4 r D4 b4 r0 r1⟩
      · exact ⟨d, l, 4, rfl, D3, by decide, by decide, fun H4 r D4 b4 r0 r1 => fin 4 (by omega) H4 r D4 b4 r0 r1⟩
  rintro _ H4 ⟨D4, hv4, k, rfl, kM⟩
  clear D3 hv o6
  have k24 : k ≤ 24 := by omega
  have bP := pows_small (f := f) M1 M2 bN fN k24
  have kb : (M ≤ 12 ∧ (k : Int).natAbs ≤ 24) ∨ (M ≤ 60 ∧ (k : Int).natAbs ≤ 6) ∨ (M ≤ 120 ∧ (k : Int).natAbs ≤ 4) := by omega
  have kb' : (M ≤ 12 ∧ (-(k : Int)).natAbs ≤ 24) ∨ (M ≤ 60 ∧ (-(k : Int)).natAbs ≤ 6) ∨ (M ≤ 120 ∧ (-(k : Int)).natAbs ≤ 4) := by omega
  refine tSeq_join (fun σ H' => DeckAt H' d l ∧ Bg H' v b (rg M f) ∧ ∃ (u : V) (B0 : Int) (z : Nat → Int), σ = [some (.ref a), some (.ref d), some (.int (m : Int)), some (.int (i : Int)), some v, some (.int ((i % 2 : Nat) : Int)), some (.int (k : Int)), some u, o8, o9, o10, o11, o12, o13] ∧ Bg H' u B0 (rg M z) ∧ Pw M b f k 0 B0 z ∧ B0.natAbs < 2 ^ 1900 ∧ ∀ x ∈ rg M z, x.natAbs < 2 ^ 1900) (fun N hN => ?_) ?_
  · have fin : sp_powerR [v, .int (k : Int)] H4 (fun u H' => N [some (.ref a), some (.ref d), some (.int (m : Int)), some (.int (i : Int)), some v, some (.int ((i % 2 : Nat) : Int)), some (.int (k : Int)), some u, o8, o9, o10, o11, o12, o13] H') E0 := by
      refine sp_pow (E := E0) (N := 12) hv4 b1 M1 M2 N12 bN fN (fun e => absurd e (by omega)) (by omega) (fun e => absurd e (by omega)) fun H5 u B0 z s5 h5 P5 cb cz => ?_
      rw [toNat_neg, Int.toNat_natCast] at P5
      obtain ⟨sm1, sm2⟩ := small_of (M := M) (bd12 kb) cb cz
      exact hN _ _ ⟨D4.same s5, hv4.same s5, u, B0, z, rfl, h5, P5, sm1, sm2⟩
    refine ⟨_, rfl, rfl, _, rfl, ifI (fun e => ?_) fun e => ?_⟩
    · exact ⟨_, rfl, _, rfl, fin⟩
    · exact ⟨_, rfl, _, rfl, fin⟩
  rintro _ H5 ⟨D5, hv5, u, B0, z, rfl, hu5, P5, sm1, sm2⟩
  clear D4 hv4 H4 o7
  have ll4 : ∀ z : Nat → Int, (rg M z).length ≤ 400 := fun z => by rw [rg_len]; omega
  have bp : 0 < b := by omega
  refine ⟨_, rfl, ?_⟩
  dsimp only [tNil, tCons, tC, List.cons_append, List.nil_append]
  refine rep_big hu5 sm1 sm2 (ll4 _) fun w1 ew1 => ?_
  refine ⟨_, rfl, _, rfl, v, b, M, f, k, rfl, hv5, b1, M1, M2, k24, bP, fun H6 x6 s6 h6 => ?_⟩
  obtain ⟨y, ey, Py, yb⟩ := Pw.up (M := M) (f := f) bp k
  obtain ⟨e1, e2⟩ := P5.uniq Py rfl b0 (.inr ⟨rfl, rfl⟩)
  rw [ey, ← e1, ← e2] at h6
  dsimp only [tNil, tCons, tC, List.cons_append, List.nil_append]
  refine rep_big h6 sm1 sm2 (ll4 _) fun w2 ew2 => ?_
  obtain rfl : w2 = w1 := ew2.trans ew1.symm
  refine ⟨rfl, _, rfl, neS ?_⟩
  replace D5 := D5.same s6
  replace hv5 := hv5.same s6
  clear ew1 ew2 h6 e1 e2 Py ey yb y sm1 sm2 hu5 P5 z B0 s6
  refine ⟨_, rfl, ?_⟩
  refine sp_pow (E := E0) (N := 12) (k := 0) hv5 b1 M1 M2 N12 bN fN (fun e => absurd e (by decide)) (by decide) (fun e => absurd e (by decide)) fun H7 y0 B0 z0 s7 h7 P7 cb7 cz7 => ?_
  refine ⟨_, rfl, ?_⟩
  refine sp_pow (E := E0) (N := 12) (k := 1) (hv5.same s7) b1 M1 M2 N12 bN fN (fun e => absurd e (by decide)) (by decide) (fun e => absurd e (by decide)) fun H8 y1 B1 z1 s8 h8 P8 cb8 cz8 => ?_
  replace P7 : Pw M b f 0 0 B0 z0 := P7
  replace P8 : Pw M b f 1 0 B1 z1 := P8
  obtain ⟨m01, m02⟩ := small_of (M := M) (bd12 (by omega)) cb7 cz7
  obtain ⟨m11, m12⟩ := small_of (M := M) (bd12 (by omega)) cb8 cz8
  refine ⟨(by show (2 : Nat) ≤ sizeLine; decide), fun T1 hT1 => ?_⟩
  have s9 : Same H8 (upd H8 T1 (.tup [y0, y1])) := Same.upd_new hT1
  have h9 : (upd H8 T1 (.tup [y0, y1])) T1 = some (.tup [y0, y1]) := upd_same
  generalize upd H8 T1 (.tup [y0, y1]) = H9 at s9 h9
  dsimp only [tNil, tCons, tC, List.cons_append, List.nil_append]
  refine rep_two h9 ((h7.same s8).same s9) (h8.same s9) m01 m02 (ll4 _) m11 m12 (ll4 _) fun w1 ew1 => ?_
  have s79 := s7.trans (s8.trans s9)
  replace D5 := D5.same s79
  replace hv5 := hv5.same s79
  clear h9 s9 hT1 h8 h7 s7 s8 s79 cb7 cz7 cb8 cz8 H5 H6 H7 H8
  refine ⟨_, rfl, v, b, M, f, 0, rfl, hv5, b1, M1, M2, by omega, fun i hi => bP i (by omega), fun H10 r0 s10 h10 => ?_⟩
  obtain ⟨p, r, rfl, hp, hrt⟩ := id (hv5.same s10)
  have a0 : ∀ {a c : V}, atI [a, c] 0 = some a := fun {a c} => atI_nat (j := 0) rfl
  have a1 : ∀ {a c : V}, atI [a, c] 1 = some c := fun {a c} => atI_nat (j := 1) rfl
  refine ⟨_, rfl, .inr (.inl ⟨p, _, 0, _, rfl, rfl, SqT.of hp, a0, ?_⟩)⟩
  refine ⟨_, rfl, .inr (.inl ⟨p, _, 1, _, rfl, rfl, SqT.of hp, a1, b, r, _, rfl, hrt, bp, Nat.lt_of_le_of_lt bN (by decide), by rw [rg_len]; omega, fun H11 r1 s11 h11 => ?_⟩)⟩
  obtain ⟨y, ey, Py, yb⟩ := Pw.up (M := M) (f := f) bp 0
  obtain ⟨e1, e2⟩ := P7.uniq Py rfl b0 (.inr ⟨rfl, rfl⟩)
  rw [ey, ← e1, ← e2] at h10
  obtain ⟨x, ex, Px, xb⟩ := Pw.up (M := M) (f := f) bp 1
  rw [Int.pow_one, np_one] at ex Px
  obtain ⟨e3, e4⟩ := P8.uniq Px rfl b0 (.inr ⟨rfl, rfl⟩)
  rw [ex, ← e3, ← e4] at h11
  refine ⟨(by show (2 : Nat) ≤ sizeLine; decide), fun T2 hT2 => ?_⟩
  have s12 : Same H11 (upd H11 T2 (.tup [r0, r1])) := Same.upd_new hT2
  have h12 : (upd H11 T2 (.tup [r0, r1])) T2 = some (.tup [r0, r1]) := upd_same
  generalize upd H11 T2 (.tup [r0, r1]) = H12 at s12 h12
  dsimp only [tNil, tCons, tC, List.cons_append, List.nil_append]
  refine rep_two h12 ((h10.same s11).same s12) (h11.same s12) m01 m02 (ll4 _) m11 m12 (ll4 _) fun w2 ew2 => ?_
  obtain rfl : w2 = w1 := ew2.trans ew1.symm
  refine ⟨rfl, _, rfl, neS ?_⟩
  have s1012 := s10.trans (s11.trans s12)
  replace D5 := D5.same s1012
  replace hv5 := hv5.same s1012
  replace hp := s12 _ _ (s11 _ _ hp)
  replace hrt := s12 _ _ (s11 _ _ hrt)
  clear ew1 ew2 h12 s12 hT2 h11 h10 s10 s11 s1012 e1 e2 e3 e4 ex Px xb ey Py yb m01 m02 m11 m12 P7 P8 y x z0 z1 B0 B1
  dsimp only [tNext]
  have c0 : ((rg M f).map V.int)[0]? = some (V.int (f 0)) := range_getD f (by omega)
  have i0 : ∀ {a : V}, ((rg M f).map V.int)[0]? = some a → atI ((rg M f).map V.int) 0 = some a := fun h => atI_nat (j := 0) h
  refine tSeq_join (fun σ H' => Same H12 H' ∧ σ = [some (.ref a), some (.ref d), some (.int (m : Int)), some (.int (i : Int)), some (.ref p), some (.int ((i % 2 : Nat) : Int)), some (.int (k : Int)), some u, o8, o9, o10, o11, o12, o13]) (fun N hN => ?_) ?_
  · refine ⟨_, rfl, .inr (.inl ⟨p, _, 1, _, rfl, rfl, SqT.of hp, a1, .inr (.inl ⟨r, _, 0, _, rfl, rfl, SqT.of hrt, i0 c0, rfl, _, rfl, ifI (fun e => ?_) fun e => ?_⟩)⟩)⟩
    · refine ⟨_, rfl, _, rfl, _, rfl, _, _, rfl, rfl, wide_div2, _, _, rfl, rfl, _, rfl, ?_⟩
      refine ⟨_, b, _, _, M, f, rfl, hv5, b1, M1, M2, e, ?_, fun H13 s13 => ⟨true, rfl, iteF ?_⟩⟩
      · show (-1 : Int) - (k : Int) / 2 < 0
        omega
      · exact hN _ _ ⟨s13, rfl⟩
    · exact hN _ _ ⟨Same.refl _, rfl⟩
  rintro _ H13 ⟨s13, rfl⟩
  replace D5 := D5.same s13
  replace hv5 := hv5.same s13
  replace hp := s13 _ _ hp
  replace hrt := s13 _ _ hrt
  clear s13 H12
  refine ⟨_, rfl, .inr (.inl ⟨p, _, 1, _, rfl, rfl, SqT.of hp, a1, .inr (.inl ⟨r, _, 0, _, rfl, rfl, SqT.of hrt, i0 c0, _, rfl, ?_⟩)⟩)⟩
  refine ⟨_, rfl, .inr (.inl ⟨p, _, 0, _, rfl, rfl, SqT.of hp, a0, rfl, ?_⟩)⟩
  dsimp only [gName, List.set]
  obtain ⟨o, ho⟩ : ∃ o, o = decide (V.int (if f 0 < 0 then -f 0 else f 0) = V.int b) := ⟨_, rfl⟩
  have fo : o = true → f 0 ≠ 0 := fun e z => by
    rw [ho] at e
    have := V.int.inj (of_decide_eq_true e)
    rw [z] at this
    omega
  rw [← ho]
  clear ho
  refine tSeq_join (fun σ H' => Same H13 H' ∧ σ = [some (.ref a), some (.ref d), some (.int (m : Int)), some (.int (i : Int)), some (.ref p), some (.int ((i % 2 : Nat) : Int)), some (.int (k : Int)), some u, some (.bl o), o9, o10, o11, o12, o13]) (fun N hN => ?_) ?_
  · refine ⟨_, rfl, o, rfl, ?_⟩
    cases o with
    | false => exact iteF (iteF (hN _ _ ⟨Same.refl _, rfl⟩))
    | true =>
    refine iteT ?_
    have f00 := fo rfl
    refine ⟨_, rfl, _, rfl, ?_⟩
    have fin : sp_powerR [.ref p, .int (-(k : Int))] H13 (fun x H' => sp_undone [.ref p, .int (k : Int), x] H' (fun x H1 => ∃ b, x = V.bl b ∧ if (!b) = true then tRet (tC (.bl false)) { nx := N, rt := fun x H' => Q x H' } [some (.ref a), some (.ref d), some (.int (m : Int)), some (.int (i : Int)), some (.ref p), some (.int ((i % 2 : Nat) : Int)), some (.int (k : Int)), some u, some (.bl true), o9, o10, o11, o12, o13] H1 else N [some (.ref a), some (.ref d), some (.int (m : Int)), some (.int (i : Int)), some (.ref p), some (.int ((i % 2 : Nat) : Int)), some (.int (k : Int)), some u, some (.bl true), o9, o10, o11, o12, o13] H1) E0) E0 := by
      refine sp_pow (E := E0) (N := 12) hv5 b1 M1 M2 N12 bN fN (fun _ => f00) (by omega) (fun _ => Nat.lt_trans (bd12 kb') (Nat.pow_lt_pow_right (by decide) (by decide))) fun H14 x B0 z s14 h14 P14 cb cz => ?_
      rw [toNat_neg, Int.neg_neg, Int.toNat_natCast] at P14
      obtain ⟨sm1, sm2⟩ := small_of (M := M) (bd12 kb') cb cz
      have lt19 : ∀ {x : Nat}, x < 2 ^ 1900 → x < 2 ^ 2000 := fun h => Nat.lt_trans h (Nat.pow_lt_pow_right (by decide) (by decide))
      refine ⟨_, x, b, B0, M, k, f, z, rfl, hv5.same s14, h14, P14, b1, f00, M1, M2, k24, bP, ⟨lt19 sm1, fun x hx => lt19 (sm2 x hx)⟩, fun H15 s15 => ⟨true, rfl, iteF (hN _ _ ⟨s14.trans s15, rfl⟩)⟩⟩
    refine ⟨_, rfl, rfl, _, rfl, ifI (fun e => ?_) fun e => ?_⟩
    · exact ⟨_, rfl, _, rfl, _, rfl, fin⟩
    · exact ⟨_, rfl, _, rfl, _, rfl, fin⟩
  rintro _ H14 ⟨s14, rfl⟩
  replace D5 := D5.same s14
  replace hv5 := hv5.same s14
  replace hp := s14 _ _ hp
  replace hrt := s14 _ _ hrt
  clear s14 H13
  refine tSeq_join (fun σ H' => DeckAt H' d l ∧ Bg H' (.ref p) b (rg M f) ∧ H' p = some (.tup [V.int b, V.ref r]) ∧ ∃ (T : Addr) (ts : List Int), σ = [some (.ref a), some (.ref d), some (.int (m : Int)), some (.int (i : Int)), some (.ref p), some (.int ((i % 2 : Nat) : Int)), some (.int (k : Int)), some u, some (.bl o), o9, some (.ref T), o11, o12, o13] ∧ H' T = some (.tup (ts.map V.int)) ∧ ts.length = M ∧ ∀ x ∈ ts, x.natAbs ≤ 12) (fun N hN => ?_) ?_
  · refine ⟨_, rfl, .inr (.inl ⟨p, _, 1, _, rfl, rfl, SqT.of hp, a1, r, rfl, ⟨_, SqT.of hrt⟩, fun P hP => ?_⟩)⟩
    have nP := D5.new hP
    refine lc_tup (K := K) (a := r) (xs := (rg M f).map V.int) (fun i H' => DeckAt H' d l ∧ But d l H14 H' ∧ ∃ ts : List Int, H' P = some (.lst (ts.map V.int)) ∧ ts.length = i ∧ ∀ x ∈ ts, x.natAbs ≤ 12) ⟨D5.updN nP.1 nP.2, But.of (Same.upd_new hP), [], upd_same, rfl, fun x hx => by cases hx⟩ (fun i H' _ ⟨_, b2, _⟩ => SqT.of (b2 _ _ hrt (D5.offd hrt) (D5.offl hrt))) ?_ ?_
    · rintro i2 x H15 hx ⟨D15, b15, ts, h15, lts, sts⟩
      have hi2 := (List.getElem?_eq_some_iff.mp hx).1
      rw [rgV_len] at hi2
      refine ⟨rfl, _, rfl, d, l, _, rfl, D15, by decide, by decide, fun H16 y D16 b16 y0 y1 => ?_⟩
      refine ⟨_, _, rfl, rfl, _, b16 _ _ h15 nP.1 nP.2, ?_, D16.updN nP.1 nP.2, (b15.trans b16).updN hP, ts ++ [y - 2], ?_, ?_, fun z hz => ?_⟩
      · rw [List.length_map, lts]
        exact Nat.lt_of_le_of_lt (by omega : i2 ≤ 120) (by decide)
      · rw [upd_same, List.map_append]; rfl
      · rw [List.length_append, lts]; rfl
      · rcases List.mem_append.mp hz with hz | hz
        · exact sts z hz
        · rw [List.mem_singleton.mp hz]; omega
    rintro H15 ⟨D15, b15, ts, h15, lts, sts⟩
    rw [rgV_len] at lts
    refine ⟨P, _, rfl, .inl ⟨SqL.of h15, fun T hT => ?_⟩⟩
    have s16 : Same H15 (upd H15 T (.tup (ts.map V.int))) := Same.upd_new hT
    exact hN _ _ ⟨D15.same s16, (hv5.but D5 b15).same s16, s16 _ _ (b15 _ _ hp (D5.offd hp) (D5.offl hp)), T, ts, rfl, upd_same, lts, sts⟩
  clear D5 hv5 hp hrt H14
  rintro _ H14 ⟨D5, hv5, hp, T, ts, rfl, hT, lts, sts⟩
  clear o10
  have fnOk : ∀ (x : Int), x = b ∨ x = -b → (x :: ts.drop 1).length = M ∧ (∀ n, (fn (x :: ts.drop 1) n).natAbs ≤ 12) ∧ fn (x :: ts.drop 1) 0 ≠ 0 := fun x hx => by
    refine ⟨by rw [List.length_cons, List.length_drop]; omega, fn_le fun y hy => ?_, ?_⟩
    · rcases List.mem_cons.mp hy with h | h
      · rw [h]; omega
      · exact sts y (List.mem_of_mem_drop h)
    · show x ≠ 0
      omega
  refine tSeq_join (fun σ H' => DeckAt H' d l ∧ Bg H' (.ref p) b (rg M f) ∧ ∃ (w : V) (g : Nat → Int), σ = [some (.ref a), some (.ref d), some (.int (m : Int)), some (.int (i : Int)), some (.ref p), some (.int ((i % 2 : Nat) : Int)), some (.int (k : Int)), some u, some (.bl o), o9, some (.ref T), some w, o12, o13] ∧ Bg H' w b (rg M g) ∧ (∀ n, (g n).natAbs ≤ 12) ∧ g 0 ≠ 0) (fun N hN => ?_) ?_
  · refine ⟨_, rfl, .inr (.inl ⟨p, _, 0, _, rfl, rfl, SqT.of hp, a0, ?_⟩)⟩
    refine ⟨_, rfl, _, rfl, .inr (.inl ⟨p, _, 0, _, rfl, rfl, SqT.of hp, a0, ?_⟩)⟩
    refine ⟨_, rfl, .inr (.inl ⟨p, _, 0, _, rfl, rfl, SqT.of hp, a0, _, rfl, ?_⟩)⟩
    refine ⟨(by show (2 : Nat) ≤ sizeLine; decide), fun p3 hp3 => ?_⟩
    have n3 := D5.new hp3
    have s15 : Same H14 (upd H14 p3 (.lst [V.int b, V.int (-b)])) := Same.upd_new hp3
    refine ⟨d, l, p3, _, rfl, D5.same s15, .inl ⟨upd_same, n3.2⟩, (by show 0 < 2; decide), (by show 2 < 2 ^ 64; decide), fun H16 wv D16 b16 hw => ?_⟩
    have hz : ∃ z : Int, wv = .int z ∧ (z = b ∨ z = -b) := by
      simp only [List.mem_cons, List.not_mem_nil, or_false] at hw
      rcases hw with h | h
      · exact ⟨_, h, .inl rfl⟩
      · exact ⟨_, h, .inr rfl⟩
    obtain ⟨x0, rfl, hx0⟩ := hz
    obtain ⟨g1, g2, g3⟩ := fnOk x0 hx0
    have B16 : But d l H14 H16 := (But.of s15).trans b16
    have hv16 := hv5.but D5 B16
    have hT16 := B16 _ _ hT (D5.offd hT) (D5.offl hT)
    clear hw b16 s15 n3 hp3
    have fin : ∀ (H17 : Hp) (R : Addr), Same H16 H17 → H17 R = some (.tup ((x0 :: ts.drop 1).map V.int)) → ∀ S : Addr, H17 S = none → N [some (.ref a), some (.ref d), some (.int (m : Int)), some (.int (i : Int)), some (.ref p), some (.int ((i % 2 : Nat) : Int)), some (.int (k : Int)), some u, some (.bl o), o9, some (.ref T), some (.ref S), o12, o13] (upd H17 S (.tup [V.int b, V.ref R])) := fun H17 R s17 hR S hS => by
      have s18 : Same H17 (upd H17 S (.tup [V.int b, V.ref R])) := Same.upd_new hS
      refine hN _ _ ⟨(D16.same s17).same s18, (hv16.same s17).same s18, .ref S, fn (x0 :: ts.drop 1), rfl, ⟨S, R, rfl, upd_same, ?_⟩, g2, g3⟩
      rw [← g1, rg_fn]
      exact s18 _ _ hR
    refine ⟨(by show (1 : Nat) ≤ sizeLine; decide), fun T3 hT3 => ?_⟩
    have s17 : Same H16 (upd H16 T3 (.tup [V.int x0])) := Same.upd_new hT3
    have h17 : (upd H16 T3 (.tup [V.int x0])) T3 = some (.tup [V.int x0]) := upd_same
    generalize upd H16 T3 (.tup [V.int x0]) = H17 at s17 h17
    refine ⟨_, rfl, 1, rfl, T, _, rfl, SqT.of (s17 _ _ hT16), fun e => ?_, fun _ S hS => ?_⟩
    · have e1 := e.1
      have e3 := HT.sIx_nat (ts.map V.int).length 0 1
      rw [show ((1 : Nat) : Int) = 1 from rfl, e1, List.length_map, lts] at e3
      omega
    rw [cut_1]
    have s18 : Same H17 (upd H17 S (.tup ((ts.map V.int).drop 1))) := Same.upd_new hS
    have h18 : (upd H17 S (.tup ((ts.map V.int).drop 1))) S = some (.tup ((ts.map V.int).drop 1)) := upd_same
    generalize upd H17 S (.tup ((ts.map V.int).drop 1)) = H18 at s18 h18
    have two : 2 ≤ sizeLine := by decide
    have row : [V.int x0] ++ (ts.map V.int).drop 1 = (x0 :: ts.drop 1).map V.int := by rw [List.map_cons, List.map_drop]; rfl
    refine ⟨T3, S, _, _, rfl, rfl, SqT.of (s18 _ _ h17), SqT.of h18, ?_, (fun e => by cases e), fun _ e => ?_, fun _ _ R hR => ?_⟩
    · rw [List.length_drop, List.length_map, lts]
      exact Nat.le_trans (show 1 + (M - 1) ≤ 400 by omega) (by decide)
    · refine ⟨two, fun S2 hS2 => fin _ T3 (s17.trans s18) ?_ S2 hS2⟩
      rw [← row, e]
      exact s18 _ _ h17
    · refine ⟨two, fun S2 hS2 => fin _ R (s17.trans (s18.trans (Same.upd_new hR))) ?_ S2 hS2⟩
      rw [← row]
      exact upd_same
  clear D5 hv5 hp hT fnOk H14
  rintro _ H14 ⟨D5, hv5, w0, g, rfl, hw5, gN, g0⟩
  clear o11
  refine tSeq_join (fun σ H' => H14 = H' ∧ ∃ fw : Int, σ = [some (.ref a), some (.ref d), some (.int (m : Int)), some (.int (i : Int)), some (.ref p), some (.int ((i % 2 : Nat) : Int)), some (.int (k : Int)), some u, some (.bl o), o9, some (.ref T), some w0, some (.int fw), o13] ∧ ((fw = 2 ∧ M ≤ 12) ∨ fw = 1)) (fun N hN => ?_) ?_
  · refine ⟨_, rfl, _, _, rfl, rfl, _, rfl, ifD (fun h => ?_) fun h => ?_⟩
    · exact hN _ _ ⟨rfl, 2, rfl, .inl ⟨rfl, by omega⟩⟩
    · exact hN _ _ ⟨rfl, 1, rfl, .inr rfl⟩
  rintro _ _ ⟨rfl, fw, rfl, hfw⟩
  have cm : CMulW 2 fw := mul2 (by decide) (Nat.lt_of_le_of_lt (by omega : _ ≤ 10) (by decide))
  refine ⟨_, rfl, _, rfl, _, _, rfl, rfl, cm, _, _, rfl, rfl, ?_⟩
  refine ⟨d, l, _, rfl, D5, (by show (0 : Int) < 2 * fw + 1; omega), (by show 2 * fw + 1 < 2 ^ 64; omega), fun H15 j D15 b15 j0 j1 => ?_⟩
  refine ⟨_, rfl, _, rfl, _, _, rfl, rfl, cm, _, _, rfl, rfl, ?_⟩
  refine ⟨d, l, _, rfl, D15, (by show (0 : Int) < 2 * fw + 1; omega), (by show 2 * fw + 1 < 2 ^ 64; omega), fun H16 k2 D16 b16 k0 k1 => ?_⟩
  replace j1 : j < 2 * fw + 1 := j1
  replace k1 : k2 < 2 * fw + 1 := k1
  have hv16 := (hv5.but D5 b15).but D15 b16
  have hw16 := (hw5.but D5 b15).but D15 b16
  refine ⟨_, _, rfl, ?_⟩
  dsimp only [gName, List.set]
  refine tSeq_join (fun σ H' => H16 = H' ∧ ∃ x y : Int, σ = [some (.ref a), some (.ref d), some (.int (m : Int)), some (.int (i : Int)), some (.ref p), some (.int ((i % 2 : Nat) : Int)), some (.int y), some u, some (.bl o), o9, some (.ref T), some w0, some (.int fw), some (.int x)] ∧ JJ M x y ∧ (x < 0 ∨ y < 0 → o = true)) (fun N hN => ?_) ?_
  · refine ⟨_, rfl, o, rfl, ?_⟩
    cases o with
    | false => exact iteF (hN _ _ ⟨rfl, j, k2, rfl, by unfold JJ; omega, fun h => by omega⟩)
    | true =>
    refine iteT ?_
    exact ⟨_, rfl, _, rfl, _, _, rfl, rfl, _, rfl, _, rfl, _, _, rfl, rfl, _, _, rfl, hN _ _ ⟨rfl, _, _, rfl, by unfold JJ; omega, fun _ => rfl⟩⟩
  rintro _ _ ⟨rfl, x, y, rfl, jj, hneg⟩
  refine ⟨_, rfl, _, rfl, _, rfl, _, rfl, .ref p, w0, b, M, f, g, x, y, rfl, hv16, hw16, b1, b9, M1, M2, fN, gN, g0, fun e => fo (hneg e), jj, fun H17 s17 => ⟨true, rfl, iteF ?_⟩⟩
  exact ⟨D16.same s17, _, _, _, _, _, _, _, _, _, _, _, rfl⟩
end
end Ft

set_option exponentiation.threshold 9000
namespace Ft
open PySem L2
theorem df_mk {K : PySem.W.Frag} {h : Heap} {mg : Str → Option Value} {x : Str} {st : Stmt} {ps : List Str} {f : Addr} {oc kV doc pm cdv ct : Value} {od an : Option Addr} {osl : Array (Option Value)} (X : K.In h) (G : h.Ns mainGlobals mg)
    (a : PySem.W.nsIn K mainGlobals x = some (some (.ref f))) (l : K.lookup f = some ⟨oc, od, .func (PySem.W.fnOf x x (defArgs st) (defBody st) (defScope st) .none kV doc pm an cdv ct), osl⟩) (c : PySem.W.codeIn K cdv x = true) (k : PySem.W.keepIn K (.ref f) = true)
    (hb : ∀ (kV doc pm : Value) (an : Option Addr) (cdv ct : Value) (us : List Value), us.length = ps.length → bindArgs (PySem.W.fnOf x x (defArgs st) (defBody st) (defScope st) .none kV doc pm an cdv ct) ⟨us, []⟩ = pure (ps.zip us)) : Df K mg x st ps :=
  have F := fun_mk (st := st) l c k
  ⟨f, _, F, PySem.W.mg_of X G a, F.binds hb⟩
theorem b1 {x : Str} {st : Stmt} {p0 : Str} (h : ∀ (kV doc pm : Value) (an : Option Addr) (cdv ct u0 : Value), bindArgs (PySem.W.fnOf x x (defArgs st) (defBody st) (defScope st) .none kV doc pm an cdv ct) ⟨[u0], []⟩ = pure [(p0, u0)]) :
    ∀ (kV doc pm : Value) (an : Option Addr) (cdv ct : Value) (us : List Value), us.length = [p0].length → bindArgs (PySem.W.fnOf x x (defArgs st) (defBody st) (defScope st) .none kV doc pm an cdv ct) ⟨us, []⟩ = pure ([p0].zip us) :=
  fun kV doc pm an cdv ct us hl => match us, hl with | [u0], _ => h kV doc pm an cdv ct u0
theorem b2 {x : Str} {st : Stmt} {p0 p1 : Str} (h : ∀ (kV doc pm : Value) (an : Option Addr) (cdv ct u0 u1 : Value), bindArgs (PySem.W.fnOf x x (defArgs st) (defBody st) (defScope st) .none kV doc pm an cdv ct) ⟨[u0, u1], []⟩ = pure [(p0, u0), (p1, u1)]) :
    ∀ (kV doc pm : Value) (an : Option Addr) (cdv ct : Value) (us : List Value), us.length = [p0, p1].length → bindArgs (PySem.W.fnOf x x (defArgs st) (defBody st) (defScope st) .none kV doc pm an cdv ct) ⟨us, []⟩ = pure ([p0, p1].zip us) :=
  fun kV doc pm an cdv ct us hl => match us, hl with | [u0, u1], _ => h kV doc pm an cdv ct u0 u1
theorem b3 {x : Str} {st : Stmt} {p0 p1 p2 : Str} (h : ∀ (kV doc pm : Value) (an : Option Addr) (cdv ct u0 u1 u2 : Value), bindArgs (PySem.W.fnOf x x (defArgs st) (defBody st) (defScope st) .none kV doc pm an cdv ct) ⟨[u0, u1, u2], []⟩ = pure [(p0, u0), (p1, u1), (p2, u2)]) :
    ∀ (kV doc pm : Value) (an : Option Addr) (cdv ct : Value) (us : List Value), us.length = [p0, p1, p2].length → bindArgs (PySem.W.fnOf x x (defArgs st) (defBody st) (defScope st) .none kV doc pm an cdv ct) ⟨us, []⟩ = pure ([p0, p1, p2].zip us) :=
  fun kV doc pm an cdv ct us hl => match us, hl with | [u0, u1, u2], _ => h kV doc pm an cdv ct u0 u1 u2
theorem b4 {x : Str} {st : Stmt} {p0 p1 p2 p3 : Str} (h : ∀ (kV doc pm : Value) (an : Option Addr) (cdv ct u0 u1 u2 u3 : Value), bindArgs (PySem.W.fnOf x x (defArgs st) (defBody st) (defScope st) .none kV doc pm an cdv ct) ⟨[u0, u1, u2, u3], []⟩ = pure [(p0, u0), (p1, u1), (p2, u2), (p3, u3)]) :
    ∀ (kV doc pm : Value) (an : Option Addr) (cdv ct : Value) (us : List Value), us.length = [p0, p1, p2, p3].length → bindArgs (PySem.W.fnOf x x (defArgs st) (defBody st) (defScope st) .none kV doc pm an cdv ct) ⟨us, []⟩ = pure ([p0, p1, p2, p3].zip us) :=
  fun kV doc pm an cdv ct us hl => match us, hl with | [u0, u1, u2, u3], _ => h kV doc pm an cdv ct u0 u1 u2 u3
/-- the defs of the text, as the top has left them -/
structure Dfs (K : PySem.W.Frag) (mg : Str → Option Value) : Prop where
  is_integer : Df K mg "is_integer" s_is_integer ["thing"]
  is_from : Df K mg "is_from" s_is_from ["thing", "least"]
  check_integer : Df K mg "check_integer" s_check_integer ["thing"]
  raised : Df K mg "raised" s_raised ["base", "exponent"]
  is_beginning : Df K mg "is_beginning" s_is_beginning ["thing"]
  check_beginning : Df K mg "check_beginning" s_check_beginning ["beginning"]
  lowered : Df K mg "lowered" s_lowered ["bottom", "tops"]
  multiplied : Df K mg "multiplied" s_multiplied ["one", "other"]
  product_tops : Df K mg "product_tops" s_product_tops ["one", "other"]
  power : Df K mg "power" s_power ["beginning", "k"]
  power_tops : Df K mg "power_tops" s_power_tops ["tops", "k"]
  power_below : Df K mg "power_below" s_power_below ["bottom", "tops", "k"]
  power_of_one : Df K mg "power_of_one" s_power_of_one ["tops", "k"]
  ldeck : Df K mg "_law_deck" s__law_deck ["_law_script"]
  ldraw : Df K mg "_law_draw" s__law_draw ["_law_deck_here", "_law_many"]
  lpick : Df K mg "_law_pick" s__law_pick ["_law_deck_here", "_law_some"]
  lbeginning : Df K mg "_law_beginning" s__law_beginning ["_law_deck_here", "_law_many"]
  lreduced : Df K mg "_law_reduced" s__law_reduced ["_law_bottom", "_law_tops"]
  lmultiplied : Df K mg "_law_multiplied" s__law_multiplied ["_law_one", "_law_other"]
  lpower : Df K mg "_law_power" s__law_power ["_law_one", "_law_k"]
  lis_lowest : Df K mg "_law_is_lowest" s__law_is_lowest ["_law_one", "_law_many"]
  lis_short : Df K mg "_law_is_short" s__law_is_short ["_law_one"]
  lis_undone : Df K mg "_law_is_undone" s__law_is_undone ["_law_one", "_law_k", "_law_told"]
  lis_refused : Df K mg "_law_is_refused" s__law_is_refused ["_law_one", "_law_k", "_law_way"]
  lare_together : Df K mg "_law_are_together" s__law_are_together ["_law_one", "_law_other", "_law_j", "_law_k"]
  law : Df K mg "law" s_law ["_law_script"]
theorem law_all {P : Program} {w : World} {K : PySem.W.Frag} {mg : Str → Option Value} {base : Heap} {f : Addr} {fd : FuncData} {C : Addr} (T : Ex0 K mg "DividedByZero" C) (D : Dfs K mg) (B : Bi mg) (F : Fun K "law" "law" s_law f fd) : FnG P w K mg base 8 f fd ["_law_script"] (sp_law K) := by
  have c0__law_deck : Cal P w K mg base 1 "_law_deck" (sp_deck K) := ok_deck D.ldeck B
  have c1__law_draw : Cal P w K mg base 1 "_law_draw" (sp_draw) := ok_draw D.ldraw B
  have c1__law_pick : Cal P w K mg base 2 "_law_pick" (sp_pick K) := ok_pick D.lpick B c1__law_draw
  have c3__law_beginning : Cal P w K mg base 3 "_law_beginning" (sp_begR) := ok_begR D.lbeginning B c1__law_draw c1__law_pick
  have c4_is_integer : Cal P w K mg base 1 "is_integer" (sp_is_integer) := ok_is_integer D.is_integer B
  have c4_is_from : Cal P w K mg base 2 "is_from" (sp_from) := ok_is_from D.is_from c4_is_integer
  have c4_is_beginning : Cal P w K mg base 3 "is_beginning" (sp_isBeg) := ok_is_beginning D.is_beginning B c4_is_from c4_is_integer
  have c4_check_beginning : Cal P w K mg base 4 "check_beginning" (sp_checkBeg) := ok_check_beginning D.check_beginning c4_is_beginning
  have c8_check_integer : Cal P w K mg base 2 "check_integer" (sp_check_integer) := ok_check_integer D.check_integer c4_is_integer
  have c9_lowered : Cal P w K mg base 1 "lowered" (sp_loweredT) := ok_loweredT D.lowered B
  have c10_lowered : Cal P w K mg base 1 "lowered" (sp_loweredX) := ok_loweredX D.lowered B
  have c11_product_tops : Cal P w K mg base 1 "product_tops" (sp_ptopsR) := ok_ptopsR D.product_tops B
  have c11_power_tops : Cal P w K mg base 2 "power_tops" (sp_powTR) := ok_powTR D.power_tops B c11_product_tops
  have c13_raised : Cal P w K mg base 1 "raised" (sp_raisedI) := ok_raisedI D.raised
  have c14_power_of_one : Cal P w K mg base 1 "power_of_one" (sp_poneR) := ok_poneR D.power_of_one B
  have c14_power_below : Cal P w K mg base 2 "power_below" (sp_pbelowR) := ok_pbelowR D.power_below B c14_power_of_one c13_raised c10_lowered
  have c4_power : Cal P w K mg base 5 "power" (sp_powerR) := by
    obtain ⟨f, fd, F, m, b⟩ := D.power.ex
    exact ⟨f, fd, _, fn_powerR F B c4_check_beginning c8_check_integer c9_lowered c10_lowered c11_power_tops c13_raised c14_power_below, m, F.kp, b⟩
  have k17_power : CalK P w K mg base 5 "power" ["k", "beginning"] swapV (sp_powerR) := by
    obtain ⟨f, fd, F, m, b⟩ := D.power.ex
    exact ⟨f, fd, _, _, fn_powerR F B c4_check_beginning c8_check_integer c9_lowered c10_lowered c11_power_tops c13_raised c14_power_below, m, F.kp, kb_power F⟩
  have c18__law_reduced : Cal P w K mg base 1 "_law_reduced" (sp_lowered) := ok_reduced D.lreduced B
  have c18__law_multiplied : Cal P w K mg base 2 "_law_multiplied" (sp_lmulE) := ok_lmul D.lmultiplied B c18__law_reduced
  have c18__law_power : Cal P w K mg base 3 "_law_power" (sp_lpow) := ok_lpow D.lpower B c18__law_multiplied
  have c21__law_reduced : Cal P w K mg base 1 "_law_reduced" (sp_loweredT) := ok_reducedT D.lreduced B
  have x22_power : CalL P w K mg base 5 "power" ["beginning", "k"] ["k", "beginning"] swapV (sp_powerE C) := by
    obtain ⟨f, fd, F, m, b⟩ := D.power.ex
    exact ⟨f, fd, _, fx_powerE F B T c4_check_beginning c8_check_integer c9_lowered c10_lowered c11_power_tops c13_raised c14_power_below, m, F.kp, b, kb_power F⟩
  have c22__law_is_refused : Cal P w K mg base 6 "_law_is_refused" (sp_isRefused) := ok_isRefused D.lis_refused T x22_power
  have c24__law_is_lowest : Cal P w K mg base 2 "_law_is_lowest" (sp_isLowest) := ok_isLowest D.lis_lowest B c21__law_reduced
  have g24__law_is_undone : CalG P w K mg base 5 "_law_is_undone" (sp_undone) := by
    obtain ⟨f, fd, F, m, b⟩ := D.lis_undone.ex
    exact ⟨f, fd, _, fn_undone F B c24__law_is_lowest c18__law_multiplied c18__law_power, m, F.kp, b⟩
  have c26_lowered : Cal P w K mg base 1 "lowered" (sp_lowered) := ok_lowered D.lowered B
  have c27_product_tops : Cal P w K mg base 1 "product_tops" (sp_ptops) := ok_ptops D.product_tops B
  have c26_multiplied : Cal P w K mg base 5 "multiplied" (sp_bin fun _ t1 _ t2 => mulL t1 t2) := ok_multiplied D.multiplied c4_check_beginning c26_lowered c27_product_tops
  have c29__law_is_short : Cal P w K mg base 1 "_law_is_short" (sp_short) := ok_short D.lis_short B
  have g26__law_are_together : CalG P w K mg base 7 "_law_are_together" (sp_together) := by
    obtain ⟨f, fd, F, m, b⟩ := D.lare_together.ex
    exact ⟨f, fd, _, fn_together F B c4_power c26_multiplied c29__law_is_short, m, F.kp, b⟩
  exact fn_law F B c0__law_deck c1__law_pick c3__law_beginning c1__law_draw c4_power k17_power c18__law_power c21__law_reduced c22__law_is_refused g24__law_is_undone g26__law_are_together
theorem walk {l : PySem.W.OpenLaw} {q : Program} {loose : List Str} {XP : (Str → Option Value) → Heap → Prop} {YP : World → Heap → Prop} {d : DefRec} {K : Params → PySem.W.Frag} (hn : l.most = some 63) (hdf : d.params.defaults = [])
    (hY : ∀ (w : World) (h : Heap), YP w h → (K w.params).In h)
    (F : ∀ (w : World) (mg : Str → Option Value) (fa : Addr) (h : Heap), (K w.params).In h → h.Ns mainGlobals mg → mg d.name = some (.ref fa) →
      ∃ fd : FuncData, (∀ (s : Shared) (u : Value), BindsTo s fd ⟨[u], []⟩ [("_law_script", u)]) ∧ ∀ base : Heap, (K w.params).In base → base.Ns mainGlobals mg → FnG l.prog w (K w.params) mg base 8 fa fd ["_law_script"] (sp_law (K w.params))) :
    PySem.W.WalkO q loose XP YP l.row.toRowW d [] (fun f vs => PySem.call f vs) :=
  walk_g (n := 63) (k := 8) (x := "_law_script") (sp := sp_law) hn (by decide) hdf ⟨rfl, by decide, by decide⟩ hY F (fun _ _ a ns hl hS => ⟨a, ns, rfl, hS, hl, fun _ => rfl⟩)
theorem law_at {l : PySem.W.OpenLaw} {w : World} {K : PySem.W.Frag} {mg : Str → Option Value} {h : Heap} {fa f : Addr} {oc kV doc pm cdv ct : Value} {od an : Option Addr} {osl : Array (Option Value)} {C : Addr} (T : Ex0 K mg "DividedByZero" C) (X : K.In h) (G : h.Ns mainGlobals mg) (hfa : mg "law" = some (.ref fa))
    (a : PySem.W.nsIn K mainGlobals "law" = some (some (.ref f))) (lk : K.lookup f = some ⟨oc, od, .func (PySem.W.fnOf "law" "law" (defArgs s_law) (defBody s_law) (defScope s_law) .none kV doc pm an cdv ct), osl⟩) (c : PySem.W.codeIn K cdv "law" = true) (k : PySem.W.keepIn K (.ref f) = true)
    (D : Dfs K mg) (B : Bi mg) :
    ∃ fd : FuncData, (∀ (s : Shared) (u : Value), BindsTo s fd ⟨[u], []⟩ [("_law_script", u)]) ∧ ∀ base : Heap, K.In base → base.Ns mainGlobals mg → FnG l.prog w K mg base 8 fa fd ["_law_script"] (sp_law K) := by
  have e := hfa.symm.trans (PySem.W.mg_of X G a)
  cases e
  exact ⟨_, fun s u => .of_eq rfl, fun base _ _ => law_all T D B (fun_mk (st := s_law) lk c k)⟩
end Ft

open PySem PySem.W PyProof.Rows in
set_option maxRecDepth 100000 in
set_option maxHeartbeats 0 in
theorem PySem.Challenge.cw_firstterms_k11_powers_and_what_undoes_th_holds : PySem.Challenge.rw_firstterms_k11_powers_and_what_undoes_th.Holds := by
  w_on; o_law; k_head; (case hw => w_witness2)
  k_fill
  refine Ft.walk (l := PySem.Challenge.rw_firstterms_k11_powers_and_what_undoes_th) rfl rfl (fun w h Y => PySem.W.kIn_of Y) ?F
  case F =>
    intro w mg fa h KX G hmg
    refine' Ft.law_at ?T KX G hmg ?a ?lk ?c ?k ?D ?B
    (case a => k_is); (case lk => k_is); (case c => k_is); (case k => k_is)
    case T =>
      refine' Ft.ex0_mk KX G ?ea ?eq ?ekp ?esb ?ety ?ecl ?ess
      (case ea => k_is)
      (case eq => k_exc)
      (case ekp => k_is)
      (case esb => k_is)
      (case ety => k_is)
      (case ecl => k_is)
      (case ess => first | rfl | k_is)
    case D =>
      refine ⟨?d0, ?d1, ?d2, ?d3, ?d4, ?d5, ?d6, ?d7, ?d8, ?d9, ?d10, ?d11, ?d12, ?d13, ?d14, ?d15, ?d16, ?d17, ?d18, ?d19, ?d20, ?d21, ?d22, ?d23, ?d24, ?d25⟩
      (case d0 => refine' Ft.df_mk KX G ?a0 ?l0 ?c0 ?k0 (Ft.b1 fun _ _ _ _ _ _ _ => rfl); (case a0 => k_is); (case l0 => k_is); (case c0 => k_is); (case k0 => k_is))
      (case d1 => refine' Ft.df_mk KX G ?a1 ?l1 ?c1 ?k1 (Ft.b2 fun _ _ _ _ _ _ _ _ => rfl); (case a1 => k_is); (case l1 => k_is); (case c1 => k_is); (case k1 => k_is))
      (case d2 => refine' Ft.df_mk KX G ?a2 ?l2 ?c2 ?k2 (Ft.b1 fun _ _ _ _ _ _ _ => rfl); (case a2 => k_is); (case l2 => k_is); (case c2 => k_is); (case k2 => k_is))
      (case d3 => refine' Ft.df_mk KX G ?a3 ?l3 ?c3 ?k3 (Ft.b2 fun _ _ _ _ _ _ _ _ => rfl); (case a3 => k_is); (case l3 => k_is); (case c3 => k_is); (case k3 => k_is))
      (case d4 => refine' Ft.df_mk KX G ?a4 ?l4 ?c4 ?k4 (Ft.b1 fun _ _ _ _ _ _ _ => rfl); (case a4 => k_is); (case l4 => k_is); (case c4 => k_is); (case k4 => k_is))
      (case d5 => refine' Ft.df_mk KX G ?a5 ?l5 ?c5 ?k5 (Ft.b1 fun _ _ _ _ _ _ _ => rfl); (case a5 => k_is); (case l5 => k_is); (case c5 => k_is); (case k5 => k_is))
      (case d6 => refine' Ft.df_mk KX G ?a6 ?l6 ?c6 ?k6 (Ft.b2 fun _ _ _ _ _ _ _ _ => rfl); (case a6 => k_is); (case l6 => k_is); (case c6 => k_is); (case k6 => k_is))
      (case d7 => refine' Ft.df_mk KX G ?a7 ?l7 ?c7 ?k7 (Ft.b2 fun _ _ _ _ _ _ _ _ => rfl); (case a7 => k_is); (case l7 => k_is); (case c7 => k_is); (case k7 => k_is))
      (case d8 => refine' Ft.df_mk KX G ?a8 ?l8 ?c8 ?k8 (Ft.b2 fun _ _ _ _ _ _ _ _ => rfl); (case a8 => k_is); (case l8 => k_is); (case c8 => k_is); (case k8 => k_is))
      (case d9 => refine' Ft.df_mk KX G ?a9 ?l9 ?c9 ?k9 (Ft.b2 fun _ _ _ _ _ _ _ _ => rfl); (case a9 => k_is); (case l9 => k_is); (case c9 => k_is); (case k9 => k_is))
      (case d10 => refine' Ft.df_mk KX G ?a10 ?l10 ?c10 ?k10 (Ft.b2 fun _ _ _ _ _ _ _ _ => rfl); (case a10 => k_is); (case l10 => k_is); (case c10 => k_is); (case k10 => k_is))
      (case d11 => refine' Ft.df_mk KX G ?a11 ?l11 ?c11 ?k11 (Ft.b3 fun _ _ _ _ _ _ _ _ _ => rfl); (case a11 => k_is); (case l11 => k_is); (case c11 => k_is); (case k11 => k_is))
      (case d12 => refine' Ft.df_mk KX G ?a12 ?l12 ?c12 ?k12 (Ft.b2 fun _ _ _ _ _ _ _ _ => rfl); (case a12 => k_is); (case l12 => k_is); (case c12 => k_is); (case k12 => k_is))
      (case d13 => refine' Ft.df_mk KX G ?a13 ?l13 ?c13 ?k13 (Ft.b1 fun _ _ _ _ _ _ _ => rfl); (case a13 => k_is); (case l13 => k_is); (case c13 => k_is); (case k13 => k_is))
      (case d14 => refine' Ft.df_mk KX G ?a14 ?l14 ?c14 ?k14 (Ft.b2 fun _ _ _ _ _ _ _ _ => rfl); (case a14 => k_is); (case l14 => k_is); (case c14 => k_is); (case k14 => k_is))
      (case d15 => refine' Ft.df_mk KX G ?a15 ?l15 ?c15 ?k15 (Ft.b2 fun _ _ _ _ _ _ _ _ => rfl); (case a15 => k_is); (case l15 => k_is); (case c15 => k_is); (case k15 => k_is))
      (case d16 => refine' Ft.df_mk KX G ?a16 ?l16 ?c16 ?k16 (Ft.b2 fun _ _ _ _ _ _ _ _ => rfl); (case a16 => k_is); (case l16 => k_is); (case c16 => k_is); (case k16 => k_is))
      (case d17 => refine' Ft.df_mk KX G ?a17 ?l17 ?c17 ?k17 (Ft.b2 fun _ _ _ _ _ _ _ _ => rfl); (case a17 => k_is); (case l17 => k_is); (case c17 => k_is); (case k17 => k_is))
      (case d18 => refine' Ft.df_mk KX G ?a18 ?l18 ?c18 ?k18 (Ft.b2 fun _ _ _ _ _ _ _ _ => rfl); (case a18 => k_is); (case l18 => k_is); (case c18 => k_is); (case k18 => k_is))
      (case d19 => refine' Ft.df_mk KX G ?a19 ?l19 ?c19 ?k19 (Ft.b2 fun _ _ _ _ _ _ _ _ => rfl); (case a19 => k_is); (case l19 => k_is); (case c19 => k_is); (case k19 => k_is))
      (case d20 => refine' Ft.df_mk KX G ?a20 ?l20 ?c20 ?k20 (Ft.b2 fun _ _ _ _ _ _ _ _ => rfl); (case a20 => k_is); (case l20 => k_is); (case c20 => k_is); (case k20 => k_is))
      (case d21 => refine' Ft.df_mk KX G ?a21 ?l21 ?c21 ?k21 (Ft.b1 fun _ _ _ _ _ _ _ => rfl); (case a21 => k_is); (case l21 => k_is); (case c21 => k_is); (case k21 => k_is))
      (case d22 => refine' Ft.df_mk KX G ?a22 ?l22 ?c22 ?k22 (Ft.b3 fun _ _ _ _ _ _ _ _ _ => rfl); (case a22 => k_is); (case l22 => k_is); (case c22 => k_is); (case k22 => k_is))
      (case d23 => refine' Ft.df_mk KX G ?a23 ?l23 ?c23 ?k23 (Ft.b3 fun _ _ _ _ _ _ _ _ _ => rfl); (case a23 => k_is); (case l23 => k_is); (case c23 => k_is); (case k23 => k_is))
      (case d24 => refine' Ft.df_mk KX G ?a24 ?l24 ?c24 ?k24 (Ft.b4 fun _ _ _ _ _ _ _ _ _ _ => rfl); (case a24 => k_is); (case l24 => k_is); (case c24 => k_is); (case k24 => k_is))
      (case d25 => refine' Ft.df_mk KX G ?a25 ?l25 ?c25 ?k25 (Ft.b1 fun _ _ _ _ _ _ _ => rfl); (case a25 => k_is); (case l25 => k_is); (case c25 => k_is); (case k25 => k_is))
    case B =>
      refine' ⟨PySem.W.mg_none_of KX G ?z0, PySem.W.mg_none_of KX G ?z1, PySem.W.mg_none_of KX G ?z2, PySem.W.mg_none_of KX G ?z3, PySem.W.mg_of KX G ?z4, PySem.W.mg_none_of KX G ?z5, PySem.W.mg_none_of KX G ?z6, PySem.W.mg_none_of KX G ?z7, PySem.W.mg_none_of KX G ?z8, PySem.W.mg_none_of KX G ?z9, PySem.W.mg_none_of KX G ?z10, PySem.W.mg_none_of KX G ?z11, PySem.W.mg_none_of KX G ?z12, PySem.W.mg_none_of KX G ?z13, PySem.W.mg_none_of KX G ?z14, PySem.W.mg_none_of KX G ?z15, PySem.W.mg_none_of KX G ?z16, PySem.W.mg_none_of KX G ?z17, PySem.W.mg_none_of KX G ?z18⟩
      (case z0 => k_is)
      (case z1 => k_is)
      (case z2 => k_is)
      (case z3 => k_is)
      (case z4 => k_is)
      (case z5 => k_is)
      (case z6 => k_is)
      (case z7 => k_is)
      (case z8 => k_is)
      (case z9 => k_is)
      (case z10 => k_is)
      (case z11 => k_is)
      (case z12 => k_is)
      (case z13 => k_is)
      (case z14 => k_is)
      (case z15 => k_is)
      (case z16 => k_is)
      (case z17 => k_is)
      (case z18 => k_is)

