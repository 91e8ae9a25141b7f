import PyProof.Rows.All
import Wide.All
import OpenK.AllK
import Wide.FinOn
import HandS.ForMost
import HandS.Flow
import HandS.Wide
import HandS.Gcd
import HandS.IsInst
import HandS.Zip
import HandS.Ends
import HandS.Walk
import KE.KMathGC
import Flt.RightSqrt
import HandS.Style
import HandS.WideBits
import PyProof.ReprBulk
import PyProof.Rows.StrJoinMade
import HandS.SortInts
import PySem.Challenge.RW_firstterms_k02_whole_sums_over_divisors
set_option Elab.async false
set_option maxRecDepth 100000
namespace Ft
/-! the numbers of k26 -/
def divL (n : Nat) : List Nat := ((List.range n).filter fun i => decide (n % (i + 1) = 0)).map fun i => i + 1
def manyOf (N c : Nat) : Nat := ((List.range (Nat.gcd c (N / c))).filter fun i => decide (Nat.gcd (i + 1) (Nat.gcd c (N / c)) = 1)).length
abbrev Tri := Nat × Nat × Nat
def edgeOf (N c : Nat) : Tri := (c, manyOf N c, N / Nat.gcd (c * c) N)
def edges (N : Nat) : List Tri := (divL N).map (edgeOf N)
def sumE (l : List Tri) : Nat := l.foldl (fun s e => s + e.2.1 * e.2.2) 0
/-- the program's way to the divisors -/
def lowL (n r : Nat) : List Nat := ((List.range r).filter fun i => decide (n % (i + 1) = 0)).map fun i => i + 1
def divP (n r : Nat) : List Nat := lowL n r ++ (((lowL n r).reverse.filter fun d => decide (d * d ≠ n)).map fun d => n / d)
/-- Bool checks -/
def eqL : List Nat → List Nat → Bool
  | [], [] => true
  | a :: l, b :: m => Nat.beq a b && eqL l m
  | _, _ => false
def divF (n : Nat) : Nat → List Nat → List Nat
  | 0, acc => acc
  | i + 1, acc => divF n i (bif Nat.beq (n % (i + 1)) 0 then (i + 1) :: acc else acc)
end Ft

namespace Ft
open PySem L2

/-! ### general: what a def may be called for -/
structure Cal (P : Program) (w : World) (K : PySem.W.Frag) (mg : Str → Option Value) (base : Heap) (k : Nat) (x : Str) (sp : Sp) : Prop where
  ex : ∃ (f : Addr) (fd : FuncData) (ps : List Str), FnOk P w K mg base CX0 k f fd ps sp ∧ mg x = some (.ref f) ∧ PySem.W.keepIn K (.ref f) = true ∧ Binds K fd ps []
/-- a def of the top: its text stands, its name leads to it, its arguments bind -/
structure Df (K : PySem.W.Frag) (mg : Str → Option Value) (x : Str) (st : Stmt) (ps : List Str) : Prop where
  ex : ∃ (f : Addr) (fd : FuncData), Fun K x x st f fd ∧ mg x = some (.ref f) ∧ Binds K fd ps []
section
variable {X : Cx} {k j : Nat} {x : Str} {sp : Sp} {p pos : Pos} {e : Expr} {es : List Expr} {t : TA}
theorem pe_c (c : Cal X.prog X.w X.K X.mg X.base k x sp) (hr : Room j X.A) (hk : k ≤ j) (hg : Gl X x) (ha : PA X (e :: es) t)
    (hdb : (x == ("__debug__" : Str)) = false := by decide) (he : starEach (e :: es) X.env = (false, eval e X.env) :: starEach es X.env := by rfl) (hpl : (backTo pos (starEach es X.env)).any (·.1) = false := by rfl) :
    PE X (.Call (.Name x p) (e :: es) [] pos) (tCall sp [] E0 t) := by
  obtain ⟨f, fd, ps, F, hm, kp, b⟩ := c.ex
  exact pe_call F (hr.mono hk) hg hm kp b .nil pass0 ha hdb he hpl
end
/-- what may be called for by keywords alone, in this order -/
structure CalK (P : Program) (w : World) (K : PySem.W.Frag) (mg : Str → Option Value) (base : Heap) (k : Nat) (x : Str) (ks : List Str) (gV : List V → List V → List V) (sp : Sp) : Prop where
  ex : ∃ (f : Addr) (fd : FuncData) (ps : List Str) (g : List Value → List Value → List Value), FnOk P w K mg base CX0 k f fd ps sp ∧ mg x = some (.ref f) ∧ PySem.W.keepIn K (.ref f) = true ∧ KBinds K fd ps ks g gV
section
variable {X : Cx} {k j : Nat} {x : Str} {ks : List Str} {gV : List V → List V → List V} {sp : Sp} {p pos : Pos} {kws : List Keyword} {tk : TA}
theorem pe_k0 (c : CalK X.prog X.w X.K X.mg X.base k x ks gV sp) (hr : Room j X.A) (hk : k ≤ j) (hg : Gl X x) (hkw : PK X kws tk)
    (hall : (backToKw pos (keywordEach kws X.env)).all (·.1.isSome) = true := by rfl) (hks : (backToKw pos (keywordEach kws X.env)).filterMap (·.1) = ks := by rfl) (hdb : (x == ("__debug__" : Str)) = false := by decide)
    (hpl : ((backTo pos (starEach [] X.env)).any (·.1) || (backToKw pos (keywordEach kws X.env)).any (·.1.isNone)) = false := by rfl) :
    PE X (.Call (.Name x p) [] kws pos) (tCallK sp gV E0 tNil tk) := by
  obtain ⟨f, fd, ps, g, F, hm, kp, b⟩ := c.ex
  refine ⟨fun pins s σ H Q I h => wpAny_Call_Name_kw (ld_glob I hg hm ?_ hdb)⟩
  refine PySem.W.callWith_KW0 (h₀ := X.base) I.ok.mod.kin kp hall (thn (hkw.run pos pins s σ H _ I h) fun ws s2 ⟨zs, H2, I2, rz, q2⟩ => ⟨I2.kIn, ?_⟩) hpl
  rw [hks]
  exact run_fnk F (hr.mono hk) b pass0 I2 .nil rz q2
end
section
variable {X : Cx}
theorem pe_ty {x : Str} {n : String} {pos : Pos} (hg : Gl X x) (hm : X.mg x = none) (hv : bootBuiltins x = some (.type n)) (hn : x ≠ "__name__" := by decide) (hd : (x == ("__debug__" : Str)) = false := by decide) : PE X (.Name x pos) (tC (.ty n)) := pe_bltn hg hm hv rfl hn hd
end
theorem kit_int_int {K : PySem.W.Frag} : PySem.W.kitOne K (.type "int") (.type "int") = some true := kit_ty (by decide +kernel)
theorem kit_int_bool {K : PySem.W.Frag} : PySem.W.kitOne K (.type "int") (.type "bool") = some false := kit_ty (by decide +kernel)
theorem ifD {c A B : Prop} [Decidable c] (h1 : c → A) (h2 : ¬ c → B) : if decide c = true then A else B := by
  by_cases h : c
  · rw [decide_eq_true h]; exact iteT (h1 h)
  · rw [decide_eq_false h]; exact iteF (h2 h)
theorem ifI {i j : Int} {A B : Prop} (h1 : i = j → A) (h2 : i ≠ j → B) : if decide (V.int i = V.int j) = true then A else B :=
  ifD (fun h => h1 (V.int.inj h)) fun h => h2 fun e => h (congrArg V.int e)
theorem ifN {c A B : Prop} [Decidable c] (h1 : ¬ c → A) (h2 : c → B) : if (!decide c) = true then A else B := by
  by_cases h : c
  · rw [decide_eq_true h]; exact iteF (h2 h)
  · rw [decide_eq_false h]; exact iteT (h1 h)
theorem ifNI {i j : Int} {A B : Prop} (h1 : i ≠ j → A) (h2 : i = j → B) : if (!decide (V.int i = V.int j)) = true then A else B :=
  ifN (fun h => h1 fun e => h (congrArg V.int e)) fun h => h2 (V.int.inj h)
/-- what follows, said once for all ways that lead there -/
theorem tSeq_join {a b : TS} {D : Ends} {σ : L2.St} {H : Hp} (J : L2.St → Hp → Prop) (h1 : ∀ N : L2.St → Hp → Prop, (∀ σ H, J σ H → N σ H) → a { D with nx := N } σ H) (h2 : ∀ σ H, J σ H → b D σ H) : tSeq a b D σ H := h1 (b D) h2
/-- while, by an invariant and a measure -/
theorem while_go {c : TT} {tb : TS} {D : Ends} {σ : L2.St} {H : Hp} (Pv : L2.St → Hp → Prop) (μ : L2.St → Hp → Nat) (h0 : Pv σ H)
    (hs : ∀ σ H, Pv σ H → c σ H fun b H1 => if b = true then ∃ N : L2.St → Hp → Prop, (∀ σ' H', N σ' H' → ∃ m', m' < μ σ H ∧ m' = μ σ' H' ∧ Pv σ' H') ∧ tb { D with nx := N, ct := N, bk := D.nx } σ H1 else D.nx σ H1) :
    tWhile c tb D σ H := by
  refine ⟨fun m σ H => m = μ σ H ∧ Pv σ H, ⟨_, rfl, h0⟩, ?_⟩
  rintro m σ H ⟨rfl, p⟩
  exact hs σ H p
/-- math.isqrt below 2 ^ 64 -/
def rIsqrt : List V → Hp → VK → Prop := fun vs H Q => ∃ a : Int, vs = [.int a] ∧ 0 ≤ a ∧ a < 2 ^ 64 ∧ Q (.int ((Float64.isqrt a.toNat : Nat) : Int)) H
theorem cr_isqrt {X : Cx} : CallR X (.builtin "math.isqrt") rIsqrt := by
  intro pins s σ H vs us Q I r h
  obtain ⟨a, rfl, h0, h1, q⟩ := h
  obtain ⟨u, rfl, t, rfl⟩ := vals1 r
  exact PySem.W.mg_isqrt h0 h1 ⟨.int _, H, I.tok _, ⟨_, rfl⟩, q⟩
/-- the built-ins of the text -/
structure Bi (mg : Str → Option Value) : Prop where
  abs : mg "abs" = none
  bool : mg "bool" = none
  int : mg "int" = none
  int_ : mg "int" = none
  isinstance : mg "isinstance" = none
  isqrt : mg "isqrt" = some (.builtin "math.isqrt")
  len : mg "len" = none
  len_ : mg "len" = none
  list : mg "list" = none
  max : mg "max" = none
  max_ : mg "max" = none
  range : mg "range" = none
  repr : mg "repr" = none
  reversed : mg "reversed" = none
  sorted : mg "sorted" = none
  tuple : mg "tuple" = none
/-- math.comb of ints from 0 to 18000 -/
def rComb : List V → Hp → VK → Prop := fun vs H Q => ∃ a b : Int, vs = [.int a, .int b] ∧ 0 ≤ a ∧ 0 ≤ b ∧ a ≤ 18000 ∧ Q (.int (PySem.W.mcComb a b)) H
theorem cr_comb {X : Cx} : CallR X (.builtin "math.comb") rComb := by
  intro pins s σ H vs us Q I r h
  obtain ⟨a, b, rfl, h0, h1, h2, q⟩ := h
  obtain ⟨t, u, rfl⟩ := Vals.int2 r
  exact PySem.W.mc_comb h0 h1 (by omega) (.inr h2) fun _ => ⟨.int _, H, I.tok _, ⟨_, rfl⟩, q⟩
end Ft

namespace Ft
open PySem L2
def top (i : Nat) : Stmt := PySem.Challenge.pw_firstterms_k02_whole_sums_over_divisors.main.body.getD i (.Pass ⟨0, 0, 0, 0⟩)
abbrev s_is_integer : Stmt := top 6
abbrev N_is_integer : List Str := ["thing"]
theorem sc_is_integer : FnScope N_is_integer ["thing"] (defScope s_is_integer) := ⟨rfl, rfl, rfl, by decide +kernel, rfl, by decide +kernel, by decide +kernel⟩
abbrev s_is_from : Stmt := top 7
abbrev N_is_from : List Str := ["thing", "least"]
theorem sc_is_from : FnScope N_is_from ["thing", "least"] (defScope s_is_from) := ⟨rfl, rfl, rfl, by decide +kernel, rfl, by decide +kernel, by decide +kernel⟩
abbrev s_is_between : Stmt := top 8
abbrev N_is_between : List Str := ["thing", "least", "most"]
theorem sc_is_between : FnScope N_is_between ["thing", "least", "most"] (defScope s_is_between) := ⟨rfl, rfl, rfl, by decide +kernel, rfl, by decide +kernel, by decide +kernel⟩
abbrev s_check_integer : Stmt := top 9
abbrev N_check_integer : List Str := ["thing"]
theorem sc_check_integer : FnScope N_check_integer ["thing"] (defScope s_check_integer) := ⟨rfl, rfl, rfl, by decide +kernel, rfl, by decide +kernel, by decide +kernel⟩
abbrev s_check_from : Stmt := top 10
abbrev N_check_from : List Str := ["thing", "least"]
theorem sc_check_from : FnScope N_check_from ["thing", "least"] (defScope s_check_from) := ⟨rfl, rfl, rfl, by decide +kernel, rfl, by decide +kernel, by decide +kernel⟩
abbrev s_raised : Stmt := top 12
abbrev N_raised : List Str := ["base", "exponent", "result", "square"]
theorem sc_raised : FnScope N_raised ["base", "exponent"] (defScope s_raised) := ⟨rfl, rfl, rfl, by decide +kernel, rfl, by decide +kernel, by decide +kernel⟩
abbrev s_is_sign : Stmt := top 14
abbrev N_is_sign : List Str := ["thing"]
theorem sc_is_sign : FnScope N_is_sign ["thing"] (defScope s_is_sign) := ⟨rfl, rfl, rfl, by decide +kernel, rfl, by decide +kernel, by decide +kernel⟩
abbrev s_check_sign : Stmt := top 15
abbrev N_check_sign : List Str := ["sign"]
theorem sc_check_sign : FnScope N_check_sign ["sign"] (defScope s_check_sign) := ⟨rfl, rfl, rfl, by decide +kernel, rfl, by decide +kernel, by decide +kernel⟩
abbrev s_sign_at : Stmt := top 16
abbrev N_sign_at : List Str := ["sign", "n"]
theorem sc_sign_at : FnScope N_sign_at ["sign", "n"] (defScope s_sign_at) := ⟨rfl, rfl, rfl, by decide +kernel, rfl, by decide +kernel, by decide +kernel⟩
abbrev s_value_at : Stmt := top 17
abbrev N_value_at : List Str := ["sign", "n", "rest", "value"]
theorem sc_value_at : FnScope N_value_at ["sign", "n"] (defScope s_value_at) := ⟨rfl, rfl, rfl, by decide +kernel, rfl, by decide +kernel, by decide +kernel⟩
abbrev s_value_at_two : Stmt := top 18
abbrev N_value_at_two : List Str := ["sign"]
theorem sc_value_at_two : FnScope N_value_at_two ["sign"] (defScope s_value_at_two) := ⟨rfl, rfl, rfl, by decide +kernel, rfl, by decide +kernel, by decide +kernel⟩
abbrev s_value_at_odd : Stmt := top 19
abbrev N_value_at_odd : List Str := ["top", "bottom", "value"]
theorem sc_value_at_odd : FnScope N_value_at_odd ["top", "bottom"] (defScope s_value_at_odd) := ⟨rfl, rfl, rfl, by decide +kernel, rfl, by decide +kernel, by decide +kernel⟩
abbrev s_any_sign_of : Stmt := top 20
abbrev N_any_sign_of : List Str := ["m", "bare"]
theorem sc_any_sign_of : FnScope N_any_sign_of ["m"] (defScope s_any_sign_of) := ⟨rfl, rfl, rfl, by decide +kernel, rfl, by decide +kernel, by decide +kernel⟩
abbrev s_without_squares : Stmt := top 21
abbrev N_without_squares : List Str := ["m", "rest", "bare", "p", "root"]
theorem sc_without_squares : FnScope N_without_squares ["m"] (defScope s_without_squares) := ⟨rfl, rfl, rfl, by decide +kernel, rfl, by decide +kernel, by decide +kernel⟩
abbrev s_joined_sign : Stmt := top 22
abbrev N_joined_sign : List Str := ["one", "other"]
theorem sc_joined_sign : FnScope N_joined_sign ["one", "other"] (defScope s_joined_sign) := ⟨rfl, rfl, rfl, by decide +kernel, rfl, by decide +kernel, by decide +kernel⟩
abbrev s_divisors : Stmt := top 24
abbrev N_divisors : List Str := ["n", "d", "low", "high"]
theorem sc_divisors : FnScope N_divisors ["n"] (defScope s_divisors) := ⟨rfl, rfl, rfl, by decide +kernel, rfl, by decide +kernel, by decide +kernel⟩
abbrev s_divisor_sum : Stmt := top 25
abbrev N_divisor_sum : List Str := ["n", "k", "one", "other", "total", "d"]
theorem sc_divisor_sum : FnScope N_divisor_sum ["n", "k", "one", "other"] (defScope s_divisor_sum) := ⟨rfl, rfl, rfl, by decide +kernel, rfl, by decide +kernel, by decide +kernel⟩
abbrev s__law_deck : Stmt := top 27
abbrev N__law_deck : List Str := ["_law_script", "_law_mixed", "_law_cell"]
theorem sc__law_deck : FnScope N__law_deck ["_law_script"] (defScope s__law_deck) := ⟨rfl, rfl, rfl, by decide +kernel, rfl, by decide +kernel, by decide +kernel⟩
abbrev s__law_draw : Stmt := top 28
abbrev N__law_draw : List Str := ["_law_deck_here", "_law_many", "_law_number", "_law_cell"]
theorem sc__law_draw : FnScope N__law_draw ["_law_deck_here", "_law_many"] (defScope s__law_draw) := ⟨rfl, rfl, rfl, by decide +kernel, rfl, by decide +kernel, by decide +kernel⟩
abbrev s__law_pick : Stmt := top 29
abbrev N__law_pick : List Str := ["_law_deck_here", "_law_some"]
theorem sc__law_pick : FnScope N__law_pick ["_law_deck_here", "_law_some"] (defScope s__law_pick) := ⟨rfl, rfl, rfl, by decide +kernel, rfl, by decide +kernel, by decide +kernel⟩
abbrev s__law_is_sign : Stmt := top 30
abbrev N__law_is_sign : List Str := ["_law_number", "_law_m", "_law_k"]
theorem sc__law_is_sign : FnScope N__law_is_sign ["_law_number"] (defScope s__law_is_sign) := ⟨rfl, rfl, rfl, by decide +kernel, rfl, by decide +kernel, by decide +kernel⟩
abbrev s__law_sign : Stmt := top 31
abbrev N__law_sign : List Str := ["_law_deck_here", "_law_most", "_law_number", "_law_step"]
theorem sc__law_sign : FnScope N__law_sign ["_law_deck_here", "_law_most"] (defScope s__law_sign) := ⟨rfl, rfl, rfl, by decide +kernel, rfl, by decide +kernel, by decide +kernel⟩
abbrev s__law_power : Stmt := top 32
abbrev N__law_power : List Str := ["_law_x", "_law_k", "_law_found", "_law_turn"]
theorem sc__law_power : FnScope N__law_power ["_law_x", "_law_k"] (defScope s__law_power) := ⟨rfl, rfl, rfl, by decide +kernel, rfl, by decide +kernel, by decide +kernel⟩
abbrev s__law_primes : Stmt := top 33
abbrev N__law_primes : List Str := ["_law_n", "_law_found", "_law_rest", "_law_p", "_law_many", "_law_turn"]
theorem sc__law_primes : FnScope N__law_primes ["_law_n"] (defScope s__law_primes) := ⟨rfl, rfl, rfl, by decide +kernel, rfl, by decide +kernel, by decide +kernel⟩
abbrev s__law_common : Stmt := top 34
abbrev N__law_common : List Str := ["_law_one", "_law_other"]
theorem sc__law_common : FnScope N__law_common ["_law_one", "_law_other"] (defScope s__law_common) := ⟨rfl, rfl, rfl, by decide +kernel, rfl, by decide +kernel, by decide +kernel⟩
abbrev s__law_two : Stmt := top 35
abbrev N__law_two : List Str := ["_law_deck_here", "_law_one", "_law_other", "_law_most", "_law_p", "_law_turn"]
theorem sc__law_two : FnScope N__law_two ["_law_deck_here"] (defScope s__law_two) := ⟨rfl, rfl, rfl, by decide +kernel, rfl, by decide +kernel, by decide +kernel⟩
abbrev s__law_apart : Stmt := top 36
abbrev N__law_apart : List Str := ["_law_deck_here", "_law_n", "_law_some", "_law_start", "_law_sign_here", "_law_found"]
theorem sc__law_apart : FnScope N__law_apart ["_law_deck_here", "_law_n"] (defScope s__law_apart) := ⟨rfl, rfl, rfl, by decide +kernel, rfl, by decide +kernel, by decide +kernel⟩
abbrev s__law_is_power_right : Stmt := top 37
abbrev N__law_is_power_right : List Str := ["_law_p", "_law_many", "_law_k", "_law_one", "_law_other", "_law_e", "_law_sums", "_law_near", "_law_far", "_law_due"]
theorem sc__law_is_power_right : FnScope N__law_is_power_right ["_law_p", "_law_many", "_law_k", "_law_one", "_law_other"] (defScope s__law_is_power_right) := ⟨rfl, rfl, rfl, by decide +kernel, rfl, by decide +kernel, by decide +kernel⟩
abbrev s_law : Stmt := top 38
abbrev N_law : List Str := ["_law_script", "_law_deck_here", "_law_turn", "_law_m", "_law_n", "_law_k", "_law_one", "_law_other", "_law_told", "_law_x", "_law_due", "_law_p", "_law_many", "_law_near", "_law_far", "_law_made", "_law_d", "_law_e", "_law_third", "_law_two_here"]
theorem sc_law : FnScope N_law ["_law_script"] (defScope s_law) := ⟨rfl, rfl, rfl, by decide +kernel, rfl, by decide +kernel, by decide +kernel⟩
end Ft

namespace Ft
open PySem L2

/-! ### the mirror of the program's defs -/
def valueTwo (s : Int) : Int := if s % 2 = 0 then 0 else if s % 8 = 1 then 1 else -1
/-- a sign as an int: true is 1 -/
def sg (v : Bool) : Int := if v = true then 1 else -1
def halve (b : Nat) : Nat → Nat → Bool → Nat × Bool
  | 0, t, v => (t, v)
  | f + 1, t, v => if t % 2 = 0 then halve b f (t / 2) (if b % 8 = 3 ∨ b % 8 = 5 then !v else v) else (t, v)
def jac : Nat → Nat → Nat → Bool → Nat × Bool
  | 0, _, b, v => (b, v)
  | f + 1, t, b, v => if t = 0 then (b, v) else
    let r := halve b t t v
    jac f (b % r.1) r.1 (if r.1 % 4 = 3 ∧ b % 4 = 3 then !r.2 else r.2)
def valueOdd (top : Int) (b : Nat) : Int :=
  let r := jac b (top % (b : Int)).toNat b true
  if r.1 = 1 then sg r.2 else 0
def twos (z : Int) : Nat → Nat → Int → Nat × Int
  | 0, r, v => (r, v)
  | f + 1, r, v => if r % 2 = 0 then twos z f (r / 2) (v * z) else (r, v)
def valueRest (s : Int) (r : Nat) : Int :=
  if r = 0 then (if s = 1 then 1 else 0) else
    let q := twos (valueTwo s) r r 1
    q.2 * valueOdd s q.1
def valueAt (s n : Int) : Int := valueRest s (n % (s.natAbs : Int)).toNat
def sqs (p : Nat) : Nat → Nat → Nat
  | 0, r => r
  | f + 1, r => if r % (p * p) = 0 then sqs p f (r / (p * p)) else r
def wsq : Nat → Nat → Int → Nat → Nat × Int
  | 0, r, b, _ => (r, b)
  | f + 1, r, b, p => if p * p * p ≤ r then
      let r1 := sqs p r r
      if r1 % p = 0 then wsq f (r1 / p) (b * p) (p + 1) else wsq f r1 b (p + 1)
    else (r, b)
def without (m : Int) : Int :=
  let q := wsq m.natAbs m.natAbs (if 0 < m then 1 else -1) 2
  if Float64.isqrt q.1 * Float64.isqrt q.1 = q.1 then q.2 else q.2 * q.1
def anySign (m : Int) : Int := if without m % 4 = 1 then without m else 4 * without m
def isSign (n : Int) : Bool := decide (-400 ≤ n) && (decide (n ≤ 400) && (decide (n ≠ 0) && decide (anySign n = n)))

/-! ### promises -/
def sp1 (C : Int → Prop) (g : Int → V) : Sp := fun vs H Q _ => ∃ n, vs = [.int n] ∧ C n ∧ Q (g n) H
def sp2 (C : Int → Int → Prop) (g : Int → Int → V) : Sp := fun vs H Q _ => ∃ m n, vs = [.int m, .int n] ∧ C m n ∧ Q (g m n) H
def sp3 (C : Int → Int → Int → Prop) (g : Int → Int → Int → V) : Sp := fun vs H Q _ => ∃ l m n, vs = [.int l, .int m, .int n] ∧ C l m n ∧ Q (g l m n) H
theorem sp1_len {C g} : ∀ vs H Q E, sp1 C g vs H Q E → vs.length = 1 := fun _ _ _ _ ⟨_, e, _⟩ => by rw [e]; rfl
theorem sp2_len {C g} : ∀ vs H Q E, sp2 C g vs H Q E → vs.length = 2 := fun _ _ _ _ ⟨_, _, e, _⟩ => by rw [e]; rfl
theorem sp3_len {C g} : ∀ vs H Q E, sp3 C g vs H Q E → vs.length = 3 := fun _ _ _ _ ⟨_, _, _, e, _⟩ => by rw [e]; rfl
def sp_is_integer : Sp := sp1 (fun _ => True) fun _ => .bl true
def sp_is_between : Sp := sp3 (fun _ _ _ => True) fun n a b => .bl (decide (a ≤ n) && decide (n ≤ b))
def sp_check_integer : Sp := sp1 (fun _ => True) fun _ => .non
def sp_is_sign : Sp := sp1 (fun _ => True) fun n => .bl (isSign n)
def sp_check_sign : Sp := sp1 (fun n => isSign n = true) fun _ => .non
def sp_value_at_two : Sp := sp1 (fun _ => True) fun n => .int (valueTwo n)
def sp_value_at_odd : Sp := sp2 (fun _ b => 0 < b) fun t b => .int (valueOdd t b.toNat)
def sp_value_at : Sp := sp2 (fun s _ => s ≠ 0) fun s n => .int (valueAt s n)
def sp_sign_at : Sp := sp2 (fun s _ => isSign s = true) fun s n => .int (valueAt s n)
def sp_without_squares : Sp := sp1 (fun m => m ≠ 0 ∧ m.natAbs ≤ 160000) fun m => .int (without m)
def sp_any_sign_of : Sp := sp1 (fun m => m ≠ 0 ∧ m.natAbs ≤ 160000) fun m => .int (anySign m)
def sp_joined_sign : Sp := sp2 (fun a b => isSign a = true ∧ isSign b = true) fun a b => .int (anySign (a * b))

section
variable {P : Program} {w : World} {K : PySem.W.Frag} {mg : Str → Option Value} {base : Heap}
theorem ok_is_integer (D : Df K mg "is_integer" s_is_integer ["thing"]) (B : Bi mg)  : Cal P w K mg base 1 "is_integer" sp_is_integer := by
  obtain ⟨f, fd, F, m, b⟩ := D.ex
  have sc := sc_is_integer
  refine ⟨f, fd, _, F.ok sc sp1_len (fun cdv A outer s H vs Q E hr h => ?_), m, F.kp, b⟩
  obtain ⟨n, rfl, _, q⟩ := h
  have hu := hu_of hr
  refine ⟨_, (pss_one (ps_ret (pe_and (pe_callB call_isi (by rfl) B.isinstance (by decide +kernel) (pa_cons (pv 0) (pa_cons (pe_ty (n := "int") (by rfl) B.int_ (by decide +kernel)) pa_nil))) (pe_one (pe_not (pe_callB call_isi (by rfl) B.isinstance (by decide +kernel) (pa_cons (pv 0) (pa_cons (pe_ty (n := "bool") (by rfl) B.bool (by decide +kernel)) pa_nil)))))))), ?_⟩
  refine ⟨_, rfl, _, _, _, _, true, rfl, .ty _, .base (.int n), kit_int_int, true, rfl, iteT ?_⟩
  refine ⟨_, rfl, _, _, _, _, false, rfl, .ty _, .base (.int n), kit_int_bool, false, rfl, ?_⟩
  exact q
theorem ok_is_between (D : Df K mg "is_between" s_is_between ["thing", "least", "most"]) (c_is_integer : Cal P w K mg base 1 "is_integer" sp_is_integer) : Cal P w K mg base 2 "is_between" sp_is_between := by
  obtain ⟨f, fd, F, m, b⟩ := D.ex
  have sc := sc_is_between
  refine ⟨f, fd, _, F.ok sc sp3_len (fun cdv A outer s H vs Q E hr h => ?_), m, F.kp, b⟩
  obtain ⟨n, lo, hi, rfl, _, q⟩ := h
  have hu := hu_of hr
  refine ⟨_, (pss_one (ps_ret (pe_and (pe_c c_is_integer hr (by decide) (by rfl) (pa_cons (pv 0) pa_nil)) (pe_one (pe_chain op_le op_le (pv 1) (pv 0) (pv 2)))))), ?_⟩
  refine ⟨_, rfl, n, rfl, trivial, true, rfl, iteT ?_⟩
  refine ⟨_, rfl, _, rfl, lo, n, rfl, rfl, _, rfl, ?_⟩
  refine ifD (fun h => ?_) fun h => ?_
  · refine ⟨_, rfl, n, hi, rfl, rfl, ?_⟩
    simp only [decide_eq_true h, Bool.true_and] at q
    exact q
  · simp only [decide_eq_false h, Bool.false_and] at q
    exact q
theorem ok_check_integer (D : Df K mg "check_integer" s_check_integer ["thing"]) (c_is_integer : Cal P w K mg base 1 "is_integer" sp_is_integer) : Cal P w K mg base 2 "check_integer" sp_check_integer := by
  obtain ⟨f, fd, F, m, b⟩ := D.ex
  have sc := sc_check_integer
  refine ⟨f, fd, _, F.ok sc sp1_len (fun cdv A outer s H vs Q E hr h => ?_), m, F.kp, b⟩
  obtain ⟨n, rfl, _, q⟩ := h
  refine ⟨_, (pss_one (ps_if (pt_not (pt_val (pe_c c_is_integer hr (by decide) (by rfl) (pa_cons (pv 0) pa_nil))))
      (pss_one ps_never)
      pss_nil)), ?_⟩
  refine ⟨_, rfl, n, rfl, trivial, true, rfl, iteF ?_⟩
  exact q
theorem ok_value_at_two (D : Df K mg "value_at_two" s_value_at_two ["sign"]) : Cal P w K mg base 1 "value_at_two" sp_value_at_two := by
  obtain ⟨f, fd, F, m, b⟩ := D.ex
  have sc := sc_value_at_two
  refine ⟨f, fd, _, F.ok sc sp1_len (fun cdv A outer s H vs Q E hr h => ?_), m, F.kp, b⟩
  obtain ⟨n, rfl, _, q⟩ := h
  refine ⟨_, (pss_cons (ps_if (pt_cmpR op_eq (pe_op op_mod (pv 0) pe_int) pe_int (nomark _))
      (pss_one (ps_ret pe_int))
      pss_nil)
      (pss_one (ps_ret (pe_ifExp (pt_cmpR op_eq (pe_op op_mod (pv 0) pe_int) pe_int (nomark _)) pe_int (pe_un un_neg pe_int))))), ?_⟩
  replace q : Q (.int (valueTwo n)) H := q
  unfold valueTwo at q
  refine ⟨_, rfl, _, _, rfl, rfl, (by show (0 : Int) < 2; decide), rfl, _, rfl, ifI (fun e => ?_) fun e => ?_⟩
  · rw [if_pos e] at q; exact q
  · rw [if_neg e] at q
    refine ⟨_, rfl, _, _, rfl, rfl, (by show (0 : Int) < 8; decide), rfl, _, rfl, ifI (fun e2 => ?_) fun e2 => ?_⟩
    · rw [if_pos e2] at q; exact q
    · rw [if_neg e2] at q; exact ⟨_, rfl, q⟩
end
end Ft

namespace Ft
open PySem L2
theorem sg_not (v : Bool) : -(sg v) = sg (!v) := by cases v <;> decide
theorem sg_true : sg true = 1 := by decide
/-- the int in slot i, as a measure -/
def m0 (i : Nat) (σ : L2.St) : Nat := match σ[i]? with
  | some (some (.int z)) => z.toNat
  | _ => 0
theorem st3 {a b c a' b' c' : Int} (h1 : a = a') (h2 : b = b') (h3 : c = c') : [some (V.int a), some (V.int b), some (V.int c)] = [some (V.int a'), some (V.int b'), some (V.int c')] := by rw [h1, h2, h3]
theorem halve_go {b f t : Nat} {v : Bool} (h : t % 2 = 0) : halve b (f + 1) t v = halve b f (t / 2) (if b % 8 = 3 ∨ b % 8 = 5 then !v else v) := by
  show (if t % 2 = 0 then _ else _) = _
  rw [if_pos h]
theorem halve_stop {b f t : Nat} {v : Bool} (h : ¬ t % 2 = 0) : halve b f t v = (t, v) := by
  cases f with
  | zero => rfl
  | succ f => show (if t % 2 = 0 then _ else _) = _; rw [if_neg h]
theorem jac_stop {b f : Nat} {v : Bool} : jac f 0 b v = (b, v) := by
  cases f with
  | zero => rfl
  | succ f => show (if (0:Nat) = 0 then _ else _) = _; rw [if_pos rfl]
theorem jac_go {b f t t' : Nat} {v v' : Bool} (h : t ≠ 0) (e : halve b t t v = (t', v')) : jac (f + 1) t b v = jac f (b % t') t' (if t' % 4 = 3 ∧ b % 4 = 3 then !v' else v') := by
  show (if t = 0 then _ else _) = _
  rw [if_neg h]
  dsimp only
  rw [e]

section
variable {P : Program} {w : World} {K : PySem.W.Frag} {mg : Str → Option Value} {base : Heap}
theorem ok_value_at_odd (D : Df K mg "value_at_odd" s_value_at_odd ["top", "bottom"]) : Cal P w K mg base 1 "value_at_odd" sp_value_at_odd := by
  obtain ⟨f, fd, F, m, b⟩ := D.ex
  have sc := sc_value_at_odd
  refine ⟨f, fd, _, F.ok sc sp2_len (fun cdv A outer s H vs Q E hr h => ?_), m, F.kp, b⟩
  obtain ⟨t, b0, rfl, hb, q⟩ := h
  replace hb : 0 < b0 := hb
  replace q : Q (.int (valueOdd t b0.toNat)) H := q
  refine ⟨_, (pss_cons (ps_set (i := 2) sc.nd rfl (Or.inl rfl) pe_int)
      (pss_cons (ps_set (i := 0) sc.nd rfl (Or.inl rfl) (pe_op op_mod (pv 0) (pv 1)))
      (pss_cons (ps_while PassesOwn.never (pt_cmpR op_ne (pv 0) pe_int (nomark _))
      (pss_cons (ps_while PassesOwn.never (pt_cmpR op_eq (pe_op op_mod (pv 0) pe_int) pe_int (nomark _))
        (pss_cons (ps_set (i := 0) sc.nd rfl (Or.inl rfl) (pe_op op_fdivW (pv 0) pe_int))
          (pss_one (ps_if (PW.pt (pw_or (pt_cmpR op_eq (pe_op op_mod (pv 1) pe_int) pe_int (nomark _)) (pw_or1 (pt_cmpR op_eq (pe_op op_mod (pv 1) pe_int) pe_int (nomark _)))))
          (pss_one (ps_set (i := 2) sc.nd rfl (Or.inl rfl) (pe_un un_neg (pv 2))))
          pss_nil))))
        (pss_cons (ps_if (PW.pt (pw_and (pt_cmpR op_eq (pe_op op_mod (pv 0) pe_int) pe_int (nomark _)) (pw_and1 (pt_cmpR op_eq (pe_op op_mod (pv 1) pe_int) pe_int (nomark _)))))
        (pss_one (ps_set (i := 2) sc.nd rfl (Or.inl rfl) (pe_un un_neg (pv 2))))
        pss_nil)
        (pss_one (ps_par (i := 0) (j := 1) (by rfl) sc.nd rfl rfl (by decide) rfl rfl (pa_cons (pe_op op_mod (pv 1) (pv 0)) (pa_cons (pv 0) pa_nil)) (by rfl))))))
      (pss_one (ps_ret (pe_ifExp (pt_cmpR op_eq (pv 1) pe_int (nomark _)) (pv 2) pe_int)))))), ?_⟩
  obtain ⟨n0, rfl⟩ : ∃ n : Nat, b0 = n := ⟨b0.toNat, by omega⟩
  have hn : 0 < n0 := by omega
  have hm := Int.emod_nonneg t (b := (n0 : Int)) (by omega)
  have hl := Int.emod_lt_of_pos t hb
  obtain ⟨t0, ht0⟩ : ∃ n : Nat, t % (n0 : Int) = n := ⟨(t % (n0 : Int)).toNat, by omega⟩
  have qe : valueOdd t n0 = if (jac n0 t0 n0 true).1 = 1 then sg (jac n0 t0 n0 true).2 else 0 := by
    unfold valueOdd
    rw [ht0]
    rfl
  rw [Int.toNat_natCast, qe] at q
  refine ⟨_, rfl, _, rfl, _, _, rfl, rfl, hb, ?_⟩
  refine while_go (fun σ H' => H = H' ∧ ∃ (f tn bn : Nat) (v : Bool), σ = [some (.int (tn : Nat)), some (.int (bn : Nat)), some (.int (sg v))] ∧ 0 < bn ∧ tn ≤ f ∧ jac f tn bn v = jac n0 t0 n0 true) (fun σ _ => m0 0 σ)
    ⟨rfl, n0, t0, n0, true, st3 ht0 rfl rfl, hn, by omega, rfl⟩ ?_
  rintro σ _ ⟨rfl, f, tn, bn, v, rfl, hbn, hf, hj⟩
  refine ⟨_, rfl, rfl, _, rfl, ifNI (fun hne => ?_) fun he => ?_⟩
  · have htn : tn ≠ 0 := by omega
    obtain ⟨f', rfl⟩ : ∃ n, f = n + 1 := ⟨f - 1, by omega⟩
    refine ⟨fun σ' H' => H = H' ∧ ∃ (f tn' bn : Nat) (v : Bool), σ' = [some (.int (tn' : Nat)), some (.int (bn : Nat)), some (.int (sg v))] ∧ 0 < bn ∧ tn' ≤ f ∧ jac f tn' bn v = jac n0 t0 n0 true ∧ tn' < tn, ?_, ?_⟩
    · rintro σ' _ ⟨rfl, f2, tn', bn', v', rfl, h1, h2, h3, h4⟩
      exact ⟨_, (by show ((tn' : Int)).toNat < ((tn : Int)).toNat; omega), rfl, rfl, f2, tn', bn', v', rfl, h1, h2, h3⟩
    refine while_go (fun σ H' => H = H' ∧ ∃ (g tm : Nat) (u : Bool), σ = [some (.int (tm : Nat)), some (.int (bn : Nat)), some (.int (sg u))] ∧ 0 < tm ∧ tm ≤ g ∧ tm ≤ tn ∧ halve bn g tm u = halve bn tn tn v) (fun σ _ => m0 0 σ)
      ⟨rfl, tn, tn, v, rfl, by omega, Nat.le_refl _, Nat.le_refl _, rfl⟩ ?_
    rintro σ _ ⟨rfl, g, tm, u, rfl, h1, h2, h2b, h3⟩
    refine ⟨_, rfl, _, _, rfl, rfl, (by show (0 : Int) < 2; decide), rfl, _, rfl, ifI (fun e => ?_) fun e => ?_⟩
    · have e' : tm % 2 = 0 := by omega
      obtain ⟨g', rfl⟩ : ∃ n, g = n + 1 := ⟨g - 1, by omega⟩
      rw [halve_go e'] at h3
      refine ⟨fun σ' H' => H = H' ∧ ∃ (g tm' : Nat) (u : Bool), σ' = [some (.int (tm' : Nat)), some (.int (bn : Nat)), some (.int (sg u))] ∧ 0 < tm' ∧ tm' ≤ g ∧ tm' ≤ tn ∧ halve bn g tm' u = halve bn tn tn v ∧ tm' < tm, ?_, ?_⟩
      · rintro σ' _ ⟨rfl, f2, tn', v', rfl, h1, h2, h2b, h3, h4⟩
        exact ⟨_, (by show ((tn' : Int)).toNat < ((tm : Int)).toNat; omega), rfl, rfl, f2, tn', v', rfl, h1, h2, h2b, h3⟩
      refine ⟨_, rfl, _, _, rfl, rfl, ⟨by decide, by decide⟩, ?_⟩
      have ed : (tm : Int) / 2 = ((tm / 2 : Nat) : Int) := by omega
      refine ⟨_, rfl, _, _, rfl, rfl, (by show (0 : Int) < 8; decide), rfl, _, rfl, ifI (fun e3 => ?_) fun e3 => ?_⟩
      · have c : bn % 8 = 3 ∨ bn % 8 = 5 := by omega
        rw [if_pos c] at h3
        refine iteT ?_
        refine ⟨_, rfl, _, rfl, ?_⟩
        exact ⟨rfl, g', tm / 2, !u, st3 ed rfl (sg_not u), by omega, by omega, by omega, h3, by omega⟩
      · refine ⟨_, rfl, _, _, rfl, rfl, (by show (0 : Int) < 8; decide), rfl, _, rfl, ifI (fun e5 => ?_) fun e5 => ?_⟩
        · have c : bn % 8 = 3 ∨ bn % 8 = 5 := by omega
          rw [if_pos c] at h3
          refine ⟨_, rfl, _, rfl, ?_⟩
          exact ⟨rfl, g', tm / 2, !u, st3 ed rfl (sg_not u), by omega, by omega, by omega, h3, by omega⟩
        · have c : ¬ (bn % 8 = 3 ∨ bn % 8 = 5) := by omega
          rw [if_neg c] at h3
          exact ⟨rfl, g', tm / 2, u, st3 ed rfl rfl, by omega, by omega, by omega, h3, by omega⟩
    · have e' : ¬ tm % 2 = 0 := by omega
      rw [halve_stop e'] at h3
      have hg := jac_go (f := f') (b := bn) htn h3.symm
      rw [hj] at hg
      have hmod : bn % tm < tm := Nat.mod_lt _ h1
      have em : (bn : Int) % (tm : Int) = ((bn % tm : Nat) : Int) := by omega
      refine ⟨_, rfl, _, _, rfl, rfl, (by show (0 : Int) < 4; decide), rfl, _, rfl, ifI (fun e3 => ?_) fun e3 => ?_⟩
      · refine ⟨_, rfl, _, _, rfl, rfl, (by show (0 : Int) < 4; decide), rfl, _, rfl, ifI (fun e4 => ?_) fun e4 => ?_⟩
        · have c : tm % 4 = 3 ∧ bn % 4 = 3 := by omega
          rw [if_pos c] at hg
          refine ⟨_, rfl, _, rfl, ?_⟩
          refine ⟨_, rfl, _, rfl, _, _, rfl, rfl, (by show (0 : Int) < (tm : Int); omega), _, rfl, _, _, rfl, ?_⟩
          exact ⟨rfl, f', _, tm, !u, st3 em rfl (sg_not u), h1, by omega, hg.symm, by omega⟩
        · have c : ¬ (tm % 4 = 3 ∧ bn % 4 = 3) := by omega
          rw [if_neg c] at hg
          refine ⟨_, rfl, _, rfl, _, _, rfl, rfl, (by show (0 : Int) < (tm : Int); omega), _, rfl, _, _, rfl, ?_⟩
          exact ⟨rfl, f', _, tm, u, st3 em rfl rfl, h1, by omega, hg.symm, by omega⟩
      · have c : ¬ (tm % 4 = 3 ∧ bn % 4 = 3) := by omega
        rw [if_neg c] at hg
        refine iteF ?_
        refine ⟨_, rfl, _, rfl, _, _, rfl, rfl, (by show (0 : Int) < (tm : Int); omega), _, rfl, _, _, rfl, ?_⟩
        exact ⟨rfl, f', _, tm, u, st3 em rfl rfl, h1, by omega, hg.symm, by omega⟩
  · have htn : tn = 0 := by omega
    subst htn
    rw [jac_stop] at hj
    rw [← hj] at q
    dsimp only at q
    refine ⟨_, rfl, rfl, _, rfl, ifI (fun e => ?_) fun e => ?_⟩
    · rw [if_pos (by omega)] at q
      exact ⟨_, rfl, q⟩
    · rw [if_neg (by omega)] at q
      exact q
end
end Ft

namespace Ft
open PySem L2
theorem st4 {a b c d a' b' c' d' : Int} (h1 : a = a') (h2 : b = b') (h3 : c = c') (h4 : d = d') : [some (V.int a), some (V.int b), some (V.int c), some (V.int d)] = [some (V.int a'), some (V.int b'), some (V.int c'), some (V.int d')] := by rw [h1, h2, h3, h4]
theorem cdivN {i : Int} {n : Nat} (h0 : 0 < n) (h : n < 2 ^ 64) : CDivW i (n : Int) := wide_div (b := 64) (by omega) (by omega) (by decide) (by decide)
theorem cmulL {i : Int} {n : Nat} (h : n < 2 ^ 64) : CMul (n : Int) i := .inl ⟨by omega, by omega⟩
theorem cmulR {i : Int} {n : Nat} (h : n < 2 ^ 64) : CMul i (n : Int) := .inr ⟨by omega, by omega⟩
theorem twos_go {z : Int} {f r : Nat} {v : Int} (h : r % 2 = 0) : twos z (f + 1) r v = twos z f (r / 2) (v * z) := by
  show (if r % 2 = 0 then _ else _) = _
  rw [if_pos h]
theorem twos_stop {z : Int} {f r : Nat} {v : Int} (h : ¬ r % 2 = 0) : twos z f r v = (r, v) := by
  cases f with
  | zero => rfl
  | succ f => show (if r % 2 = 0 then _ else _) = _; rw [if_neg h]
theorem valueTwo_le (s : Int) : -1 ≤ valueTwo s ∧ valueTwo s ≤ 1 := by
  unfold valueTwo
  split
  · omega
  · split <;> omega
theorem sqs_go {p f r : Nat} (h : r % (p * p) = 0) : sqs p (f + 1) r = sqs p f (r / (p * p)) := by
  show (if r % (p * p) = 0 then _ else _) = _
  rw [if_pos h]
theorem sqs_stop {p f r : Nat} (h : ¬ r % (p * p) = 0) : sqs p f r = r := by
  cases f with
  | zero => rfl
  | succ f => show (if r % (p * p) = 0 then _ else _) = _; rw [if_neg h]
theorem wsq_stop {f r p : Nat} {b : Int} (h : ¬ p * p * p ≤ r) : wsq f r b p = (r, b) := by
  cases f with
  | zero => rfl
  | succ f => show (if p * p * p ≤ r then _ else _) = _; rw [if_neg h]
theorem wsq_go1 {f r p r1 : Nat} {b : Int} (h : p * p * p ≤ r) (e : sqs p r r = r1) (h1 : r1 % p = 0) : wsq (f + 1) r b p = wsq f (r1 / p) (b * p) (p + 1) := by
  show (if p * p * p ≤ r then _ else _) = _
  rw [if_pos h]
  dsimp only
  rw [e, if_pos h1]
theorem wsq_go2 {f r p r1 : Nat} {b : Int} (h : p * p * p ≤ r) (e : sqs p r r = r1) (h1 : ¬ r1 % p = 0) : wsq (f + 1) r b p = wsq f r1 b (p + 1) := by
  show (if p * p * p ≤ r then _ else _) = _
  rw [if_pos h]
  dsimp only
  rw [e, if_neg h1]
theorem cube_le {p r : Nat} (h : p * p * p ≤ r) (hp : 2 ≤ p) : p < r := by
  have h1 : 2 * p ≤ p * p := Nat.mul_le_mul_right p hp
  have h2 : p * p * 2 ≤ p * p * p := Nat.mul_le_mul_left (p * p) hp
  omega
theorem div_small {r q : Nat} (h : r % q = 0) (hr : 0 < r) (hq : 2 ≤ q) : 0 < r / q ∧ r / q < r := by
  refine ⟨?_, Nat.div_lt_self hr hq⟩
  have e := Nat.div_add_mod r q
  rw [h, Nat.add_zero] at e
  refine Nat.pos_of_ne_zero fun z => ?_
  rw [z, Nat.mul_zero] at e
  omega
theorem sq_small {p : Nat} (h : p ≤ 160001) : p * p < 2 ^ 64 := Nat.lt_of_le_of_lt (Nat.mul_le_mul h h) (by decide)
theorem isqrt_le (n : Nat) : Float64.isqrt n ≤ n := by
  have h := (Float64.isqrt_spec n).1
  rcases Nat.eq_zero_or_pos (Float64.isqrt n) with z | z
  · omega
  · exact Nat.le_trans (Nat.le_mul_of_pos_left _ z) h

section
variable {P : Program} {w : World} {K : PySem.W.Frag} {mg : Str → Option Value} {base : Heap}
theorem ok_value_at (D : Df K mg "value_at" s_value_at ["sign", "n"]) (B : Bi mg) (c_value_at_two : Cal P w K mg base 1 "value_at_two" sp_value_at_two) (c_value_at_odd : Cal P w K mg base 1 "value_at_odd" sp_value_at_odd) : Cal P w K mg base 2 "value_at" sp_value_at := by
  obtain ⟨f, fd, F, m, b⟩ := D.ex
  have sc := sc_value_at
  refine ⟨f, fd, _, F.ok sc sp2_len (fun cdv A outer s H vs Q E hr h => ?_), m, F.kp, b⟩
  obtain ⟨z, n, rfl, hz, q⟩ := h
  replace q : Q (.int (valueAt z n)) H := q
  replace hz : z ≠ 0 := hz
  refine ⟨_, (pss_cons (ps_set (i := 2) sc.nd rfl (Or.inl rfl) (pe_op op_mod (pv 1) (pe_callB call_abs (by rfl) B.abs (by decide +kernel) (pa_cons (pv 0) pa_nil))))
      (pss_cons (ps_if (pt_cmpR op_eq (pv 2) pe_int (nomark _))
      (pss_one (ps_ret (pe_ifExp (pt_cmpR op_eq (pv 0) pe_int (nomark _)) pe_int pe_int)))
      pss_nil)
      (pss_cons (ps_set (i := 3) sc.nd rfl (Or.inl rfl) pe_int)
      (pss_cons (ps_while PassesOwn.never (pt_cmpR op_eq (pe_op op_mod (pv 2) pe_int) pe_int (nomark _))
      (pss_cons (ps_set (i := 2) sc.nd rfl (Or.inl rfl) (pe_op op_fdivW (pv 2) pe_int))
        (pss_one (ps_set (i := 3) sc.nd rfl (Or.inl rfl) (pe_op op_mul (pv 3) (pe_c c_value_at_two hr (by decide) (by rfl) (pa_cons (pv 0) pa_nil)))))))
      (pss_one (ps_ret (pe_op op_mul (pv 3) (pe_c c_value_at_odd hr (by decide) (by rfl) (pa_cons (pv 0) (pa_cons (pv 2) pa_nil)))))))))), ?_⟩
  have ea : (if z < 0 then -z else z) = (z.natAbs : Int) := by split <;> omega
  have hp : (0 : Int) < (z.natAbs : Int) := by omega
  have hm := Int.emod_nonneg n (b := (z.natAbs : Int)) (by omega)
  obtain ⟨r, hrr⟩ : ∃ r : Nat, n % (z.natAbs : Int) = r := ⟨(n % (z.natAbs : Int)).toNat, by omega⟩
  unfold valueAt at q
  rw [hrr, Int.toNat_natCast] at q
  unfold valueRest at q
  refine ⟨_, rfl, _, rfl, z, rfl, n, _, rfl, rfl, (by show 0 < (if z < 0 then -z else z); rw [ea]; exact hp), ?_⟩
  have es : n % (if z < 0 then -z else z) = (r : Int) := by rw [ea]; exact hrr
  refine ⟨_, rfl, rfl, _, rfl, ifI (fun e => ?_) fun e => ?_⟩
  · have r0 : r = 0 := by rw [es] at e; omega
    rw [if_pos r0] at q
    refine ⟨_, rfl, rfl, _, rfl, ifI (fun e2 => ?_) fun e2 => ?_⟩
    · rw [if_pos e2] at q; exact q
    · rw [if_neg e2] at q; exact q
  · have r0 : r ≠ 0 := by rw [es] at e; omega
    rw [if_neg r0] at q
    dsimp only at q
    refine while_go (fun σ H' => H = H' ∧ ∃ (g t : Nat) (v : Int), σ = [some (.int z), some (.int n), some (.int (t : Nat)), some (.int v)] ∧ 0 < t ∧ t ≤ g ∧ -1 ≤ v ∧ v ≤ 1 ∧ twos (valueTwo z) g t v = twos (valueTwo z) r r 1) (fun σ _ => m0 2 σ)
      ⟨rfl, r, r, 1, st4 rfl rfl es rfl, by omega, Nat.le_refl _, by decide, by decide, rfl⟩ ?_
    rintro σ _ ⟨rfl, g, t, v, rfl, h1, h2, h3, h4, h5⟩
    refine ⟨_, rfl, _, _, rfl, rfl, (by show (0 : Int) < 2; decide), rfl, _, rfl, ifI (fun e => ?_) fun e => ?_⟩
    · have e' : t % 2 = 0 := by omega
      obtain ⟨g', rfl⟩ : ∃ n, g = n + 1 := ⟨g - 1, by omega⟩
      rw [twos_go e'] at h5
      refine ⟨fun σ' H' => H = H' ∧ ∃ (g t' : Nat) (v : Int), σ' = [some (.int z), some (.int n), some (.int (t' : Nat)), some (.int v)] ∧ 0 < t' ∧ t' ≤ g ∧ -1 ≤ v ∧ v ≤ 1 ∧ twos (valueTwo z) g t' v = twos (valueTwo z) r r 1 ∧ t' < t, ?_, ?_⟩
      · rintro σ' _ ⟨rfl, g2, t', v', rfl, k1, k2, k3, k4, k5, k6⟩
        exact ⟨_, (by show ((t' : Int)).toNat < ((t : Int)).toNat; omega), rfl, rfl, g2, t', v', rfl, k1, k2, k3, k4, k5⟩
      refine ⟨_, rfl, _, _, rfl, rfl, ⟨by decide, by decide⟩, ?_⟩
      have vt := valueTwo_le z
      have hv : -1 ≤ v * valueTwo z ∧ v * valueTwo z ≤ 1 := by
        obtain h | h | h : v = -1 ∨ v = 0 ∨ v = 1 := by omega
        all_goals (rw [h]; omega)
      refine ⟨_, rfl, _, rfl, z, rfl, trivial, _, _, rfl, rfl, .inl ⟨by omega, by omega⟩, ?_⟩
      exact ⟨rfl, g', t / 2, _, rfl, by omega, by omega, hv.1, hv.2, h5, by omega⟩
    · rw [twos_stop (by omega)] at h5
      rw [← h5] at q
      dsimp only at q
      refine ⟨_, rfl, _, rfl, _, rfl, z, _, rfl, (by show (0 : Int) < (t : Int); omega), _, _, rfl, rfl, .inl ⟨by omega, by omega⟩, ?_⟩
      exact q
theorem ok_without_squares (D : Df K mg "without_squares" s_without_squares ["m"]) (B : Bi mg)  : Cal P w K mg base 1 "without_squares" sp_without_squares := by
  obtain ⟨f, fd, F, m, b⟩ := D.ex
  have sc := sc_without_squares
  refine ⟨f, fd, _, F.ok sc sp1_len (fun cdv A outer s H vs Q E hr h => ?_), m, F.kp, b⟩
  obtain ⟨z, rfl, ⟨hz, hz2⟩, q⟩ := h
  replace q : Q (.int (without z)) H := q
  refine ⟨_, (pss_cons (ps_set (i := 1) sc.nd rfl (Or.inl rfl) (pe_callB call_abs (by rfl) B.abs (by decide +kernel) (pa_cons (pv 0) pa_nil)))
      (pss_cons (ps_set (i := 2) sc.nd rfl (Or.inl rfl) (pe_ifExp (pt_cmpR op_gt (pv 0) pe_int (nomark _)) pe_int (pe_un un_neg pe_int)))
      (pss_cons (ps_set (i := 3) sc.nd rfl (Or.inl rfl) pe_int)
      (pss_cons (ps_while PassesOwn.never (pt_cmpR op_le (pe_op op_mul (pe_op op_mul (pv 3) (pv 3)) (pv 3)) (pv 1) (nomark _))
      (pss_cons (ps_while PassesOwn.never (pt_cmpR op_eq (pe_op op_mod (pv 1) (pe_op op_mul (pv 3) (pv 3))) pe_int (nomark _))
        (pss_one (ps_set (i := 1) sc.nd rfl (Or.inl rfl) (pe_op op_fdivW (pv 1) (pe_op op_mul (pv 3) (pv 3))))))
        (pss_cons (ps_if (pt_cmpR op_eq (pe_op op_mod (pv 1) (pv 3)) pe_int (nomark _))
        (pss_cons (ps_set (i := 1) sc.nd rfl (Or.inl rfl) (pe_op op_fdivW (pv 1) (pv 3)))
          (pss_one (ps_set (i := 2) sc.nd rfl (Or.inl rfl) (pe_op op_mul (pv 2) (pv 3)))))
        pss_nil)
        (pss_one (ps_aug (i := 3) sc.nd rfl (Or.inl rfl) pe_int ip_add)))))
      (pss_cons (ps_set (i := 4) sc.nd rfl (Or.inl rfl) (pe_callBfun cr_isqrt (by rfl) B.isqrt (pa_cons (pv 1) pa_nil)))
      (pss_one (ps_ret (pe_ifExp (pt_cmpR op_eq (pe_op op_mul (pv 4) (pv 4)) (pv 1) (nomark _)) (pv 2) (pe_op op_mul (pv 2) (pv 1)))))))))), ?_⟩
  have ea : (if z < 0 then -z else z) = (z.natAbs : Int) := by split <;> omega
  have st5 : ∀ {b2 c2 d2 b' c' d' : Int} {x : Option V}, b2 = b' → c2 = c' → d2 = d' → [some (V.int z), some (V.int b2), some (V.int c2), some (V.int d2), x] = [some (V.int z), some (V.int b'), some (V.int c'), some (V.int d'), x] := fun h1 h2 h3 => by rw [h1, h2, h3]
  have st5r : ∀ {b2 c2 d2 b' : Int} {x : Option V}, b2 = b' → [some (V.int z), some (V.int b2), some (V.int c2), some (V.int d2), x] = [some (V.int z), some (V.int b'), some (V.int c2), some (V.int d2), x] := fun h1 => by rw [h1]
  unfold without at q
  refine ⟨_, rfl, z, rfl, ?_⟩
  refine ⟨_, rfl, _, _, rfl, rfl, _, rfl, ifD (fun e => ?_) fun e => ⟨_, rfl, ?_⟩⟩
  · rw [if_pos e] at q
    generalize hR : wsq z.natAbs z.natAbs 1 2 = R at q
    dsimp only at q
    refine while_go (fun σ H' => H = H' ∧ ∃ (f r p : Nat) (b : Int), σ = [some (.int z), some (.int (r : Nat)), some (.int b), some (.int (p : Nat)), none] ∧ 0 < r ∧ r ≤ 160000 ∧ 2 ≤ p ∧ p ≤ 160001 ∧ r < f + p ∧ wsq f r b p = R) (fun σ _ => m0 1 σ + 160002 - m0 3 σ)
      ⟨rfl, z.natAbs, z.natAbs, 2, _, st5 ea rfl rfl, by omega, by omega, by decide, by decide, by omega, hR⟩ ?_
    rintro σ _ ⟨rfl, f, r, p, b, rfl, r0, r1, p2, p3, hf, hw⟩
    have hpp := sq_small p3
    have hpl : p < 2 ^ 64 := by omega
    refine ⟨_, rfl, _, rfl, _, _, rfl, rfl, cmulL hpl, _, rfl, _, _, rfl, rfl, cmulR hpl, _, rfl, _, _, rfl, rfl, _, rfl, ifD (fun e => ?_) fun e => ?_⟩
    · have e' : p * p * p ≤ r := Int.ofNat_le.mp e
      have pr := cube_le e' p2
      have pp0 : 0 < p * p := Nat.mul_pos (by omega) (by omega)
      have pp2 : 2 ≤ p * p := Nat.le_trans p2 (Nat.le_mul_of_pos_left _ (by omega))
      obtain ⟨f', rfl⟩ : ∃ n, f = n + 1 := ⟨f - 1, by omega⟩
      refine ⟨fun σ' H' => H = H' ∧ ∃ (f r' p' : Nat) (b : Int), σ' = [some (.int z), some (.int (r' : Nat)), some (.int b), some (.int (p' : Nat)), none] ∧ 0 < r' ∧ r' ≤ 160000 ∧ 2 ≤ p' ∧ p' ≤ 160001 ∧ r' < f + p' ∧ wsq f r' b p' = R ∧ r' ≤ r ∧ p' = p + 1, ?_, ?_⟩
      · rintro σ' _ ⟨rfl, f2, r', p', b', rfl, k1, k2, k3, k4, k5, k6, k7, k8⟩
        exact ⟨_, (by show ((r' : Int)).toNat + 160002 - ((p' : Int)).toNat < ((r : Int)).toNat + 160002 - ((p : Int)).toNat; omega), rfl, rfl, f2, r', p', b', rfl, k1, k2, k3, k4, k5, k6⟩
      refine while_go (fun σ H' => H = H' ∧ ∃ (g t : Nat), σ = [some (.int z), some (.int (t : Nat)), some (.int b), some (.int (p : Nat)), none] ∧ 0 < t ∧ t ≤ g ∧ t ≤ r ∧ sqs p g t = sqs p r r) (fun σ _ => m0 1 σ)
        ⟨rfl, r, r, rfl, r0, Nat.le_refl _, Nat.le_refl _, rfl⟩ ?_
      rintro σ _ ⟨rfl, g, t, rfl, h1, h2, h3, h4⟩
      refine ⟨_, rfl, _, rfl, _, rfl, _, _, rfl, rfl, cmulL hpl, _, _, rfl, rfl, (by show (0 : Int) < ((p * p : Nat) : Int); omega), rfl, _, rfl, ifI (fun em => ?_) fun em => ?_⟩
      · have em' : t % (p * p) = 0 := Int.ofNat.inj em
        obtain ⟨g', rfl⟩ : ∃ n, g = n + 1 := ⟨g - 1, by omega⟩
        rw [sqs_go em'] at h4
        have ds := div_small em' h1 pp2
        refine ⟨fun σ' H' => H = H' ∧ ∃ (g t' : Nat), σ' = [some (.int z), some (.int (t' : Nat)), some (.int b), some (.int (p : Nat)), none] ∧ 0 < t' ∧ t' ≤ g ∧ t' ≤ r ∧ sqs p g t' = sqs p r r ∧ t' < t, ?_, ?_⟩
        · rintro σ' _ ⟨rfl, g2, t', rfl, k1, k2, k3, k4, k5⟩
          exact ⟨_, (by show ((t' : Int)).toNat < ((t : Int)).toNat; omega), rfl, rfl, g2, t', rfl, k1, k2, k3, k4⟩
        refine ⟨_, rfl, _, rfl, _, rfl, _, _, rfl, rfl, cmulL hpl, _, _, rfl, rfl, cdivN pp0 hpp, ?_⟩
        exact ⟨rfl, g', t / (p * p), rfl, ds.1, by omega, by omega, h4, ds.2⟩
      · have em' : ¬ t % (p * p) = 0 := fun z => em (congrArg Int.ofNat z)
        rw [sqs_stop em'] at h4
        refine ⟨_, rfl, _, rfl, _, _, rfl, rfl, (by show (0 : Int) < (p : Int); omega), rfl, _, rfl, ifI (fun ep => ?_) fun ep => ?_⟩
        · have ep' : t % p = 0 := Int.ofNat.inj ep
          have hg := wsq_go1 (f := f') (b := b) e' h4.symm ep'
          rw [hw] at hg
          have ds := div_small ep' h1 p2
          refine ⟨_, rfl, _, rfl, _, _, rfl, rfl, cdivN (by omega) hpl, ?_⟩
          refine ⟨_, rfl, _, rfl, _, _, rfl, rfl, cmulR hpl, ?_⟩
          refine ⟨_, rfl, _, _, rfl, rfl, ?_⟩
          exact ⟨rfl, f', t / p, p + 1, b * p, rfl, ds.1, by omega, by omega, by omega, by omega, hg.symm, by omega, rfl⟩
        · have ep' : ¬ t % p = 0 := fun z => ep (congrArg Int.ofNat z)
          have hg := wsq_go2 (f := f') (b := b) e' h4.symm ep'
          rw [hw] at hg
          refine ⟨_, rfl, _, _, rfl, rfl, ?_⟩
          exact ⟨rfl, f', t, p + 1, b, rfl, h1, by omega, by omega, by omega, by omega, hg.symm, by omega, rfl⟩
    · have e' : ¬ p * p * p ≤ r := fun z => e (Int.ofNat_le.mpr z)
      rw [wsq_stop e'] at hw
      subst hw
      dsimp only at q
      have hi := isqrt_le r
      refine ⟨_, rfl, _, rfl, by omega, by omega, ?_⟩
      refine ⟨_, rfl, _, rfl, _, _, rfl, rfl, cmulL (n := Float64.isqrt r) (by omega), _, rfl, rfl, _, rfl, ifI (fun er => ?_) fun er => ?_⟩
      · rw [if_pos (show Float64.isqrt r * Float64.isqrt r = r from Int.ofNat.inj er)] at q
        exact ⟨_, rfl, q⟩
      · rw [if_neg (show ¬ Float64.isqrt r * Float64.isqrt r = r from fun z => er (congrArg Int.ofNat z))] at q
        exact ⟨_, rfl, _, rfl, _, _, rfl, rfl, cmulR (by omega), q⟩
  · rw [if_neg e] at q
    generalize hR : wsq z.natAbs z.natAbs (-1) 2 = R at q
    dsimp only at q
    refine while_go (fun σ H' => H = H' ∧ ∃ (f r p : Nat) (b : Int), σ = [some (.int z), some (.int (r : Nat)), some (.int b), some (.int (p : Nat)), none] ∧ 0 < r ∧ r ≤ 160000 ∧ 2 ≤ p ∧ p ≤ 160001 ∧ r < f + p ∧ wsq f r b p = R) (fun σ _ => m0 1 σ + 160002 - m0 3 σ)
      ⟨rfl, z.natAbs, z.natAbs, 2, _, st5 ea rfl rfl, by omega, by omega, by decide, by decide, by omega, hR⟩ ?_
    rintro σ _ ⟨rfl, f, r, p, b, rfl, r0, r1, p2, p3, hf, hw⟩
    have hpp := sq_small p3
    have hpl : p < 2 ^ 64 := by omega
    refine ⟨_, rfl, _, rfl, _, _, rfl, rfl, cmulL hpl, _, rfl, _, _, rfl, rfl, cmulR hpl, _, rfl, _, _, rfl, rfl, _, rfl, ifD (fun e => ?_) fun e => ?_⟩
    · have e' : p * p * p ≤ r := Int.ofNat_le.mp e
      have pr := cube_le e' p2
      have pp0 : 0 < p * p := Nat.mul_pos (by omega) (by omega)
      have pp2 : 2 ≤ p * p := Nat.le_trans p2 (Nat.le_mul_of_pos_left _ (by omega))
      obtain ⟨f', rfl⟩ : ∃ n, f = n + 1 := ⟨f - 1, by omega⟩
      refine ⟨fun σ' H' => H = H' ∧ ∃ (f r' p' : Nat) (b : Int), σ' = [some (.int z), some (.int (r' : Nat)), some (.int b), some (.int (p' : Nat)), none] ∧ 0 < r' ∧ r' ≤ 160000 ∧ 2 ≤ p' ∧ p' ≤ 160001 ∧ r' < f + p' ∧ wsq f r' b p' = R ∧ r' ≤ r ∧ p' = p + 1, ?_, ?_⟩
      · rintro σ' _ ⟨rfl, f2, r', p', b', rfl, k1, k2, k3, k4, k5, k6, k7, k8⟩
        exact ⟨_, (by show ((r' : Int)).toNat + 160002 - ((p' : Int)).toNat < ((r : Int)).toNat + 160002 - ((p : Int)).toNat; omega), rfl, rfl, f2, r', p', b', rfl, k1, k2, k3, k4, k5, k6⟩
      refine while_go (fun σ H' => H = H' ∧ ∃ (g t : Nat), σ = [some (.int z), some (.int (t : Nat)), some (.int b), some (.int (p : Nat)), none] ∧ 0 < t ∧ t ≤ g ∧ t ≤ r ∧ sqs p g t = sqs p r r) (fun σ _ => m0 1 σ)
        ⟨rfl, r, r, rfl, r0, Nat.le_refl _, Nat.le_refl _, rfl⟩ ?_
      rintro σ _ ⟨rfl, g, t, rfl, h1, h2, h3, h4⟩
      refine ⟨_, rfl, _, rfl, _, rfl, _, _, rfl, rfl, cmulL hpl, _, _, rfl, rfl, (by show (0 : Int) < ((p * p : Nat) : Int); omega), rfl, _, rfl, ifI (fun em => ?_) fun em => ?_⟩
      · have em' : t % (p * p) = 0 := Int.ofNat.inj em
        obtain ⟨g', rfl⟩ : ∃ n, g = n + 1 := ⟨g - 1, by omega⟩
        rw [sqs_go em'] at h4
        have ds := div_small em' h1 pp2
        refine ⟨fun σ' H' => H = H' ∧ ∃ (g t' : Nat), σ' = [some (.int z), some (.int (t' : Nat)), some (.int b), some (.int (p : Nat)), none] ∧ 0 < t' ∧ t' ≤ g ∧ t' ≤ r ∧ sqs p g t' = sqs p r r ∧ t' < t, ?_, ?_⟩
        · rintro σ' _ ⟨rfl, g2, t', rfl, k1, k2, k3, k4, k5⟩
          exact ⟨_, (by show ((t' : Int)).toNat < ((t : Int)).toNat; omega), rfl, rfl, g2, t', rfl, k1, k2, k3, k4⟩
        refine ⟨_, rfl, _, rfl, _, rfl, _, _, rfl, rfl, cmulL hpl, _, _, rfl, rfl, cdivN pp0 hpp, ?_⟩
        exact ⟨rfl, g', t / (p * p), rfl, ds.1, by omega, by omega, h4, ds.2⟩
      · have em' : ¬ t % (p * p) = 0 := fun z => em (congrArg Int.ofNat z)
        rw [sqs_stop em'] at h4
        refine ⟨_, rfl, _, rfl, _, _, rfl, rfl, (by show (0 : Int) < (p : Int); omega), rfl, _, rfl, ifI (fun ep => ?_) fun ep => ?_⟩
        · have ep' : t % p = 0 := Int.ofNat.inj ep
          have hg := wsq_go1 (f := f') (b := b) e' h4.symm ep'
          rw [hw] at hg
          have ds := div_small ep' h1 p2
          refine ⟨_, rfl, _, rfl, _, _, rfl, rfl, cdivN (by omega) hpl, ?_⟩
          refine ⟨_, rfl, _, rfl, _, _, rfl, rfl, cmulR hpl, ?_⟩
          refine ⟨_, rfl, _, _, rfl, rfl, ?_⟩
          exact ⟨rfl, f', t / p, p + 1, b * p, rfl, ds.1, by omega, by omega, by omega, by omega, hg.symm, by omega, rfl⟩
        · have ep' : ¬ t % p = 0 := fun z => ep (congrArg Int.ofNat z)
          have hg := wsq_go2 (f := f') (b := b) e' h4.symm ep'
          rw [hw] at hg
          refine ⟨_, rfl, _, _, rfl, rfl, ?_⟩
          exact ⟨rfl, f', t, p + 1, b, rfl, h1, by omega, by omega, by omega, by omega, hg.symm, by omega, rfl⟩
    · have e' : ¬ p * p * p ≤ r := fun z => e (Int.ofNat_le.mpr z)
      rw [wsq_stop e'] at hw
      subst hw
      dsimp only at q
      have hi := isqrt_le r
      refine ⟨_, rfl, _, rfl, by omega, by omega, ?_⟩
      refine ⟨_, rfl, _, rfl, _, _, rfl, rfl, cmulL (n := Float64.isqrt r) (by omega), _, rfl, rfl, _, rfl, ifI (fun er => ?_) fun er => ?_⟩
      · rw [if_pos (show Float64.isqrt r * Float64.isqrt r = r from Int.ofNat.inj er)] at q
        exact ⟨_, rfl, q⟩
      · rw [if_neg (show ¬ Float64.isqrt r * Float64.isqrt r = r from fun z => er (congrArg Int.ofNat z))] at q
        exact ⟨_, rfl, _, rfl, _, _, rfl, rfl, cmulR (by omega), q⟩
theorem ok_any_sign_of (D : Df K mg "any_sign_of" s_any_sign_of ["m"]) (c_without_squares : Cal P w K mg base 1 "without_squares" sp_without_squares) : Cal P w K mg base 2 "any_sign_of" sp_any_sign_of := by
  obtain ⟨f, fd, F, m, b⟩ := D.ex
  have sc := sc_any_sign_of
  refine ⟨f, fd, _, F.ok sc sp1_len (fun cdv A outer s H vs Q E hr h => ?_), m, F.kp, b⟩
  obtain ⟨z, rfl, hz, q⟩ := h
  replace q : Q (.int (anySign z)) H := q
  refine ⟨_, (pss_cons (ps_set (i := 1) sc.nd rfl (Or.inl rfl) (pe_c c_without_squares hr (by decide) (by rfl) (pa_cons (pv 0) pa_nil)))
      (pss_one (ps_ret (pe_ifExp (pt_cmpR op_eq (pe_op op_mod (pv 1) pe_int) pe_int (nomark _)) (pv 1) (pe_op op_mul pe_int (pv 1)))))), ?_⟩
  unfold anySign at q
  refine ⟨_, rfl, z, rfl, hz, ?_⟩
  refine ⟨_, rfl, _, _, rfl, rfl, (by show (0 : Int) < 4; decide), rfl, _, rfl, ifI (fun e => ?_) fun e => ?_⟩
  · rw [if_pos e] at q; exact ⟨_, rfl, q⟩
  · rw [if_neg e] at q; exact ⟨_, rfl, _, _, rfl, rfl, .inl ⟨by decide, by decide⟩, q⟩
theorem ok_is_sign (D : Df K mg "is_sign" s_is_sign ["thing"]) (c_any_sign_of : Cal P w K mg base 2 "any_sign_of" sp_any_sign_of) (c_is_between : Cal P w K mg base 2 "is_between" sp_is_between) : Cal P w K mg base 3 "is_sign" sp_is_sign := by
  obtain ⟨f, fd, F, m, b⟩ := D.ex
  have sc := sc_is_sign
  refine ⟨f, fd, _, F.ok sc sp1_len (fun cdv A outer s H vs Q E hr h => ?_), m, F.kp, b⟩
  obtain ⟨z, rfl, _, q⟩ := h
  replace q : Q (.bl (isSign z)) H := q
  refine ⟨_, (pss_one (ps_ret (pe_and (pe_c c_is_between hr (by decide) (by rfl) (pa_cons (pv 0) (pa_cons (pe_un un_neg pe_int) (pa_cons pe_int pa_nil)))) (pe_and (pe_cmpR op_ne (pv 0) pe_int (nomark _)) (pe_one (pe_cmpR op_eq (pe_c c_any_sign_of hr (by decide) (by rfl) (pa_cons (pv 0) pa_nil)) (pv 0) (nomark _))))))), ?_⟩
  unfold isSign at q
  refine ⟨_, rfl, _, rfl, z, -400, 400, rfl, trivial, _, rfl, ?_⟩
  cases e1 : decide (-400 ≤ z)
  · rw [e1] at q; exact iteF q
  · cases e2 : decide (z ≤ 400)
    · rw [e1, e2] at q; exact iteF q
    · rw [e1, e2] at q
      refine iteT ?_
      refine ⟨_, rfl, rfl, _, rfl, ifNI (fun e => ?_) fun e => ?_⟩
      · rw [decide_eq_true e] at q
        have k1 := of_decide_eq_true e1
        have k2 := of_decide_eq_true e2
        refine ⟨_, rfl, z, rfl, ⟨e, by omega⟩, _, rfl, rfl, ?_⟩
        have ee : decide (V.int (anySign z) = V.int z) = decide (anySign z = z) := by
          by_cases h : anySign z = z
          · rw [decide_eq_true h, h]; exact decide_eq_true rfl
          · rw [decide_eq_false h]; exact decide_eq_false fun k => h (V.int.inj k)
        show Q (.bl (decide (V.int (anySign z) = V.int z))) H
        rw [ee]
        exact q
      · rw [show decide (z ≠ 0) = false from decide_eq_false fun k => k e] at q
        exact q
theorem ok_check_sign (D : Df K mg "check_sign" s_check_sign ["sign"]) (c_is_sign : Cal P w K mg base 3 "is_sign" sp_is_sign) : Cal P w K mg base 4 "check_sign" sp_check_sign := by
  obtain ⟨f, fd, F, m, b⟩ := D.ex
  have sc := sc_check_sign
  refine ⟨f, fd, _, F.ok sc sp1_len (fun cdv A outer s H vs Q E hr h => ?_), m, F.kp, b⟩
  obtain ⟨z, rfl, hs, q⟩ := h
  refine ⟨_, (pss_one (ps_if (pt_not (pt_val (pe_c c_is_sign hr (by decide) (by rfl) (pa_cons (pv 0) pa_nil))))
      (pss_one ps_never)
      pss_nil)), ?_⟩
  refine ⟨_, rfl, z, rfl, trivial, _, rfl, ?_⟩
  rw [show isSign z = true from hs]
  exact iteF q
theorem isSign_le {z : Int} (h : isSign z = true) : z.natAbs ≤ 400 ∧ z ≠ 0 ∧ anySign z = z := by
  unfold isSign at h
  simp only [Bool.and_eq_true, decide_eq_true_eq] at h
  omega
theorem fn_sign_at {f : Addr} {fd : FuncData} (F : Fun K "sign_at" "sign_at" s_sign_at f fd) (c_check_sign : Cal P w K mg base 4 "check_sign" sp_check_sign) (c_check_integer : Cal P w K mg base 2 "check_integer" sp_check_integer) (c_value_at : Cal P w K mg base 2 "value_at" sp_value_at) : FnOk P w K mg base CX0 5 f fd ["sign", "n"] sp_sign_at := by
  have sc := sc_sign_at
  refine F.ok sc sp2_len (fun cdv A outer s H vs Q E hr h => ?_)
  obtain ⟨z, n, rfl, hz, q⟩ := h
  have hl := isSign_le hz
  refine ⟨_, (pss_cons (ps_expr (pe_c c_check_sign hr (by decide) (by rfl) (pa_cons (pv 0) pa_nil)))
      (pss_cons (ps_expr (pe_c c_check_integer hr (by decide) (by rfl) (pa_cons (pv 1) pa_nil)))
      (pss_one (ps_ret (pe_c c_value_at hr (by decide) (by rfl) (pa_cons (pv 0) (pa_cons (pv 1) pa_nil))))))), ?_⟩
  refine ⟨_, rfl, z, rfl, hz, ?_⟩
  refine ⟨_, rfl, n, rfl, trivial, ?_⟩
  exact ⟨_, rfl, _, rfl, z, n, rfl, hl.2.1, q⟩
theorem ok_sign_at (D : Df K mg "sign_at" s_sign_at ["sign", "n"]) (c_check_sign : Cal P w K mg base 4 "check_sign" sp_check_sign) (c_check_integer : Cal P w K mg base 2 "check_integer" sp_check_integer) (c_value_at : Cal P w K mg base 2 "value_at" sp_value_at) : Cal P w K mg base 5 "sign_at" sp_sign_at := by
  obtain ⟨f, fd, F, m, b⟩ := D.ex
  exact ⟨f, fd, _, fn_sign_at F c_check_sign c_check_integer c_value_at, m, F.kp, b⟩
theorem mul_le_160000 {a b : Int} (ha : a.natAbs ≤ 400) (hb : b.natAbs ≤ 400) : (a * b).natAbs ≤ 160000 := by
  rw [Int.natAbs_mul]
  exact Nat.mul_le_mul ha hb
theorem fn_joined_sign {f : Addr} {fd : FuncData} (F : Fun K "joined_sign" "joined_sign" s_joined_sign f fd) (c_check_sign : Cal P w K mg base 4 "check_sign" sp_check_sign) (c_any_sign_of : Cal P w K mg base 2 "any_sign_of" sp_any_sign_of) : FnOk P w K mg base CX0 5 f fd ["one", "other"] sp_joined_sign := by
  have sc := sc_joined_sign
  refine F.ok sc sp2_len (fun cdv A outer s H vs Q E hr h => ?_)
  obtain ⟨x, y, rfl, ⟨hx, hy⟩, q⟩ := h
  have lx := isSign_le hx
  have ly := isSign_le hy
  refine ⟨_, (pss_cons (ps_expr (pe_c c_check_sign hr (by decide) (by rfl) (pa_cons (pv 0) pa_nil)))
      (pss_cons (ps_expr (pe_c c_check_sign hr (by decide) (by rfl) (pa_cons (pv 1) pa_nil)))
      (pss_one (ps_ret (pe_c c_any_sign_of hr (by decide) (by rfl) (pa_cons (pe_op op_mul (pv 0) (pv 1)) pa_nil)))))), ?_⟩
  refine ⟨_, rfl, x, rfl, hx, ?_⟩
  refine ⟨_, rfl, y, rfl, hy, ?_⟩
  exact ⟨_, rfl, _, rfl, _, _, rfl, rfl, .inl ⟨by omega, by omega⟩, _, rfl, ⟨Int.mul_ne_zero lx.2.1 ly.2.1, mul_le_160000 lx.1 ly.1⟩, q⟩
end
end Ft

/-! Defs that are called where no repr is under way (A.guards = some []): their texts may say repr of a list or a tuple. -/
namespace Ft
open PySem L2 PySem.Spec PyProof.Rows

structure FnG (P : Program) (w : World) (K : PySem.W.Frag) (mg : Str → Option Value) (base : Heap) (k : Nat) (f : Addr) (fd : FuncData) (ps : List Str) (sp : Sp) : Prop where
  len : ∀ vs H Q E, sp vs H Q E → vs.length = ps.length
  go : ∀ (A : Around) (outer : List Env) (s : Shared) (H : Hp) (args : Args) (us : List Value) (vs : List V) (Q : VK) (E : XK), A.guards = some [] → Room k A →
    Env0 P w K mg base A outer s H → BindsTo s fd args (ps.zip us) → Vals vs us → sp vs H Q E → codeAny (model P w) A (.call (.ref f) args) (CR CX0 outer P w H s Q E) s
theorem FnG.of {P : Program} {w : World} {K : PySem.W.Frag} {mg : Str → Option Value} {base : Heap} {k : Nat} {f : Addr} {fd : FuncData} {ps : List Str} {sp : Sp} (F : FnOk P w K mg base CX0 k f fd ps sp) : FnG P w K mg base k f fd ps sp :=
  ⟨F.len, fun A outer s H args us vs Q E _ => F.run A outer s H args us vs Q E⟩
/-- what may be called for, where no repr is under way -/
structure CalG (P : Program) (w : World) (K : PySem.W.Frag) (mg : Str → Option Value) (base : Heap) (k : Nat) (x : Str) (sp : Sp) : Prop where
  ex : ∃ (f : Addr) (fd : FuncData) (ps : List Str), FnG P w K mg base k f fd ps sp ∧ mg x = some (.ref f) ∧ PySem.W.keepIn K (.ref f) = true ∧ Binds K fd ps []
section
variable {X : Cx} {k j : Nat} {x : Str} {sp : Sp} {p pos : Pos} {e : Expr} {es : List Expr} {t : TA}
theorem pe_g (c : CalG X.prog X.w X.K X.mg X.base k x sp) (hgd : X.A.guards = some []) (hr : Room j X.A) (hk : k ≤ j) (hg : Gl X x) (ha : PA X (e :: es) t)
    (hdb : (x == ("__debug__" : Str)) = false := by decide) (he : starEach (e :: es) X.env = (false, eval e X.env) :: starEach es X.env := by rfl) (hpl : (backTo pos (starEach es X.env)).any (·.1) = false := by rfl) :
    PE X (.Call (.Name x p) (e :: es) [] pos) (tCall sp [] E0 t) := by
  obtain ⟨f, fd, ps, F, hm, kp, b⟩ := c.ex
  refine ⟨fun pins s σ H Q I h => wpAny_Call_Name_kw (ld_glob I hg hm ?_ hdb)⟩
  refine PySem.W.callWith_K (h₀ := X.base) I.ok.mod.kin kp (thn (ha.run pos pins s σ H _ I h) fun us s1 ⟨vs, H1, I1, rv, q1⟩ => ⟨I1.kIn, ?_⟩) he hpl
  have rv' : Vals (vs ++ []) us := by rw [List.append_nil]; exact rv
  have hl : us.length = ps.length := by
    have z := F.len _ _ _ _ q1
    rw [rv'.length] at z
    exact z
  have bd := b s1 us I1.kIn (by rw [List.append_nil]; exact hl)
  rw [List.append_nil] at bd
  refine wpAny_call (codeAny_mono (F.go X.A X.stack s1 H1 ⟨us, []⟩ us (vs ++ []) Q E0 hgd (hr.mono hk) I1.env0 bd rv' q1) fun r s2 hq => ?_)
  match r, hq with
  | .error _, hq => exact (hq : False).elim
  | .ok (.ret _), hq => exact I1.after hq
  | .ok .next, hq => exact (hq : False).elim
  | .ok .brk, hq => exact (hq : False).elim
  | .ok .cont, hq => exact (hq : False).elim
end
/-- a def by its body, where no repr is under way -/
theorem fun_g {P : Program} {w : World} {K : PySem.W.Frag} {mg : Str → Option Value} {base : Heap} {x qual : Str} {st : Stmt} {f : Addr} {fd : FuncData} {N ps : List Str} {k : Nat} {sp : Sp} (F : Fun K x qual st f fd) (S : FnScope N ps (defScope st))
    (len : ∀ vs H Q E, sp vs H Q E → vs.length = ps.length)
    (body : ∀ (cdv : Value) (A : Around) (outer : List Env) (s : Shared) (H : Hp) (vs : List V) (Q : VK) (E : XK), (A.deeper (envOfC qual (defScope st) s.heap.objs.size f cdv)).guards = some [] →
      Room k (A.deeper (envOfC qual (defScope st) s.heap.objs.size f cdv)) → sp vs H Q E →
      ∃ t, PSs (cxOf CX0 P w K mg base N qual (defScope st) f cdv A outer s H E).nox (defBody st) t ∧ t { nx := fun _ H' => Q .non H', rt := Q } (start N vs) H) : FnG P w K mg base (k + 1) f fd ps sp := by
  obtain ⟨oc, od, kV, doc, pm, an, cdv, ct, osl, rfl, lk, hcd⟩ := F.ex
  refine ⟨len, fun A outer s H args us vs Q E hgd hr e0 hb rv hsp => ?_⟩
  have inK : K.In s.heap := e0.mod.kin.keeps fun b o e => (e0.bs b o e).1
  have noL : s.heap.NoLimit := e0.mod.nolimit.keeps fun b o e => (e0.bs b o e).1
  have kinds : ∀ y ∈ ps.zip us, (defScope st).names.lookup y.1 = some .local ∨ ((defScope st).names.lookup y.1 = some .cell ∧ ((cellsFrom (s.heap.objs.size + 1) (defScope st).names []).lookup y.1).isSome = true) := by
    intro y hy
    rcases S.par y.1 (List.of_mem_zip hy).1 with q | q
    · exact .inl q
    · exact .inr ⟨q, PySem.W.cellsFrom_some _ _ _ (.inl q)⟩
  refine codeAny_call_function hr.depth (inK _ _ lk) rfl S.co S.gen rfl (PySem.W.codeRec_of inK hcd) (hb _ _ _ _ ?_)
  refine wpAny_newFunctionEnv_cells S.kind kinds fun env he s1 made => ?_
  subst he
  refine ⟨noL.keeps made.toInCall.keep, codeAny_func ?_⟩
  obtain ⟨t, ht, hq⟩ := body cdv A outer s H vs Q E hgd (hr.deeper _) hsp
  have J0 : Inv (cxOf CX0 P w K mg base N qual (defScope st) f cdv A outer s H E) [] (start N vs) H s1 := inv_start S hr.hd e0 (len _ _ _ _ hsp) rv made
  refine wpAny_mono (ht.nox.run [] s1 (start N vs) H _ J0 hq) (fun fl s' hs => ?_) fun _ _ hs => hs
  match fl, hs with
  | .ret u, hs =>
    obtain ⟨v, σ', H', J, rv', q⟩ := hs
    exact ⟨v, H', J.os, J.bare, J.base, J.hok, rv', q⟩
  | .next, hs =>
    obtain ⟨σ', H', J, q⟩ := hs
    exact ⟨V.non, H', J.os, J.bare, J.base, J.hok, rfl, q⟩
  | .brk, hs => exact (hs.choose_spec.choose_spec.2 : False).elim
  | .cont, hs => exact (hs.choose_spec.choose_spec.2 : False).elim
end Ft

/-! The law's call, from a promise that holds where no repr is under way. -/
namespace Ft
open PySem L2 PySem.Spec PyProof.Rows

/-- the heap behind the top, seen with the script tracked (or nothing) -/
theorem call_of {P : Program} {w : World} {K : PySem.W.Frag} {mg mb : Str → Option Value} {k : Nat} {fa a : Addr} {fd : FuncData} {x : Str} {sp : Sp} {s1 : Shared} {vs : List Value} {H : Hp}
    (inK : K.In s1.heap) (hns : s1.heap.Ns mainGlobals mg) (hb : s1.heap.Ns builtinsNs mb) (hbb : ∀ x : Str, x ≠ "__name__" → mb x = bootBuiltins x) (hlim : s1.heap.NoLimit) (hg : s1.gens = #[])
    (ha : s1.heap.get? a = some { cls := .type "list", data := .seq vs.toArray }) (hr : Room k callerA)
    (F : ∀ base : Heap, K.In base → base.Ns mainGlobals mg → FnG P w K mg base k fa fd [x] sp) (hbind : ∀ (s : Shared) (u : Value), BindsTo s fd ⟨[u], []⟩ [(x, u)])
    (hO : Only H) (hp : sp [.ref a] H (fun v _ => v = .bl true) fun _ _ _ => False) (hok : HOk P w H s1.heap) (only : ∀ b, H b ≠ none → b = a) (notK : H a ≠ none → K.lookup a = none) :
    codeAny (model P w) callerA (.call (.ref fa) ⟨[.ref a], []⟩) (fun r s2 => r = .ok (.ret (.bool true)) ∧ OldK s1.heap s2.heap ∧ s2.os = s1.os ∧ AllBare s2.gens) s1 := by
  have below : ∀ {b : Addr} {o : Obj}, s1.heap.get? b = some o → H b = none → (hidT s1.heap H).get? b = some o := fun e n => hidT_get e n
  have dictFree : ∀ {b : Addr} {o : Obj} {es : Array DictEntry} {ep : Nat}, s1.heap.get? b = some o → o.data = .dict es ep → H b = none := by
    intro b o es ep e d
    cases q : H b with
    | none => rfl
    | some z =>
      obtain rfl : b = a := only b (fun n => by rw [n] at q; cases q)
      rw [ha] at e
      cases e
      exact absurd (show Data.seq vs.toArray _ = Data.dict es ep from d) (fun z => by cases z)
  have spaces : ∀ {b : Addr} {m : Str → Option Value}, s1.heap.Ns b m → (hidT s1.heap H).Ns b m := fun {b m} ⟨o, es, ep, e, d, r⟩ => ⟨o, es, ep, below e (dictFree e d), d, r⟩
  have inB : K.In (hidT s1.heap H) := by
    intro b o e
    refine below (inK b o e) ?_
    cases q : H b with
    | none => rfl
    | some z =>
      have nz : H b ≠ none := fun n => by rw [n] at q; cases q
      obtain rfl : b = a := only b nz
      rw [notK nz] at e
      cases e
  have hM : Mod K mg (hidT s1.heap H) := ⟨inB, spaces hns, ⟨mb, spaces hb, hbb⟩, hlim.elim fun mc z => ⟨mc, spaces z.1, z.2⟩⟩
  have noFr : ∀ b ∈ frs ([] : List Env), H b = none := fun b z => absurd (show b ∈ ([] : List Addr) from z) List.not_mem_nil
  have e0 : Env0 P w K mg (hidT s1.heap H) callerA [] s1 H := ⟨rfl, hM, fun b o e => of_hidT e, Nat.le_of_eq (hidT_size _ _), trivial, noFr, hok, .of_eq hg⟩
  refine codeAny_mono ((F _ inB (spaces hns)).go callerA [] s1 H ⟨[.ref a], []⟩ [.ref a] [.ref a] _ _ rfl hr e0 (hbind s1 (.ref a)) (.cons rfl .nil) hp) fun r s2 h => ?_
  match r, h with
  | .error _, h => exact (h : False).elim
  | .ok .next, h => exact (h : False).elim
  | .ok .brk, h => exact (h : False).elim
  | .ok .cont, h => exact (h : False).elim
  | .ok (.ret u), h =>
    obtain ⟨v, H2, os, bare, un, hok2, rv, q⟩ := h
    obtain rfl : v = .bl true := q
    obtain rfl : u = Value.bool true := rv
    refine ⟨rfl, OldK.of_keep fun b o e => ?_, os, bare⟩
    cases q : H b with
    | none => exact un.keep b o e q (fun z => absurd (show b ∈ ([] : List Addr) from z) List.not_mem_nil) List.not_mem_nil
    | some z =>
      rcases hO b with n | ⟨ob, xs, y⟩
      · rw [q] at n; cases n
      · have k1 := (hok b _ y).1
        have k2 := (hok2 b _ (un.frzs b ob _ y)).1
        rw [e] at k1
        cases k1
        exact k2
/-- what k_head leaves, from the law's promise -/
theorem walk_g {l : PySem.W.OpenLaw} {n k : Nat} {q : Program} {loose : List Str} {XP : (Str → Option Value) → Heap → Prop} {YP : World → Heap → Prop} {d : DefRec} {K : Params → PySem.W.Frag} {sp : PySem.W.Frag → Sp} {x : Str}
    (hn : l.most = some n) (hn2 : n ≤ sizeLine) (hdf : d.params.defaults = []) (hr : Room k callerA)
    (hY : ∀ (w : World) (h : Heap), YP w h → (K w.params).In h)
    (F : ∀ (w : World) (mg : Str → Option Value) (fa : Addr) (h : Heap), (K w.params).In h → h.Ns mainGlobals mg → mg d.name = some (.ref fa) →
      ∃ fd : FuncData, (∀ (s : Shared) (u : Value), BindsTo s fd ⟨[u], []⟩ [(x, u)]) ∧
        ∀ base : Heap, (K w.params).In base → base.Ns mainGlobals mg → FnG l.prog w (K w.params) mg base k fa fd [x] (sp (K w.params)))
    (hsp : ∀ (K : PySem.W.Frag) (H : Hp) (a : Addr) (ns : List Int), ns.length ≤ n → SqL K H a (ns.map V.int) → sp K [.ref a] H (fun v _ => v = .bl true) fun _ _ _ => False) :
    PySem.W.WalkO q loose XP YP l.row.toRowW d [] (fun f vs => PySem.call f vs) := by
  refine Att.attach_call hn hdf fun w s0 s1 mg mb fa o pm cd doc a vs ns G Y ho hd hcd hmg hobj hints hlen hg => ?_
  have inK := hY w _ Y
  obtain ⟨fd, hb, hF⟩ := F w mg fa _ inK G.T.g hmg
  have rv := vals_ints hints
  have lv := hints.length
  have main := fun (H : Hp) (hO : Only H) (hS : SqL (K w.params) H a (ns.map V.int)) => call_of (H := H) inK G.T.g G.T.b G.T.builtins G.T.nolimit hg hobj hr hF hb hO (hsp (K w.params) H a ns hlen hS)
  cases hk : (K w.params).lookup a with
  | some ob =>
    have e := inK a ob hk
    rw [hobj] at e
    cases e
    have none_ : ∀ {b : Addr} {z : HO}, (fun _ => none : Hp) b = some z → False := fun z => by cases z
    exact main (fun _ => none) (fun _ => .inl rfl) (.inr ⟨_, vs.toArray, _, hk, rfl, rfl, rfl, by rw [List.size_toArray, lv]; exact Nat.le_trans hlen hn2, by simpa using rv⟩) (fun b z y => (none_ (b := b) y).elim) (fun b z => absurd rfl z) fun z => absurd rfl z
  | none =>
    let ob : Obj := { cls := .type "list", data := .seq vs.toArray }
    have at_a : ∀ {b : Addr}, b = a → (fun b => if b = a then some (HO.frz ob (.lst (ns.map V.int))) else none : Hp) b = some (.frz ob (.lst (ns.map V.int))) := fun h => if_pos h
    have off_a : ∀ {b : Addr}, ¬ b = a → (fun b => if b = a then some (HO.frz ob (.lst (ns.map V.int))) else none : Hp) b = none := fun h => if_neg h
    refine main (fun b => if b = a then some (.frz ob (.lst (ns.map V.int))) else none) (fun b => ?_) (.inl (.inr ⟨ob, at_a rfl⟩)) (fun b u z => ?_) (fun b z => ?_) fun _ => hk
    · exact (Decidable.em (b = a)).elim (fun h => .inr ⟨_, _, at_a h⟩) fun h => .inl (off_a h)
    · by_cases h : b = a
      · have y := (at_a h).symm.trans z
        cases y
        subst h
        exact ⟨hobj, by rw [List.length_map]; exact Nat.le_trans hlen hn2, vs, _, rv, hobj⟩
      · exact absurd ((off_a h).symm.trans z) (fun y => by cases y)
    · exact (Decidable.em (b = a)).elim id fun h => absurd (off_a h) z
end Ft

/-! repr of data; the deck of draws -/
namespace Ft
open PySem L2 PySem.Spec PyProof.Rows

def rRepr (K : PySem.W.Frag) : List V → Hp → VK → Prop := fun xs H Q => ∃ a d, xs = [.ref a] ∧ Dp K H (.ref a) d ∧ d.showable = true ∧ d.hasDict = false ∧ d.depth ≤ 64 ∧ d.shown.length ≤ sizeLine ∧ Q (.str d.shown) H
theorem call_repr {X : Cx} {k : Nat} (hgd : X.A.guards = some []) (hr : Room k X.A) : CallR X (.builtin "repr") (rRepr X.K) := by
  intro pins s σ H xs us Q I r h
  obtain ⟨a, d, rfl, hd, h1, h2, h3, h4, q⟩ := h
  obtain ⟨u, rfl, rx⟩ := vals1 r
  obtain ⟨as, rd⟩ := Dp.reads I d (.ref a) u hd rx
  obtain rfl : u = Value.ref a := rx
  exact repr_of_reads' rd h1 (fun z => by rw [h2] at z; cases z) hgd (by have := hr.un; omega) (fun _ _ e => e) (fun h' u tk kept => ⟨.str d.shown, H, I.kept kept, ⟨_, rfl⟩, q⟩) h4

/-! ### the deck -/
def kCells : Key := .inr "cells"
def kMixed : Key := .inr "mixed"
def kDraws : Key := .inr "draws"
theorem ncm : ¬ kCells = kMixed := by decide +kernel
theorem ncd : ¬ kCells = kDraws := by decide +kernel
theorem nmd : ¬ kMixed = kDraws := by decide +kernel
theorem nmc : ¬ kMixed = kCells := by decide +kernel
theorem ndc : ¬ kDraws = kCells := by decide +kernel
def deckL (l : Addr) (mx dr : Int) : List (Key × V) := [(kCells, .ref l), (kMixed, .int mx), (kDraws, .int dr)]
theorem deck_cells {l : Addr} {mx dr : Int} : valV (deckL l mx dr) kCells = some (.ref l) := valV_pos rfl
theorem deck_mixed {l : Addr} {mx dr : Int} : valV (deckL l mx dr) kMixed = some (.int mx) := by
  unfold deckL
  rw [valV_neg ncm]
  exact valV_pos rfl
theorem deck_draws {l : Addr} {mx dr : Int} : valV (deckL l mx dr) kDraws = some (.int dr) := by
  unfold deckL
  rw [valV_neg ncd, valV_neg nmd]
  exact valV_pos rfl
theorem deck_put {l : Addr} {mx dr z : Int} : putK (deckL l mx dr) kDraws (.int z) = deckL l mx z := by
  unfold putK deckL
  rw [if_pos (by simp)]
  simp only [List.map_cons, List.map_nil, if_neg ncd, if_neg nmd, if_true]
/-- a deck at d, its list at l -/
def DeckAt (H : Hp) (d l : Addr) : Prop := ∃ (mx dr : Int) (cs : List Int), H d = some (.dK (deckL l mx dr)) ∧ H l = some (.lst (cs.map V.int)) ∧ cs.length ≤ 63
/-- all that was tracked is as it was, but at d and l -/
def But (d l : Addr) (H H' : Hp) : Prop := ∀ b o, H b = some o → b ≠ d → b ≠ l → H' b = some o
theorem But.refl {d l : Addr} {H : Hp} : But d l H H := fun _ _ h _ _ => h
theorem But.trans {d l : Addr} {H H1 H2 : Hp} (a : But d l H H1) (b : But d l H1 H2) : But d l H H2 := fun c o h h1 h2 => b c o (a c o h h1 h2) h1 h2
theorem But.of {d l : Addr} {H H' : Hp} (s : Same H H') : But d l H H' := fun b o h _ _ => s b o h
theorem Same.upd_new {H : Hp} {p : Addr} {o : HO} (h : H p = none) : Same H (upd H p o) := fun b u e => by rw [upd_ne (ne_of_none e h)]; exact e
theorem DeckAt.same {H H' : Hp} {d l : Addr} (D : DeckAt H d l) (s : Same H H') : DeckAt H' d l := by
  obtain ⟨mx, dr, cs, h1, h2, h3⟩ := D
  exact ⟨mx, dr, cs, s _ _ h1, s _ _ h2, h3⟩
theorem DeckAt.ne {H : Hp} {d l : Addr} (D : DeckAt H d l) : d ≠ l := by
  obtain ⟨mx, dr, cs, h1, h2, h3⟩ := D
  exact ne_of h1 h2 (by intro z; cases z)
/-- a new address is neither -/
theorem DeckAt.new {H : Hp} {d l p : Addr} (D : DeckAt H d l) (h : H p = none) : p ≠ d ∧ p ≠ l := by
  obtain ⟨mx, dr, cs, h1, h2, h3⟩ := D
  exact ⟨fun e => (by rw [e, h1] at h; cases h), fun e => (by rw [e, h2] at h; cases h)⟩
/-- draws: from 0 to below many; the deck stays a deck, all else stays -/
def sp_draw : Sp := fun vs H Q _ => ∃ (d l : Addr) (n : Int), vs = [.ref d, .int n] ∧ DeckAt H d l ∧ 0 < n ∧ n < 2 ^ 64 ∧ ∀ (H' : Hp) (r : Int), DeckAt H' d l → But d l H H' → 0 ≤ r → r < n → Q (.int r) H'
theorem sp_draw_len : ∀ vs H Q E, sp_draw vs H Q E → vs.length = 2 := fun _ _ _ _ ⟨_, _, _, e, _⟩ => by rw [e]; rfl
theorem dp_ints {K : PySem.W.Frag} {H : Hp} : ∀ ns : List Int, DpAll K H (ns.map V.int) (ns.map PyData.int)
  | [] => .nil
  | n :: ns => .cons (.int n) (dp_ints ns)
theorem eqv_nil : ∀ ds : List PyData, PyData.eqv (.list ds) (.list []) = ds.isEmpty
  | [] => rfl
  | _ :: _ => rfl
theorem deck_merge {l : Addr} {mx dr : Int} : mergeK [] (deckL l mx dr) = deckL l mx dr := by
  unfold mergeK deckL
  simp only [List.foldl_cons, List.foldl_nil]
  have h1 : putK ([] : List (Key × V)) kCells (.ref l) = [(kCells, V.ref l)] := rfl
  rw [h1]
  have h2 : putK [(kCells, V.ref l)] kMixed (.int mx) = [(kCells, V.ref l), (kMixed, V.int mx)] := putK_new _ (by rw [valV_neg ncm]; rfl)
  rw [h2]
  exact putK_new _ (by rw [valV_neg ncd, valV_neg nmd]; rfl)
/-- a slice of ints is one -/
theorem cut_ints (ns : List Int) (lo hi : Option Int) : ∃ ms : List Int, cutV (ns.map V.int) lo hi = ms.map V.int ∧ ms.length ≤ ns.length := by
  have hl := cutV_length (ns.map V.int) lo hi
  rw [List.length_map] at hl
  have h : cutV (ns.map V.int) lo hi = ((ns.drop (HT.sIx (ns.map V.int).length 0 lo)).take (HT.sIx (ns.map V.int).length (ns.map V.int).length hi - HT.sIx (ns.map V.int).length 0 lo)).map V.int := by
    unfold cutV
    rw [List.map_take, List.map_drop]
  refine ⟨_, h, ?_⟩
  rw [h, List.length_map] at hl
  exact hl
theorem int_at {ns : List Int} {i : Nat} {v : V} (h : (ns.map V.int)[i]? = some v) : ∃ z, v = .int z ∧ ns[i]? = some z := by
  rw [List.getElem?_map] at h
  cases e : ns[i]? with
  | none => rw [e] at h; cases h
  | some z => rw [e] at h; exact ⟨z, (Option.some.inj h).symm, rfl⟩
def sp_deck (K : PySem.W.Frag) : Sp := fun vs H Q _ => ∃ (a : Addr) (ns : List Int), vs = [.ref a] ∧ SqL K H a (ns.map V.int) ∧ ns.length ≤ 63 ∧ ∀ (H' : Hp) (d l : Addr), DeckAt H' d l → Same H H' → H d = none → H l = none → Q (.ref d) H'
theorem sp_deck_len {K : PySem.W.Frag} : ∀ vs H Q E, sp_deck K vs H Q E → vs.length = 1 := fun _ _ _ _ ⟨_, _, e, _⟩ => by rw [e]; rfl
/-- an item of a list that stands -/
def sp_pick (K : PySem.W.Frag) : Sp := fun vs H Q _ => ∃ (d l p : Addr) (xs : List V), vs = [.ref d, .ref p] ∧ DeckAt H d l ∧ (H p = some (.lst xs) ∧ p ≠ l ∨ H p = some (.tup xs)) ∧ 0 < xs.length ∧ xs.length < 2 ^ 64 ∧
  ∀ (H' : Hp) (v : V), DeckAt H' d l → But d l H H' → v ∈ xs → Q v H'
theorem sp_pick_len {K : PySem.W.Frag} : ∀ vs H Q E, sp_pick K vs H Q E → vs.length = 2 := fun _ _ _ _ ⟨_, _, _, _, e, _⟩ => by rw [e]; rfl
end Ft

namespace Ft
open PySem L2
theorem canLay_ints : ∀ ns : List Int, PyData.canLayAll0 (ns.map PyData.int) = true
  | [] => rfl
  | n :: ns => by
    show (true && PyData.canLayAll0 (ns.map PyData.int)) = true
    rw [canLay_ints ns]
    rfl
theorem depth_ints : ∀ ns : List Int, PyData.depthAll (ns.map PyData.int) = 0
  | [] => rfl
  | n :: ns => by
    show max 0 (PyData.depthAll (ns.map PyData.int)) = 0
    rw [depth_ints ns]
    rfl
theorem shaped_ints (ns : List Int) : SeqAt.shaped (.list (ns.map PyData.int)) = true := by
  unfold SeqAt.shaped
  rw [show PyData.canLay0 (.list (ns.map PyData.int)) = true from canLay_ints ns, show PyData.depth (.list (ns.map PyData.int)) = 0 + 1 from by rw [← depth_ints ns]; rfl]
  rfl
section
variable {P : Program} {w : World} {K : PySem.W.Frag} {mg : Str → Option Value} {base : Heap}
theorem ok_draw (D : Df K mg "_law_draw" s__law_draw ["_law_deck_here", "_law_many"]) (B : Bi mg) : Cal P w K mg base 1 "_law_draw" sp_draw := by
  obtain ⟨f, fd, F, m, b⟩ := D.ex
  have sc := sc__law_draw
  refine ⟨f, fd, _, F.ok sc sp_draw_len (fun cdv A outer s H vs Q E hr h => ?_), m, F.kp, b⟩
  obtain ⟨d, l, n, rfl, DK, hn0, hn1, q⟩ := h
  have hu := hu_of hr
  have h64 : (A.deeper (PyProof.Rows.envOfC "_law_draw" (defScope s__law_draw) s.heap.objs.size f cdv)).units + 64 < cLine := by have := hr.un; omega
  refine ⟨_, (pss_cons (ps_dput hu (pv 0) pe_str (pe_op op_add (pe_dget hu (pv 0) pe_str (fun _ _ => rfl)) pe_int) rfl)
      (pss_cons (ps_set (i := 2) sc.nd rfl (Or.inl rfl) (pe_op op_add (pe_dget hu (pv 0) pe_str (fun _ _ => rfl)) (pe_op op_mul pe_int (pe_dget hu (pv 0) pe_str (fun _ _ => rfl)))))
      (pss_cons (ps_if (pt_cmpR (op_neD h64) (pe_dget hu (pv 0) pe_str (fun _ _ => rfl)) (pe_lst pa_nil) (nomark _))
      (pss_cons (ps_set (i := 3) sc.nd rfl (Or.inl rfl) (pe_bm0 PySem.F.plainAttrs_list PySem.F.slot_list_pop PySem.F.type_list_pop mt_pop (pe_dget hu (pv 0) pe_str (fun _ _ => rfl))))
        (pss_cons (ps_if (pt_cmpR op_ge (pv 3) (pe_op op_pow pe_int pe_int) (nomark _))
        (pss_cons (ps_expr (pe_bm PySem.F.plainAttrs_list PySem.F.slot_list_append PySem.F.type_list_append mt_append (pe_dget hu (pv 0) pe_str (fun _ _ => rfl)) (pa_cons (pe_op op_fdivW (pv 3) (pe_callB (call_max2 rfl) (by rfl) B.max_ (by decide +kernel) (pa_cons pe_int (pa_cons (pv 1) pa_nil)))) pa_nil)))
          (pss_one (ps_ret (pe_op op_mod (pe_callTy call_int1 (by rfl) B.int_ (by decide +kernel) (pa_cons (pv 3) pa_nil)) (pv 1)))))
        pss_nil)
        (pss_one (ps_set (i := 2) sc.nd rfl (Or.inl rfl) (pe_op op_add (pv 2) (pe_op op_mod (pe_callTy call_int1 (by rfl) B.int_ (by decide +kernel) (pa_cons (pv 3) pa_nil)) pe_int))))))
      pss_nil)
      (pss_cons (ps_set (i := 2) sc.nd rfl (Or.inl rfl) (pe_op op_mod (pe_callTy call_int1 (by rfl) B.int_ (by decide +kernel) (pa_cons (pe_op op_add (pe_op op_mul (pv 2) pe_int) pe_int) pa_nil)) pe_int))
      (pss_cons (ps_set (i := 2) sc.nd rfl (Or.inl rfl) (pe_op op_mod (pe_callTy call_int1 (by rfl) B.int_ (by decide +kernel) (pa_cons (pe_op op_add (pe_op op_add (pe_op op_mul (pv 2) (pv 2)) (pe_op op_mul pe_int (pe_dget hu (pv 0) pe_str (fun _ _ => rfl)))) pe_int) pa_nil)) pe_int))
      (pss_cons (ps_set (i := 2) sc.nd rfl (Or.inl rfl) (pe_op op_mod (pe_callTy call_int1 (by rfl) B.int_ (by decide +kernel) (pa_cons (pe_op op_mul (pv 2) pe_int) pa_nil)) pe_int))
      (pss_one (ps_ret (pe_op op_mod (pe_callTy call_int1 (by rfl) B.int_ (by decide +kernel) (pa_cons (pe_op op_fdivW (pv 2) pe_int) pa_nil)) (pv 1)))))))))), ?_⟩
  have dl := DK.ne
  obtain ⟨mx, dr, cs, hd, hl, hcs⟩ := DK
  -- draws + 1
  have gd := DGet.k (k := kDraws) hd
  rw [deck_draws] at gd
  have pd := DPut.k (k := kDraws) (v := .int (dr + 1)) hd (Nat.lt_of_le_of_lt (Nat.le_of_eq rfl : (deckL l mx dr).length ≤ 3) (by decide))
  rw [deck_put] at pd
  refine ⟨_, rfl, d, _, rfl, gd, _, _, rfl, rfl, _, rfl, d, _, rfl, pd, ?_⟩
  generalize hH1 : upd H d (.dK (deckL l mx (dr + 1))) = H1
  have hd1 : H1 d = some (.dK (deckL l mx (dr + 1))) := by rw [← hH1]; exact upd_same
  have hl1 : H1 l = some (.lst (cs.map V.int)) := by rw [← hH1, upd_ne dl.symm]; exact hl
  have b1 : But d l H H1 := fun b o e h1 h2 => by rw [← hH1, upd_ne h1]; exact e
  have gd1 := DGet.k (k := kDraws) hd1
  rw [deck_draws] at gd1
  have gm1 := DGet.k (k := kMixed) hd1
  rw [deck_mixed] at gm1
  have gc1 := DGet.k (k := kCells) hd1
  rw [deck_cells] at gc1
  refine ⟨_, rfl, d, _, rfl, gm1, _, rfl, d, _, rfl, gd1, _, _, rfl, rfl, .inl ⟨by decide, by decide⟩, _, _, rfl, rfl, ?_⟩
  dsimp only [gName]
  refine tSeq_join (fun σ H2 => ∃ (z : Int) (o : Option V), σ = [some (.ref d), some (.int n), some (.int z), o] ∧ DeckAt H2 d l ∧ But d l H H2) (fun N hN => ?_) ?_
  · -- if cells != []
    refine ⟨_, rfl, d, _, rfl, gc1, Nat.zero_le _, fun p hp => ?_⟩
    have s2 : Same H1 (upd H1 p (.lst [])) := Same.upd_new hp
    generalize hH2 : upd H1 p (.lst []) = H2 at s2
    have hd2 := s2 _ _ hd1
    have hl2 := s2 _ _ hl1
    have hp2 : H2 p = some (.lst []) := by rw [← hH2]; exact upd_same
    have b2 : But d l H H2 := b1.trans (But.of s2)
    have gc2 := DGet.k (k := kCells) hd2
    rw [deck_cells] at gc2
    refine ⟨_, _, .lst (SqL.of hl2) (dp_ints cs), .lst (SqL.of hp2) .nil, shaped_ints cs, by decide, _, rfl, ?_⟩
    rw [eqv_nil]
    cases hcc : cs with
    | nil =>
      refine iteF ?_
      exact hN _ _ ⟨_, none, rfl, ⟨mx, dr + 1, [], hd2, by rw [hcc] at hl2; exact hl2, by decide⟩, b2⟩
    | cons c0 cr =>
      refine iteT ?_
      -- cell = cells.pop()
      have hlast : ∃ c, (cs.map V.int)[(cs.map V.int).length - 1]? = some (V.int c) := by
        have hn : cs.length - 1 < cs.length := by rw [hcc]; exact Nat.sub_lt (Nat.succ_pos _) (by decide)
        exact ⟨cs[cs.length - 1], by rw [List.length_map, List.getElem?_map, List.getElem?_eq_getElem hn]; rfl⟩
      obtain ⟨c, hlast⟩ := hlast
      have hdrop : (cs.map V.int).dropLast = cs.dropLast.map V.int := by rw [List.map_dropLast]
      have ldrop : cs.dropLast.length ≤ 62 := by rw [List.length_dropLast]; omega
      have hne : l ≠ d := dl.symm
      refine ⟨_, rfl, d, _, rfl, gc2, .inl ⟨rfl, _, SqL.of hl2⟩, l, _, _, rfl, rfl, hl2, hlast, ?_⟩
      rw [hdrop]
      generalize hH3 : upd H2 l (.lst (cs.dropLast.map V.int)) = H3
      have hl3 : H3 l = some (.lst (cs.dropLast.map V.int)) := by rw [← hH3]; exact upd_same
      have hd3 : H3 d = some (.dK (deckL l mx (dr + 1))) := by rw [← hH3, upd_ne dl]; exact hd2
      have b3 : But d l H H3 := b2.trans fun b o e _ h2 => by rw [← hH3, upd_ne h2]; exact e
      have gc3 := DGet.k (k := kCells) hd3
      rw [deck_cells] at gc3
      refine ⟨_, rfl, _, _, rfl, rfl, ⟨by decide, by decide, by decide⟩, _, _, rfl, rfl, _, rfl, ifD (fun hbig => ?_) fun hbig => ?_⟩
      · -- cells.append(cell // max(2, many)); return int(cell) % many
        have hmx : (if n > 2 then n else 2) = max 2 n := by by_cases h : n > 2 <;> simp only [h, if_true, if_false] <;> omega
        refine ⟨_, rfl, d, _, rfl, gc3, .inl ⟨rfl, _, SqL.of hl3⟩, _, rfl, _, rfl, 2, n, rfl, _, _, rfl, rfl, ?_, ?_⟩
        · show CDivW c (if n > 2 then n else 2)
          exact wide_div (b := 64) (by split <;> omega) (by split <;> omega) (by decide) (by decide)
        refine ⟨l, _, _, rfl, rfl, hl3, Nat.lt_of_le_of_lt (by rw [List.length_map]; exact ldrop) (by decide : (62 : Nat) < sizeLine), ?_⟩
        have happ : cs.dropLast.map V.int ++ [V.int (c / (if n > 2 then n else 2))] = (cs.dropLast ++ [c / (if n > 2 then n else 2)]).map V.int := by rw [List.map_append]; rfl
        refine ⟨_, rfl, .inl ⟨c, rfl, ?_⟩⟩
        refine ⟨_, rfl, _, _, rfl, rfl, hn0, ?_⟩
        refine q _ _ ⟨mx, dr + 1, cs.dropLast ++ [c / (if n > 2 then n else 2)], by rw [upd_ne dl]; exact hd3, by rw [upd_same]; exact congrArg (fun z => some (HO.lst z)) happ, by rw [List.length_append]; exact Nat.add_le_add ldrop (Nat.le_refl 1)⟩ (b3.trans fun b o e _ h2 => by rw [upd_ne h2]; exact e) (Int.emod_nonneg _ (by omega)) (Int.emod_lt_of_pos _ hn0)
      · refine ⟨_, rfl, _, rfl, .inl ⟨c, rfl, ?_⟩⟩
        refine ⟨_, _, rfl, rfl, (by show (0 : Int) < 2147483629; decide), _, _, rfl, rfl, ?_⟩
        exact hN _ _ ⟨_, _, rfl, ⟨mx, dr + 1, cs.dropLast, hd3, hl3, Nat.le_trans ldrop (by decide)⟩, b3⟩
  · rintro _ H4 ⟨z, o, rfl, DK4, b4⟩
    obtain ⟨mx, dr, cs, hd4, hl4, hcs4⟩ := id DK4
    have gd4 := DGet.k (k := kDraws) hd4
    rw [deck_draws] at gd4
    refine ⟨_, rfl, _, _, rfl, rfl, .inr ⟨by decide, by decide⟩, _, _, rfl, rfl, .inl ⟨_, rfl, _, _, rfl, rfl, (by show (0 : Int) < 2147483647; decide), ?_⟩⟩
    have y0 := Int.emod_nonneg (z * 39373 + 23) (b := 2147483647) (by decide)
    have y1 := Int.emod_lt_of_pos (z * 39373 + 23) (b := 2147483647) (by decide)
    refine ⟨_, rfl, _, rfl, _, _, rfl, rfl, .inl ⟨by omega, by omega⟩, _, rfl, d, _, rfl, gd4, _, _, rfl, rfl, .inl ⟨by decide, by decide⟩, _, _, rfl, rfl, _, _, rfl, rfl, .inl ⟨_, rfl, _, _, rfl, rfl, (by show (0 : Int) < 2147483587; decide), ?_⟩⟩
    refine ⟨_, rfl, _, _, rfl, rfl, .inr ⟨by decide, by decide⟩, .inl ⟨_, rfl, _, _, rfl, rfl, (by show (0 : Int) < 2147483563; decide), ?_⟩⟩
    refine ⟨_, rfl, _, _, rfl, rfl, ⟨by decide, by decide⟩, .inl ⟨_, rfl, _, rfl, _, _, rfl, rfl, hn0, ?_⟩⟩
    exact q _ _ DK4 b4 (Int.emod_nonneg _ (by omega)) (Int.emod_lt_of_pos _ hn0)
end
end Ft

namespace Ft
open PySem L2
section
variable {P : Program} {w : World} {K : PySem.W.Frag} {mg : Str → Option Value} {base : Heap}
theorem ok_pick (D : Df K mg "_law_pick" s__law_pick ["_law_deck_here", "_law_some"]) (B : Bi mg) (c__law_draw : Cal P w K mg base 1 "_law_draw" sp_draw) : Cal P w K mg base 2 "_law_pick" (sp_pick K) := by
  obtain ⟨f, fd, F, m, b⟩ := D.ex
  have sc := sc__law_pick
  refine ⟨f, fd, _, F.ok sc sp_pick_len (fun cdv A outer s H vs Q E hr h => ?_), m, F.kp, b⟩
  obtain ⟨d, l, p, xs, rfl, DK, hp, h0, h1, q⟩ := h
  refine ⟨_, (pss_one (ps_ret (pe_ix ix_seq (pv 1) (pe_c c__law_draw hr (by decide) (by rfl) (pa_cons (pv 0) (pa_cons (pe_callB call_len_seq (by rfl) B.len_ (by decide +kernel) (pa_cons (pv 1) pa_nil)) pa_nil))) (fun _ _ => rfl)))), ?_⟩
  have hs : SqL K H p xs ∨ SqT K H p xs := hp.imp (fun z => SqL.of z.1) SqT.of
  refine ⟨_, rfl, _, rfl, _, rfl, p, xs, rfl, hs, d, l, _, rfl, DK, by omega, by omega, fun H1 r DK1 b1 r0 r1 => ?_⟩
  obtain ⟨n, rfl⟩ : ∃ n : Nat, r = n := ⟨r.toNat, by omega⟩
  have hn : n < xs.length := by omega
  obtain ⟨mx, dr, cs, hd, hl, _⟩ := DK
  rcases hp with ⟨hp, hpl⟩ | hp
  · have hp1 := b1 _ _ hp (ne_of hp hd (by intro z; cases z)) hpl
    exact .inl ⟨p, xs, _, _, rfl, rfl, SqL.of hp1, atI_nat (List.getElem?_eq_getElem hn), q _ _ DK1 b1 (List.getElem_mem hn)⟩
  · have hp1 := b1 _ _ hp (ne_of hp hd (by intro z; cases z)) (ne_of hp hl (by intro z; cases z))
    exact .inr (.inl ⟨p, xs, _, _, rfl, rfl, SqT.of hp1, atI_nat (List.getElem?_eq_getElem hn), q _ _ DK1 b1 (List.getElem_mem hn)⟩)
theorem ok_deck (D : Df K mg "_law_deck" s__law_deck ["_law_script"]) (B : Bi mg)  : Cal P w K mg base 1 "_law_deck" (sp_deck K) := by
  obtain ⟨f, fd, F, m, b⟩ := D.ex
  have sc := sc__law_deck
  refine ⟨f, fd, _, F.ok sc sp_deck_len (fun cdv A outer s H vs Q E hr h => ?_), m, F.kp, b⟩
  obtain ⟨a, ns, rfl, hS, hlen, q⟩ := h
  have hu := hu_of hr
  refine ⟨_, (pss_cons (ps_set (i := 1) sc.nd rfl (Or.inl rfl) pe_int)
      (pss_cons (ps_for PassesOwn.never rfl (pi_list (pe_slice sl_list (pv 0) po_none (po_some pe_int))) (pg_name (i := 2) sc.nd rfl (Or.inl rfl))
      (pss_one (ps_set (i := 1) sc.nd rfl (Or.inl rfl) (pe_op op_mod (pe_callTy call_int1 (by rfl) B.int_ (by decide +kernel) (pa_cons (pe_op op_add (pe_op op_add (pe_op op_mul (pv 1) pe_int) (pe_op op_mod (pe_callTy call_int1 (by rfl) B.int_ (by decide +kernel) (pa_cons (pv 2) pa_nil)) pe_int)) pe_int) pa_nil)) pe_int))))
      (pss_one (ps_ret (pe_disp (pps_cons pe_str (pe_revL (pe_callTy call_list_of (by rfl) B.list (by decide +kernel) (pa_cons (pe_slice sl_list (pv 0) po_none (po_some pe_int)) pa_nil))) (pps_cons pe_str (pv 1) (pps_cons pe_str pe_int pps_nil))) (by rfl) (by rfl) (fun z => by cases z) (by decide)))))), ?_⟩
  refine ⟨_, rfl, _, rfl, a, _, rfl, hS, fun p hp => ?_⟩
  obtain ⟨ms, hms, lms⟩ := cut_ints ns none (some 63)
  rw [hms]
  have s1 : Same H (upd H p (.lst (ms.map V.int))) := Same.upd_new hp
  generalize hH1 : upd H p (.lst (ms.map V.int)) = H1 at s1
  have hp1 : H1 p = some (.lst (ms.map V.int)) := by rw [← hH1]; exact upd_same
  refine ⟨p, rfl, ⟨_, SqL.of hp1⟩, for_list (K := K) (a := p) (xs := ms.map V.int) (fun i σ H2 => H1 = H2 ∧ ∃ (z : Int) (o : Option V), σ = [some (.ref a), some (.int z), o]) ⟨rfl, _, none, rfl⟩ (fun i σ H2 _ ⟨e, _⟩ => by rw [← e]; exact SqL.of hp1) ?_ ?_⟩
  · rintro i x σ _ hi ⟨rfl, z, o, rfl⟩
    obtain ⟨c, rfl, _⟩ := int_at hi
    refine ⟨_, rfl, _, _, rfl, rfl, .inr ⟨by decide, by decide⟩, _, rfl, .inl ⟨c, rfl, _, _, rfl, rfl, (by show (0 : Int) < 2147483629; decide), _, _, rfl, rfl, _, _, rfl, rfl, .inl ⟨_, rfl, _, _, rfl, rfl, (by show (0 : Int) < 2147483587; decide), ?_⟩⟩⟩
    exact ⟨rfl, _, _, rfl⟩
  · rintro σ _ ⟨rfl, z, o, rfl⟩
    intro d hd
    have s2 : Same H1 (upd H1 d (.dK [])) := Same.upd_new hd
    generalize hH2 : upd H1 d (.dK []) = H2 at s2
    have hd2 : H2 d = some (.dK []) := by rw [← hH2]; exact upd_same
    refine ⟨_, rfl, _, rfl, a, _, rfl, s2.seq (s1.seq hS), fun p2 hp2 => ?_⟩
    rw [hms]
    have s3 : Same H2 (upd H2 p2 (.lst (ms.map V.int))) := Same.upd_new hp2
    generalize hH3 : upd H2 p2 (.lst (ms.map V.int)) = H3 at s3
    have h3 : H3 p2 = some (.lst (ms.map V.int)) := by rw [← hH3]; exact upd_same
    refine ⟨p2, _, rfl, .inl (SqL.of h3), fun p3 hp3 => ?_⟩
    have s4 : Same H3 (upd H3 p3 (.lst (ms.map V.int))) := Same.upd_new hp3
    generalize hH4 : upd H3 p3 (.lst (ms.map V.int)) = H4 at s4
    have h4 : H4 p3 = some (.lst (ms.map V.int)) := by rw [← hH4]; exact upd_same
    refine ⟨p3, _, rfl, SqL.of h4, fun l hl => ?_⟩
    have s5 : Same H4 (upd H4 l (.lst (ms.map V.int).reverse)) := Same.upd_new hl
    generalize hH5 : upd H4 l (.lst (ms.map V.int).reverse) = H5 at s5
    have h5 : H5 l = some (.lst (ms.reverse.map V.int)) := by rw [← hH5, List.map_reverse]; exact upd_same
    have sA := s1.trans (s2.trans (s3.trans (s4.trans s5)))
    have hd5 : H5 d = some (.dK []) := s5 _ _ (s4 _ _ (s3 _ _ hd2))
    have dl : d ≠ l := ne_of hd5 h5 (by intro z; cases z)
    refine ⟨_, rfl, hd5, deckL l z 0, rfl, (by show (3 : Nat) ≤ 15; decide), ?_⟩
    rw [deck_merge]
    have hd0 : H d = none := s1.free hd
    have hl0 : H l = none := s1.free (s2.free (s3.free (s4.free hl)))
    refine q _ d l ⟨z, 0, ms.reverse, upd_same, by rw [upd_ne dl.symm]; exact h5, by rw [List.length_reverse]; omega⟩ (fun b u e => ?_) hd0 hl0
    rw [upd_ne (ne_of_none e hd0)]
    exact sA _ _ e
end
end Ft

set_option exponentiation.threshold 9000
namespace Ft
open PySem L2
/-! ### beginnings: a number and a tuple of numbers -/
theorem kit_tup_tup {K : PySem.W.Frag} : PySem.W.kitOne K (.type "tuple") (.type "tuple") = some true := kit_ty (by decide +kernel)
theorem kit_int_int' {K : PySem.W.Frag} : PySem.W.kitOne K (.type "int") (.type "int") = some true := kit_ty (by decide +kernel)
def Bg (H : Hp) (v : V) (b : Int) (ts : List Int) : Prop := ∃ p q, v = .ref p ∧ H p = some (.tup [.int b, .ref q]) ∧ H q = some (.tup (ts.map V.int))
theorem Bg.same {H H' : Hp} {v : V} {b : Int} {ts : List Int} (h : Bg H v b ts) (s : Same H H') : Bg H' v b ts := by
  obtain ⟨p, q, e, h1, h2⟩ := h
  exact ⟨p, q, e, s _ _ h1, s _ _ h2⟩
/-- what the document calls a beginning -/
def BgOk (b : Int) (ts : List Int) : Prop := 1 ≤ b ∧ 1 ≤ ts.length ∧ ts.length ≤ 400
def gcdL (g : Nat) (ts : List Int) : Nat := ts.foldl (fun g t => Nat.gcd g t.natAbs) g
def lowB (b : Int) (ts : List Int) : Int := b / ((gcdL b.natAbs ts : Nat) : Int)
def lowT (b : Int) (ts : List Int) : List Int := ts.map fun t => t / ((gcdL b.natAbs ts : Nat) : Int)
theorem gcdL_one : ∀ ts : List Int, gcdL 1 ts = 1
  | [] => rfl
  | t :: ts => by
    show gcdL (Nat.gcd 1 t.natAbs) ts = 1
    rw [Nat.gcd_one_left]
    exact gcdL_one ts
theorem gcdL_dvd : ∀ (ts : List Int) (g : Nat), gcdL g ts ∣ g
  | [], g => Nat.dvd_refl g
  | t :: ts, g => Nat.dvd_trans (gcdL_dvd ts (Nat.gcd g t.natAbs)) (Nat.gcd_dvd_left _ _)
theorem gcdL_drop {ts : List Int} {i : Nat} {z : Int} (h : ts[i]? = some z) (g : Nat) : gcdL g (ts.drop i) = gcdL (Nat.gcd g z.natAbs) (ts.drop (i + 1)) := by
  obtain ⟨hi, rfl⟩ := List.getElem?_eq_some_iff.mp h
  rw [List.drop_eq_getElem_cons hi]
  rfl
theorem take_snoc {ts : List Int} {i : Nat} {z : Int} (h : ts[i]? = some z) : ts.take (i + 1) = ts.take i ++ [z] := by
  rw [List.take_add_one, h]
  rfl
theorem all_true : ∀ n : Nat, (List.replicate n true).all id = true
  | 0 => rfl
  | n + 1 => by rw [List.replicate_succ, List.all_cons, all_true n]; rfl
def sp_from : Sp := fun vs H Q _ => ∃ n a : Int, vs = [.int n, .int a] ∧ Q (.bl (decide (a ≤ n))) H
def sp_checkFrom : Sp := fun vs H Q _ => ∃ n a : Int, vs = [.int n, .int a] ∧ a ≤ n ∧ Q .non H
def sp_isBeg : Sp := fun vs H Q _ => ∃ v b ts, vs = [v] ∧ Bg H v b ts ∧ BgOk b ts ∧ ∀ H', Same H H' → Q (.bl true) H'
def sp_checkBeg : Sp := fun vs H Q _ => ∃ v b ts, vs = [v] ∧ Bg H v b ts ∧ BgOk b ts ∧ ∀ H', Same H H' → Q .non H'
def sp_lowered : Sp := fun vs H Q _ => ∃ (b : Int) (p : Addr) (ts : List Int), vs = [.int b, .ref p] ∧ H p = some (.lst (ts.map V.int)) ∧ 0 < b ∧ b.natAbs < 2 ^ 8000 ∧ ts.length ≤ 1000 ∧ ∀ H' v, Same H H' → Bg H' v (lowB b ts) (lowT b ts) → Q v H'
section
variable {P : Program} {w : World} {K : PySem.W.Frag} {mg : Str → Option Value} {base : Heap}
theorem ok_is_from (D : Df K mg "is_from" s_is_from ["thing", "least"]) (c_is_integer : Cal P w K mg base 1 "is_integer" sp_is_integer) : Cal P w K mg base 2 "is_from" sp_from := by
  obtain ⟨f, fd, F, m, b⟩ := D.ex
  have sc := sc_is_from
  refine ⟨f, fd, _, F.ok sc (fun _ _ _ _ ⟨_, _, e, _⟩ => by rw [e]; rfl) (fun cdv A outer s H vs Q E hr h => ?_), m, F.kp, b⟩
  obtain ⟨n, a, rfl, q⟩ := h
  refine ⟨_, (pss_one (ps_ret (pe_and (pe_c c_is_integer hr (by decide) (by rfl) (pa_cons (pv 0) pa_nil)) (pe_one (pe_cmpR op_ge (pv 0) (pv 1) (nomark _)))))), ?_⟩
  refine ⟨_, rfl, n, rfl, trivial, true, rfl, iteT ?_⟩
  exact ⟨_, rfl, _, rfl, _, _, rfl, rfl, q⟩
theorem ok_check_from (D : Df K mg "check_from" s_check_from ["thing", "least"]) (c_is_from : Cal P w K mg base 2 "is_from" sp_from) : Cal P w K mg base 3 "check_from" sp_checkFrom := by
  obtain ⟨f, fd, F, m, b⟩ := D.ex
  have sc := sc_check_from
  refine ⟨f, fd, _, F.ok sc (fun _ _ _ _ ⟨_, _, e, _⟩ => by rw [e]; rfl) (fun cdv A outer s H vs Q E hr h => ?_), m, F.kp, b⟩
  obtain ⟨n, a, rfl, ha, q⟩ := h
  refine ⟨_, (pss_one (ps_if (pt_not (pt_val (pe_c c_is_from hr (by decide) (by rfl) (pa_cons (pv 0) (pa_cons (pv 1) pa_nil)))))
      (pss_one ps_never)
      pss_nil)), ?_⟩
  refine ⟨_, rfl, _, rfl, n, a, rfl, _, rfl, ?_⟩
  rw [decide_eq_true ha]
  exact iteF q
end
end Ft

set_option exponentiation.threshold 9000
namespace Ft
open PySem L2
def sprL (ts : List Int) (d : Nat) : List Int := (List.range ts.length).map fun n => if n % d = 0 then ts.getD (n / d) 0 else 0
def eveL (ts : List Int) (d : Nat) : List Int := ((List.range ts.length).filter fun n => decide (n % d = 0)).map fun n => ts.getD n 0
def shfL (ts : List Int) (s : Nat) : List Int := List.replicate s 0 ++ ts
def sp_deed (f : List Int → Nat → List Int) (C : Nat → Prop) : Sp := fun vs H Q _ => ∃ v b ts d, vs = [v, .int ((d : Nat) : Int)] ∧ Bg H v b ts ∧ BgOk b ts ∧ b.natAbs < 2 ^ 8000 ∧ C d ∧ ∀ H' u, Same H H' → Bg H' u (lowB b (f ts d)) (lowT b (f ts d)) → Q u H'
theorem filter_succ (f : Nat → Bool) (j : Nat) : (List.range (j + 1)).filter f = (List.range j).filter f ++ if f j = true then [j] else [] := by
  rw [List.range_succ, List.filter_append]
  congr 1
  cases h : f j <;> simp [h]
theorem filter_len (f : Nat → Bool) (j : Nat) : ((List.range j).filter f).length ≤ j := by
  have := List.length_filter_le f (List.range j)
  rw [List.length_range] at this
  exact this
theorem getD_at {l : List Int} {i : Nat} (h : i < l.length) : (l.map V.int)[i]? = some (V.int (l.getD i 0)) := by
  rw [List.getElem?_map, List.getElem?_eq_getElem h, List.getD_eq_getElem?_getD, List.getElem?_eq_getElem h]
  rfl
section
variable {P : Program} {w : World} {K : PySem.W.Frag} {mg : Str → Option Value} {base : Heap}
end
end Ft

namespace Ft
open PySem L2
theorem mul_one {a b : Int} (h1 : a.natAbs ≤ 1) (h2 : b.natAbs ≤ 1) : (a * b).natAbs ≤ 1 := by
  rw [Int.natAbs_mul]
  exact Nat.mul_le_mul h1 h2
theorem twos_one {z : Int} (hz : z.natAbs ≤ 1) : ∀ (f r : Nat) (v : Int), v.natAbs ≤ 1 → (twos z f r v).2.natAbs ≤ 1
  | 0, r, v, h => h
  | f + 1, r, v, h => by
    by_cases e : r % 2 = 0
    · rw [twos_go e]
      exact twos_one hz f (r / 2) (v * z) (mul_one h hz)
    · rw [twos_stop e]
      exact h
theorem valueAt_one (s n : Int) : (valueAt s n).natAbs ≤ 1 := by
  unfold valueAt valueRest
  split
  · split <;> decide
  · refine mul_one (twos_one ?_ _ _ _ (by decide)) ?_
    · have := valueTwo_le s
      omega
    · unfold valueOdd sg
      dsimp only
      split
      · split <;> decide
      · decide
end Ft

set_option exponentiation.threshold 9000
namespace Ft
open PySem L2
/-- the divisors, as the program lists them -/
def dvs (n : Nat) : List Nat := divP n (Float64.isqrt n)
theorem isqrt_316 {n : Nat} (h : n ≤ 100000) : Float64.isqrt n ≤ 316 := by
  have s := (Float64.isqrt_spec n).1
  rcases Nat.lt_or_ge 316 (Float64.isqrt n) with z | z
  · have := Nat.mul_le_mul (show 317 ≤ Float64.isqrt n from z) (show 317 ≤ Float64.isqrt n from z)
    omega
  · exact z
theorem lowL_mem {n r d : Nat} (h : d ∈ lowL n r) : 1 ≤ d ∧ d ≤ r ∧ n % d = 0 := by
  unfold lowL at h
  obtain ⟨j, hj, rfl⟩ := List.mem_map.mp h
  have h1 := List.mem_range.mp (List.mem_filter.mp hj).1
  have h2 := of_decide_eq_true (List.mem_filter.mp hj).2
  exact ⟨by omega, by omega, h2⟩
theorem lowL_len (n r : Nat) : (lowL n r).length ≤ r := by unfold lowL; rw [List.length_map]; exact filter_len _ _
theorem dvs_mem {n d : Nat} (n1 : 1 ≤ n) (h : d ∈ dvs n) : 1 ≤ d ∧ d ≤ n := by
  have r1 := isqrt_le n
  unfold dvs divP at h
  rcases List.mem_append.mp h with h | h
  · have := lowL_mem h
    omega
  · obtain ⟨e, he, rfl⟩ := List.mem_map.mp h
    have m := lowL_mem (List.mem_reverse.mp (List.mem_filter.mp he).1)
    have dv := Nat.dvd_of_mod_eq_zero m.2.2
    exact ⟨Nat.div_pos (Nat.le_of_dvd (by omega) dv) (by omega), Nat.div_le_self _ _⟩
theorem dvs_len {n : Nat} (h : n ≤ 100000) : (dvs n).length ≤ 632 := by
  have r1 := isqrt_316 h
  have l1 := lowL_len n (Float64.isqrt n)
  unfold dvs divP
  rw [List.length_append, List.length_map]
  have := List.length_filter_le (fun d => decide (d * d ≠ n)) (lowL n (Float64.isqrt n)).reverse
  rw [List.length_reverse] at this
  omega
def dsT (k : Nat) (D E : Int) (n d : Nat) : Int := valueAt D ((n / d : Nat) : Int) * valueAt E (d : Int) * ((d ^ k : Nat) : Int)
def dsF (k : Nat) (D E : Int) (n : Nat) : Int := ((dvs n).map (dsT k D E n)).sum
theorem mul8 {i j : Int} (h1 : i.natAbs < 2 ^ 8000) (h2 : j.natAbs < 2 ^ 8000) : CMulW i j := wide_mul h1 h2 (by decide) (by decide) (by decide)
theorem one_mul_le {a b : Int} {c : Nat} (h1 : a.natAbs ≤ 1) (h2 : b.natAbs ≤ c) : (a * b).natAbs ≤ c := by
  rw [Int.natAbs_mul]
  have := Nat.mul_le_mul h1 h2
  omega
theorem val_le (s n : Int) : (valueAt s n).natAbs ≤ 1 := valueAt_one s n
theorem pow_100k {d k : Nat} (hd : d ≤ 100000) (hk : k ≤ 24) : d ^ k ≤ 2 ^ 408 := Nat.le_trans (Nat.pow_le_pow_left (by omega : d ≤ 2 ^ 17) k) (Nat.le_trans (Nat.pow_le_pow_right (by decide) hk) (by decide))
theorem dsT_le {k : Nat} {D E : Int} {n d : Nat} (hd : d ≤ 100000) (hk : k ≤ 24) : (dsT k D E n d).natAbs ≤ 2 ^ 408 := by
  unfold dsT
  refine one_mul_le ?_ (by rw [Int.natAbs_natCast]; exact pow_100k hd hk)
  exact one_mul_le (val_le _ _) (val_le _ _)
theorem sum_le {l : List Int} {B : Nat} (h : ∀ x ∈ l, x.natAbs ≤ B) : l.sum.natAbs ≤ l.length * B := by
  induction l with
  | nil => simp
  | cons x l ih =>
    rw [List.sum_cons, List.length_cons, Nat.add_mul]
    have h1 := h x List.mem_cons_self
    have h2 := ih fun y hy => h y (List.mem_cons_of_mem _ hy)
    have := Int.natAbs_add_le x l.sum
    omega
theorem dsF_le {k : Nat} {D E : Int} {n : Nat} (n1 : 1 ≤ n) (hn : n ≤ 100000) (hk : k ≤ 24) : (dsF k D E n).natAbs < 2 ^ 500 := by
  have h := sum_le (l := (dvs n).map (dsT k D E n)) (B := 2 ^ 408) fun x hx => by
    obtain ⟨d, hd, rfl⟩ := List.mem_map.mp hx
    have := dvs_mem n1 hd
    exact dsT_le (by omega) hk
  rw [List.length_map] at h
  exact Nat.lt_of_le_of_lt (Nat.le_trans h (Nat.mul_le_mul_right _ (dvs_len hn))) (by decide)
end Ft

set_option exponentiation.threshold 9000
namespace Ft
open PySem L2
def sp_raised : Sp := fun vs H Q _ => ∃ b e : Nat, vs = [.int (b : Int), .int (e : Int)] ∧ 0 < b ∧ b ^ e < 2 ^ 4000 ∧ Q (.int ((b ^ e : Nat) : Int)) H
theorem mulS {a b : Int} (h1 : a.natAbs < 2 ^ 4000) (h2 : b.natAbs < 2 ^ 4000) : CMulW a b := wide_mul h1 h2 (by decide) (by decide) (by decide)
theorem sq_pow (s q : Nat) : (s * s) ^ q = s ^ (2 * q) := by rw [Nat.mul_pow, ← Nat.pow_add, Nat.two_mul]
theorem pow_even {s e : Nat} (h : e % 2 = 0) : (s * s) ^ (e / 2) = s ^ e := by
  rw [sq_pow]; congr 1; omega
theorem pow_odd {s e : Nat} (h : e % 2 = 1) : s * (s * s) ^ (e / 2) = s ^ e := by
  have e1 : e = 2 * (e / 2) + 1 := by omega
  rw [sq_pow, Nat.mul_comm]
  exact (Nat.pow_succ (n := s) (m := 2 * (e / 2))).symm.trans (congrArg (s ^ ·) e1.symm)
theorem natS {n : Nat} (h : n < 2 ^ 4000) : ((n : Int)).natAbs < 2 ^ 4000 := h
theorem mul_le_of {r s M : Nat} (h : r * s = M) (hr : 0 < r) (hs : 0 < s) : r ≤ M ∧ s ≤ M := by
  subst h
  exact ⟨Nat.le_mul_of_pos_right _ hs, Nat.le_mul_of_pos_left _ hr⟩
section
variable {P : Program} {w : World} {K : PySem.W.Frag} {mg : Str → Option Value} {base : Heap}
theorem ok_raised (D : Df K mg "raised" s_raised ["base", "exponent"]) : Cal P w K mg base 1 "raised" sp_raised := by
  obtain ⟨f, fd, F, m, b⟩ := D.ex
  have sc := sc_raised
  refine ⟨f, fd, _, F.ok sc (fun _ _ _ _ ⟨_, _, e, _⟩ => by rw [e]; rfl) (fun cdv A outer s H vs Q E hr h => ?_), m, F.kp, b⟩
  obtain ⟨x, n, rfl, hx, hM, q⟩ := h
  refine ⟨_, (pss_cons (ps_set (i := 2) sc.nd rfl (Or.inl rfl) pe_int)
      (pss_cons (ps_set (i := 3) sc.nd rfl (Or.inl rfl) (pv 0))
      (pss_cons (ps_while PassesOwn.never (pt_cmpR op_gt (pv 1) pe_int (nomark _))
      (pss_cons (ps_if (pt_cmpR op_eq (pe_op op_mod (pv 1) pe_int) pe_int (nomark _))
        (pss_one (ps_set (i := 2) sc.nd rfl (Or.inl rfl) (pe_op op_mulW (pv 2) (pv 3))))
        pss_nil)
        (pss_cons (ps_set (i := 3) sc.nd rfl (Or.inl rfl) (pe_op op_mulW (pv 3) (pv 3)))
        (pss_one (ps_set (i := 1) sc.nd rfl (Or.inl rfl) (pe_op op_fdivW (pv 1) pe_int))))))
      (pss_one (ps_ret (pv 2)))))), ?_⟩
  generalize hMM : x ^ n = M at hM q
  refine ⟨_, rfl, ?_⟩
  refine while_go (fun σ H' => H = H' ∧ ∃ (e r s : Nat), σ = [some (.int (x : Nat)), some (.int (e : Nat)), some (.int (r : Nat)), some (.int (s : Nat))] ∧ 0 < r ∧ 0 < s ∧ r * s ^ e = M) (fun σ _ => m0 1 σ)
    ⟨rfl, n, 1, x, rfl, by decide, hx, by rw [Nat.one_mul]; exact hMM⟩ ?_
  rintro σ _ ⟨rfl, e, r, t, rfl, r0, t0, hm⟩
  have hp : 0 < t ^ e := Nat.pow_pos t0
  have lr := mul_le_of hm r0 hp
  have rS : ((r : Int)).natAbs < 2 ^ 4000 := Nat.lt_of_le_of_lt lr.1 hM
  refine ⟨_, rfl, _, _, rfl, rfl, _, rfl, ifD (fun h => ?_) fun h => ?_⟩
  · have e0 : e ≠ 0 := by omega
    have tS : ((t : Int)).natAbs < 2 ^ 4000 := Nat.lt_of_le_of_lt (Nat.le_trans (Nat.le_self_pow e0 t) lr.2) hM
    refine ⟨fun σ' H' => H = H' ∧ ∃ (e' r s : Nat), σ' = [some (.int (x : Nat)), some (.int (e' : Nat)), some (.int (r : Nat)), some (.int (s : Nat))] ∧ 0 < r ∧ 0 < s ∧ r * s ^ e' = M ∧ e' < e, ?_, ?_⟩
    · rintro σ' _ ⟨rfl, e', r', s', rfl, h1, h2, h3, h4⟩
      exact ⟨_, (by show ((e' : Int)).toNat < ((e : Int)).toNat; omega), rfl, rfl, e', r', s', rfl, h1, h2, h3⟩
    refine ⟨_, rfl, _, _, rfl, rfl, (by show (0 : Int) < 2; decide), rfl, _, rfl, ifI (fun k => ?_) fun k => ?_⟩
    · have k' : e % 2 = 1 := by omega
      refine ⟨_, rfl, _, rfl, _, _, rfl, rfl, mulS rS tS, ?_⟩
      refine ⟨_, rfl, _, rfl, _, _, rfl, rfl, mulS tS tS, ?_⟩
      refine ⟨_, rfl, _, _, rfl, rfl, ⟨by decide, by decide⟩, ?_⟩
      refine ⟨rfl, e / 2, r * t, t * t, rfl, Nat.mul_pos r0 t0, Nat.mul_pos t0 t0, ?_, by omega⟩
      rw [Nat.mul_assoc, pow_odd k']
      exact hm
    · have k' : e % 2 = 0 := by omega
      refine ⟨_, rfl, _, rfl, _, _, rfl, rfl, mulS tS tS, ?_⟩
      refine ⟨_, rfl, _, _, rfl, rfl, ⟨by decide, by decide⟩, ?_⟩
      refine ⟨rfl, e / 2, r, t * t, rfl, r0, Nat.mul_pos t0 t0, ?_, by omega⟩
      rw [pow_even k']
      exact hm
  · have e0 : e = 0 := by omega
    subst e0
    rw [Nat.pow_zero, Nat.mul_one] at hm
    subst hm
    exact ⟨_, rfl, q⟩
end
end Ft

namespace Ft
open PySem L2
/-- two keywords, in the other order -/
def swapV : List V → List V → List V := fun us zs => match us, zs with
  | [], [a, b] => [b, a]
  | _, _ => []
def swapU : List Value → List Value → List Value := fun us zs => match us, zs with
  | [], [a, b] => [b, a]
  | _, _ => []
theorem swap_rel : ∀ {vs : List V} {us : List Value} {zs : List V} {ws : List Value}, Vals vs us → Vals zs ws → Vals (swapV vs zs) (swapU us ws)
  | _, _, _, _, .nil, .nil => .nil
  | _, _, _, _, .nil, .cons _ .nil => .nil
  | _, _, _, _, .nil, .cons a (.cons b .nil) => .cons b (.cons a .nil)
  | _, _, _, _, .nil, .cons _ (.cons _ (.cons _ _)) => .nil
  | _, _, _, _, .cons _ _, _ => .nil
theorem kb_sign_at {K : PySem.W.Frag} {f : Addr} {fd : FuncData} (F : Fun K "sign_at" "sign_at" s_sign_at f fd) : KBinds K fd ["sign", "n"] ["n", "sign"] swapU swapV := by
  obtain ⟨oc, od, kV, doc, pm, an, cdv, ct, osl, rfl, lk, hcd⟩ := F.ex
  refine ⟨fun s us ws _ hl => ?_, swap_rel⟩
  match us, ws, hl with
  | [], [a, b], _ => exact .of_eq rfl
end Ft

set_option exponentiation.threshold 9000
namespace Ft
open PySem L2
def sp_divisors : Sp := fun vs H Q _ => ∃ n : Nat, vs = [.int (n : Int)] ∧ 1 ≤ n ∧ n ≤ 100000 ∧ ∀ H' p, Same H H' → H' p = some (.tup ((dvs n).map fun d : Nat => V.int (d : Int))) → Q (.ref p) H'
def sp_dsum : Sp := fun vs H Q _ => ∃ (n k : Nat) (a b : Int), vs = [.int (n : Int), .int (k : Int), .int a, .int b] ∧ 1 ≤ n ∧ n ≤ 100000 ∧ k ≤ 24 ∧ isSign a = true ∧ isSign b = true ∧ ∀ H', Same H H' → Q (.int (dsF k a b n)) H'
section
variable {P : Program} {w : World} {K : PySem.W.Frag} {mg : Str → Option Value} {base : Heap}
theorem fn_divisors {f : Addr} {fd : FuncData} (F : Fun K "divisors" "divisors" s_divisors f fd) (B : Bi mg) (c_check_from : Cal P w K mg base 3 "check_from" sp_checkFrom) : FnOk P w K mg base CX0 4 f fd ["n"] sp_divisors := by
  have sc := sc_divisors
  refine F.ok sc (fun _ _ _ _ ⟨_, e, _⟩ => by rw [e]; rfl) (fun cdv A outer s H vs Q E hr h => ?_)
  obtain ⟨n, rfl, h1, hn, q⟩ := h
  refine ⟨_, (pss_cons (ps_expr (pe_c c_check_from hr (by decide) (by rfl) (pa_cons (pv 0) (pa_cons pe_int pa_nil))))
      (pss_cons (ps_setLc (i := 2) (own := [("d", 1)]) (g := gName 1)  (by rfl) sc.nd rfl rfl (sw_true rfl rfl rfl (by decide +kernel)) (pi_range2 (by rfl) B.range (pa_cons pe_int (pa_cons (pe_op op_add (pe_callBfun cr_isqrt (by rfl) B.isqrt (pa_cons (pv 0) pa_nil)) pe_int) pa_nil))) (blkOk_by (own := [("d", 1)]) (N := N_divisors) (sc := defScope s_divisors) (by decide +kernel)) (fun _ _ _ _ _ => (pg_name (i := 1) sc.nd rfl (Or.inl rfl))) (fun _ _ _ _ _ => (pts_one (pt_cmpR op_eq (pe_op op_mod (pv 0) (pv 1)) pe_int (nomark _)))) (fun _ _ _ _ _ => (pv 1)))
      (pss_cons (ps_setLc (i := 3) (own := [("d", 1)]) (g := gName 1)  (by rfl) sc.nd rfl rfl (sw_true rfl rfl rfl (by decide +kernel)) (pi_reversed (by rfl) B.reversed (pa_cons (pv 2) pa_nil)) (blkOk_by (own := [("d", 1)]) (N := N_divisors) (sc := defScope s_divisors) (by decide +kernel)) (fun _ _ _ _ _ => (pg_name (i := 1) sc.nd rfl (Or.inl rfl))) (fun _ _ _ _ _ => (pts_one (pt_cmpR op_ne (pe_op op_mulW (pv 1) (pv 1)) (pv 0) (nomark _)))) (fun _ _ _ _ _ => (pe_op op_fdivW (pv 0) (pv 1))))
      (pss_one (ps_ret (pe_callTy call_tuple_of (by rfl) B.tuple (by decide +kernel) (pa_cons (pe_op op_cat (pv 2) (pv 3)) pa_nil))))))), ?_⟩
  refine ⟨_, rfl, (n : Int), 1, rfl, by omega, ?_⟩
  have r316 := isqrt_316 hn
  unfold dvs at q
  generalize hr0 : Float64.isqrt n = r at q r316
  have rle : r ≤ n := by rw [← hr0]; exact isqrt_le n
  refine ⟨_, rfl, (n : Int), rfl, by omega, by omega, ?_⟩
  rw [Int.toNat_natCast, hr0]
  refine ⟨_, _, rfl, rfl, 1, (r : Int) + 1, rfl, ⟨by decide, by decide, by omega, by omega⟩, fun D1 hD1 => ?_⟩
  rw [show ((r : Int) + 1 - 1).toNat = r by omega]
  refine lc_range (fun i H' => Same H H' ∧ H' D1 = some (.lst (((List.range i).filter fun i => decide (n % (i + 1) = 0)).map fun i : Nat => V.int ((i + 1 : Nat) : Int)))) ⟨Same.upd_new hD1, upd_same⟩ ?_ ?_
  · rintro i H2 hi ⟨s2, h2⟩
    have ei : (1 : Int) + (i : Int) = ((i + 1 : Nat) : Int) := by omega
    dsimp only [gName]
    rw [ei]
    refine ⟨rfl, _, rfl, _, rfl, _, _, rfl, rfl, (by omega : (0 : Int) < ((i + 1 : Nat) : Int)), rfl, _, rfl, ifI (fun e => ?_) fun e => ?_⟩
    · have e' : n % (i + 1) = 0 := Int.ofNat.inj e
      refine ⟨_, rfl, _, h2, ?_, fun b o e => ?_, ?_⟩
      · rw [List.length_map]
        exact Nat.lt_of_le_of_lt (Nat.le_trans (filter_len _ _) (by omega : i ≤ 400)) (by decide)
      · rw [upd_ne (ne_of_none e hD1)]
        exact s2 _ _ e
      · rw [upd_same, filter_succ, if_pos (decide_eq_true e'), List.map_append]
        rfl
    · have e' : ¬ n % (i + 1) = 0 := fun z => e (congrArg Int.ofNat z)
      refine ⟨s2, ?_⟩
      rw [h2, filter_succ, if_neg (by rw [decide_eq_false e']; decide), List.append_nil]
  rintro H2 ⟨s2, h2⟩
  have h2' : H2 D1 = some (.lst ((lowL n r).map fun d : Nat => V.int (d : Int))) := by rw [h2]; unfold lowL; rw [List.map_map]; rfl
  have llow : (lowL n r).length ≤ 400 := Nat.le_trans (lowL_len n r) (by omega)
  have lowm : ∀ d ∈ lowL n r, 1 ≤ d ∧ d ≤ 400 := fun d hd => by
    have := lowL_mem hd
    omega
  have hdP : divP n r = lowL n r ++ (((lowL n r).reverse.filter fun d => decide (d * d ≠ n)).map fun d => n / d) := rfl
  rw [hdP] at q
  generalize lowL n r = low at h2' llow lowm q
  dsimp only [gName]
  refine ⟨_, rfl, D1, _, rfl, SqL.of h2', fun D2 hD2 => ?_⟩
  refine lc_it (walk_rev (xs := low.map fun d : Nat => V.int (d : Int))) (fun i H' => Same H2 H' ∧ H' D2 = some (.lst (((low.reverse.take i).filter fun d => decide (d * d ≠ n)).map fun d : Nat => V.int ((n / d : Nat) : Int)))) ⟨Same.upd_new hD2, upd_same⟩ (fun i H' _ ⟨s3, _⟩ => SqL.of (s3 _ _ h2')) ?_ ?_
  · rintro i x H3 _ hi ⟨s3, h3⟩ ⟨rfl, hx⟩
    rw [List.length_map] at hi hx
    obtain ⟨z, hz, rfl⟩ : ∃ z, low.reverse[i]? = some z ∧ x = V.int (z : Int) := by
      rw [List.getElem?_reverse hi]
      rw [List.getElem?_map] at hx
      cases e : low[low.length - 1 - i]? with
      | none => rw [e] at hx; cases hx
      | some z => rw [e] at hx; exact ⟨z, rfl, (Option.some.inj hx).symm⟩
    have hzm := lowm z (List.mem_reverse.mp (List.mem_of_getElem? hz))
    have htk : low.reverse.take (i + 1) = low.reverse.take i ++ [z] := by rw [List.take_add_one, hz]; rfl
    have hmul : (z : Int) * (z : Int) = ((z * z : Nat) : Int) := (Int.natCast_mul z z).symm
    have zb : ((z : Nat) : Int).natAbs < 2 ^ 8000 := by rw [Int.natAbs_natCast]; exact Nat.lt_of_le_of_lt hzm.2 (by decide)
    refine ⟨rfl, _, rfl, _, rfl, _, _, rfl, rfl, mul8 zb zb, _, rfl, rfl, _, rfl, ifNI (fun e => ?_) fun e => ?_⟩
    · have e' : z * z ≠ n := fun k => e (hmul.trans (congrArg Nat.cast k))
      refine ⟨_, rfl, _, rfl, _, _, rfl, rfl, cdivN (by omega) (by omega), _, h3, ?_, fun b o e => ?_, ?_⟩
      · rw [List.length_map]
        exact Nat.lt_of_le_of_lt (Nat.le_trans (List.length_filter_le _ _) (by rw [List.length_take]; omega : _ ≤ 400)) (by decide)
      · rw [upd_ne (ne_of_none e hD2)]
        exact s3 _ _ e
      · rw [upd_same, htk, List.filter_append, show [z].filter (fun d => decide (d * d ≠ n)) = [z] by simp [e'], List.map_append]
        rfl
    · have e' : z * z = n := Int.ofNat.inj (hmul.symm.trans e)
      refine ⟨s3, ?_⟩
      rw [h3, htk, List.filter_append, show [z].filter (fun d => decide (d * d ≠ n)) = [] by simp [e'], List.append_nil]
  · rintro H3 ⟨s3, h3⟩
    rw [List.length_map, ← List.length_reverse, List.take_length] at h3
    have s03 := s2.trans s3
    dsimp only [gName]
    have lh : ((low.reverse.filter fun d => decide (d * d ≠ n)).map fun d : Nat => V.int ((n / d : Nat) : Int)).length ≤ 400 := by
      rw [List.length_map]
      exact Nat.le_trans (List.length_filter_le _ _) (by rw [List.length_reverse]; exact llow)
    refine ⟨_, rfl, _, rfl, D1, D2, _, _, rfl, rfl, s3 _ _ h2', h3, ?_, fun p hp => ?_⟩
    · rw [List.length_map]
      exact Nat.le_trans (Nat.add_le_add llow lh) (by decide)
    refine ⟨p, _, rfl, .inl ⟨SqL.of upd_same, fun l hl => ?_⟩⟩
    refine q _ _ (s03.trans ((Same.upd_new hp).trans (Same.upd_new hl))) ?_
    rw [upd_same, List.map_append, List.map_map]
    rfl
theorem fn_dsum {f : Addr} {fd : FuncData} (F : Fun K "divisor_sum" "divisor_sum" s_divisor_sum f fd) (c_check_from : Cal P w K mg base 3 "check_from" sp_checkFrom) (c_check_sign : Cal P w K mg base 4 "check_sign" sp_check_sign) (c_divisors : Cal P w K mg base 4 "divisors" sp_divisors) (c_value_at : Cal P w K mg base 2 "value_at" sp_value_at) (c_raised : Cal P w K mg base 1 "raised" sp_raised) : FnOk P w K mg base CX0 5 f fd ["n", "k", "one", "other"] sp_dsum := by
  have sc := sc_divisor_sum
  refine F.ok sc (fun _ _ _ _ ⟨_, _, _, _, e, _⟩ => by rw [e]; rfl) (fun cdv A outer s H vs Q E hr h => ?_)
  obtain ⟨n, k, x, y, rfl, n1, n5, k24, hx, hy, q⟩ := h
  refine ⟨_, (pss_cons (ps_expr (pe_c c_check_from hr (by decide) (by rfl) (pa_cons (pv 0) (pa_cons pe_int pa_nil))))
      (pss_cons (ps_expr (pe_c c_check_from hr (by decide) (by rfl) (pa_cons (pv 1) (pa_cons pe_int pa_nil))))
      (pss_cons (ps_expr (pe_c c_check_sign hr (by decide) (by rfl) (pa_cons (pv 2) pa_nil)))
      (pss_cons (ps_expr (pe_c c_check_sign hr (by decide) (by rfl) (pa_cons (pv 3) pa_nil)))
      (pss_cons (ps_set (i := 4) sc.nd rfl (Or.inl rfl) pe_int)
      (pss_cons (ps_for PassesOwn.never rfl (pi_tup (pe_c c_divisors hr (by decide) (by rfl) (pa_cons (pv 0) pa_nil))) (pg_name (i := 5) sc.nd rfl (Or.inl rfl))
      (pss_one (ps_aug (i := 4) sc.nd rfl (Or.inl rfl) (pe_op op_mulW (pe_op op_mulW (pe_c c_value_at hr (by decide) (by rfl) (pa_cons (pv 2) (pa_cons (pe_op op_fdivW (pv 0) (pv 5)) pa_nil))) (pe_c c_value_at hr (by decide) (by rfl) (pa_cons (pv 3) (pa_cons (pv 5) pa_nil)))) (pe_c c_raised hr (by decide) (by rfl) (pa_cons (pv 5) (pa_cons (pv 1) pa_nil)))) ip_add)))
      (pss_one (ps_ret (pv 4))))))))), ?_⟩
  have x0 := (isSign_le hx).2.1
  have y0 := (isSign_le hy).2.1
  refine ⟨_, rfl, (n : Int), 1, rfl, by omega, ?_⟩
  refine ⟨_, rfl, (k : Int), 0, rfl, by omega, ?_⟩
  refine ⟨_, rfl, x, rfl, hx, ?_⟩
  refine ⟨_, rfl, y, rfl, hy, ?_⟩
  refine ⟨_, rfl, n, rfl, n1, n5, fun H1 p s1 hp => ?_⟩
  have hmem : ∀ d ∈ dvs n, 1 ≤ d ∧ d ≤ n := fun d hd => dvs_mem n1 hd
  have hs : ((dvs n).map (dsT k x y n)).sum = dsF k x y n := rfl
  generalize dvs n = ds at hp hmem hs
  refine ⟨p, rfl, ⟨_, SqT.of hp⟩, for_it (walk_tup (K := K) (xs := ds.map fun d : Nat => V.int (d : Int))) (fun i σ H' => H1 = H' ∧ ∃ o5 : Option V, σ = [some (.int (n : Int)), some (.int (k : Int)), some (.int x), some (.int y), some (.int ((ds.take i).map (dsT k x y n)).sum), o5]) ⟨rfl, none, rfl⟩ (fun i σ H' _ ⟨z, _⟩ => by rw [← z]; exact SqT.of hp) ?_ ?_⟩
  · rintro i v σ _ _ hi ⟨rfl, o5, rfl⟩ ⟨rfl, hv⟩
    obtain ⟨d, hd, rfl⟩ : ∃ d, ds[i]? = some d ∧ v = V.int (d : Int) := by
      rw [List.getElem?_map] at hv
      cases e : ds[i]? with
      | none => rw [e] at hv; cases hv
      | some z => rw [e] at hv; exact ⟨z, rfl, (Option.some.inj hv).symm⟩
    obtain ⟨d1, d2⟩ := hmem d (List.mem_of_getElem? hd)
    have htk : ds.take (i + 1) = ds.take i ++ [d] := by rw [List.take_add_one, hd]; rfl
    have hsm : ((ds.take (i + 1)).map (dsT k x y n)).sum = ((ds.take i).map (dsT k x y n)).sum + dsT k x y n d := by rw [htk, List.map_append, List.sum_append]; simp
    have dk0 := pow_100k (show d ≤ 100000 by omega) k24
    have dk : d ^ k < 2 ^ 4000 := Nat.lt_of_le_of_lt dk0 (Nat.pow_lt_pow_right (by decide) (by decide))
    dsimp only [gName]
    have en : (n : Int) / (d : Int) = ((n / d : Nat) : Int) := (Int.natCast_ediv n d).symm
    have m1 : CMulW (valueAt x ((n / d : Nat) : Int)) (valueAt y (d : Int)) := mul8 (Nat.lt_of_le_of_lt (val_le _ _) (by decide)) (Nat.lt_of_le_of_lt (val_le _ _) (by decide))
    refine ⟨_, rfl, _, rfl, _, rfl, _, rfl, _, _, rfl, rfl, cdivN (by omega) (by omega), x, _, rfl, x0, ?_⟩
    dsimp only
    rw [en]
    refine ⟨_, rfl, _, rfl, y, _, rfl, y0, _, _, rfl, rfl, m1, ?_⟩
    refine ⟨_, rfl, _, rfl, d, k, rfl, d1, dk, _, _, rfl, rfl, ?_, _, _, rfl, rfl, ?_⟩
    · exact mul8 (Nat.lt_of_le_of_lt (one_mul_le (val_le _ _) (val_le _ _)) (by decide)) (by rw [Int.natAbs_natCast]; exact Nat.lt_trans dk (Nat.pow_lt_pow_right (by decide) (by decide)))
    · exact ⟨rfl, some (.int (d : Int)), by rw [hsm]; rfl⟩
  · rintro σ _ ⟨rfl, o5, rfl⟩
    rw [List.length_map, List.take_length, hs]
    exact ⟨_, rfl, q _ s1⟩
end
end Ft

set_option exponentiation.threshold 9000
namespace Ft
/-! ### the divisors are all divisors, ascending -/
theorem lowL_iff {n r d : Nat} : d ∈ lowL n r ↔ 1 ≤ d ∧ d ≤ r ∧ n % d = 0 := by
  refine ⟨lowL_mem, fun ⟨h1, h2, h3⟩ => ?_⟩
  unfold lowL
  refine List.mem_map.mpr ⟨d - 1, List.mem_filter.mpr ⟨List.mem_range.mpr (by omega), ?_⟩, by omega⟩
  rw [show d - 1 + 1 = d by omega]
  exact decide_eq_true h3
theorem lowL_asc (n r : Nat) : (lowL n r).Pairwise (· < ·) := by
  unfold lowL
  rw [List.pairwise_map]
  exact (List.Pairwise.filter _ List.pairwise_lt_range).imp fun h => by omega
theorem div_part {n d : Nat} (n1 : 1 ≤ n) (h : n % d = 0) (d1 : 1 ≤ d) : d * (n / d) = n ∧ 1 ≤ n / d ∧ n % (n / d) = 0 := by
  have e : d * (n / d) = n := Nat.mul_div_cancel' (Nat.dvd_of_mod_eq_zero h)
  refine ⟨e, Nat.div_pos (Nat.le_of_dvd (by omega) (Nat.dvd_of_mod_eq_zero h)) (by omega), ?_⟩
  exact Nat.mod_eq_zero_of_dvd ⟨d, by rw [Nat.mul_comm, e]⟩
theorem div_back {n d : Nat} (n1 : 1 ≤ n) (h : n % d = 0) (d1 : 1 ≤ d) : n / (n / d) = d := by
  obtain ⟨e, p, _⟩ := div_part n1 h d1
  exact Nat.div_eq_of_eq_mul_left (by omega) e.symm
theorem dvs_iff {n : Nat} (n1 : 1 ≤ n) (d : Nat) : d ∈ dvs n ↔ 1 ≤ d ∧ n % d = 0 := by
  have sp := PySem.Float64.isqrt_spec n
  unfold dvs divP
  generalize PySem.Float64.isqrt n = r at sp
  rw [List.mem_append, lowL_iff]
  constructor
  · rintro (h | h)
    · exact ⟨h.1, h.2.2⟩
    · obtain ⟨e, he, rfl⟩ := List.mem_map.mp h
      obtain ⟨a, b, c⟩ := lowL_iff.mp (List.mem_reverse.mp (List.mem_filter.mp he).1)
      exact (div_part n1 c a).2
  · rintro ⟨h1, h2⟩
    by_cases k : d ≤ r
    · exact .inl ⟨h1, k, h2⟩
    · obtain ⟨e, p, m⟩ := div_part n1 h2 h1
      have er : n / d ≤ r := by
        rcases Nat.lt_or_ge r (n / d) with z | z
        · have := Nat.mul_le_mul (show r + 1 ≤ d by omega) (show r + 1 ≤ n / d by omega)
          have := sp.2
          omega
        · exact z
      refine .inr (List.mem_map.mpr ⟨n / d, List.mem_filter.mpr ⟨List.mem_reverse.mpr (lowL_iff.mpr ⟨p, er, m⟩), decide_eq_true fun z => ?_⟩, div_back n1 h2 h1⟩)
      have := Nat.mul_lt_mul_of_pos_right (show n / d < d by omega) (show 0 < n / d by omega)
      omega
theorem div_lt {n a b : Nat} (n1 : 1 ≤ n) (ha : n % a = 0) (hb : n % b = 0) (a1 : 1 ≤ a) (h : a < b) : n / b < n / a := by
  obtain ⟨ea, pa, _⟩ := div_part n1 ha a1
  obtain ⟨eb, pb, _⟩ := div_part n1 hb (by omega)
  rcases Nat.lt_or_ge (n / b) (n / a) with z | z
  · exact z
  · have := Nat.mul_lt_mul_of_lt_of_le h z (by omega)
    omega
theorem dvs_asc {n : Nat} (n1 : 1 ≤ n) : (dvs n).Pairwise (· < ·) := by
  have sp := PySem.Float64.isqrt_spec n
  unfold dvs divP
  generalize PySem.Float64.isqrt n = r at sp
  rw [List.pairwise_append]
  refine ⟨lowL_asc n r, ?_, ?_⟩
  · rw [List.pairwise_map]
    refine List.Pairwise.imp_of_mem (R := fun a b => b < a) (fun {a b} ha hb h => ?_) (List.Pairwise.filter _ (List.pairwise_reverse.mpr (lowL_asc n r)))
    have ma := lowL_iff.mp (List.mem_reverse.mp (List.mem_filter.mp ha).1)
    have mb := lowL_iff.mp (List.mem_reverse.mp (List.mem_filter.mp hb).1)
    exact div_lt n1 mb.2.2 ma.2.2 mb.1 h
  · intro d hd y hy
    obtain ⟨e, he, rfl⟩ := List.mem_map.mp hy
    have hn := of_decide_eq_true (List.mem_filter.mp he).2
    obtain ⟨a, b, c⟩ := lowL_iff.mp (List.mem_reverse.mp (List.mem_filter.mp he).1)
    have hd := lowL_iff.mp hd
    obtain ⟨ee, pe, _⟩ := div_part n1 c a
    rcases Nat.lt_or_ge r (n / e) with z | z
    · omega
    · exfalso
      have h1 := Nat.mul_le_mul (show e ≤ r from b) z
      have h0 := sp.1
      have : e * (n / e) = r * r := by omega
      have er : e = r := by
        rcases Nat.lt_or_ge e r with y | y
        · have := Nat.mul_lt_mul_of_lt_of_le y z (by omega)
          omega
        · omega
      have qr : n / e = r := by
        rcases Nat.lt_or_ge (n / e) r with y | y
        · have := Nat.mul_lt_mul_of_le_of_lt b y (by omega)
          omega
        · omega
      rw [qr] at ee
      rw [← er] at ee
      exact hn ee
theorem asc_nodup {l : List Nat} (h : l.Pairwise (· < ·)) : l.Nodup := h.imp fun h => by omega
theorem perm_of {l1 l2 : List Nat} (h1 : l1.Nodup) (h2 : l2.Nodup) (h : ∀ a, a ∈ l1 ↔ a ∈ l2) : l1.Perm l2 := by
  rw [List.perm_iff_count]
  intro a
  rw [h1.count, h2.count]
  by_cases k : a ∈ l1
  · rw [if_pos k, if_pos ((h a).mp k)]
  · rw [if_neg k, if_neg fun z => k ((h a).mpr z)]
theorem dvs_perm {n : Nat} (n1 : 1 ≤ n) {l : List Nat} (h : l.Nodup) (m : ∀ d, d ∈ l ↔ 1 ≤ d ∧ n % d = 0) : (dvs n).Perm l := perm_of (asc_nodup (dvs_asc n1)) h fun a => (dvs_iff n1 a).trans (m a).symm
theorem perm_sum {l1 l2 : List Int} (h : l1.Perm l2) : l1.sum = l2.sum := by
  induction h with
  | nil => rfl
  | cons x _ ih => rw [List.sum_cons, List.sum_cons, ih]
  | swap x y l => simp only [List.sum_cons]; omega
  | trans _ _ a b => exact a.trans b
/-! ### products -/
def prods (m n : Nat) : List Nat := (dvs m).flatMap fun d => (dvs n).map fun e => d * e
theorem gcd_left {m n d e : Nat} (c : Nat.gcd m n = 1) (hd : d ∣ m) (he : e ∣ n) : Nat.gcd (d * e) m = d := by
  have c1 : Nat.Coprime e m := Nat.Coprime.coprime_dvd_left he (Nat.Coprime.symm c)
  rw [Nat.Coprime.gcd_mul_right_cancel d c1]
  exact Nat.gcd_eq_left hd
theorem gcd_right {m n d e : Nat} (c : Nat.gcd m n = 1) (hd : d ∣ m) (he : e ∣ n) : Nat.gcd (d * e) n = e := by
  rw [Nat.mul_comm]
  exact gcd_left (by rw [Nat.gcd_comm]; exact c) he hd
theorem prods_perm {m n : Nat} (m1 : 1 ≤ m) (n1 : 1 ≤ n) (c : Nat.gcd m n = 1) : (dvs (m * n)).Perm (prods m n) := by
  have mn1 : 1 ≤ m * n := Nat.mul_pos m1 n1
  have dm : ∀ d ∈ dvs m, d ∣ m := fun d h => Nat.dvd_of_mod_eq_zero ((dvs_iff m1 d).mp h).2
  have dn : ∀ d ∈ dvs n, d ∣ n := fun d h => Nat.dvd_of_mod_eq_zero ((dvs_iff n1 d).mp h).2
  refine dvs_perm mn1 ?_ fun x => ?_
  · unfold prods List.Nodup
    rw [List.pairwise_flatMap]
    refine ⟨fun d hd => ?_, ?_⟩
    · rw [List.pairwise_map]
      refine List.Pairwise.imp_of_mem (fun {a b} ha hb h z => h ?_) (asc_nodup (dvs_asc n1))
      rw [← gcd_right c (dm d hd) (dn a ha), z, gcd_right c (dm d hd) (dn b hb)]
    · refine List.Pairwise.imp_of_mem (fun {a b} ha hb h x hx y hy z => h ?_) (asc_nodup (dvs_asc m1))
      obtain ⟨e, he, rfl⟩ := List.mem_map.mp hx
      obtain ⟨f, hf, rfl⟩ := List.mem_map.mp hy
      rw [← gcd_left c (dm a ha) (dn e he), z, gcd_left c (dm b hb) (dn f hf)]
  · unfold prods
    rw [List.mem_flatMap]
    constructor
    · rintro ⟨d, hd, hx⟩
      obtain ⟨e, he, rfl⟩ := List.mem_map.mp hx
      have h1 := (dvs_iff m1 d).mp hd
      have h2 := (dvs_iff n1 e).mp he
      exact ⟨Nat.mul_pos h1.1 h2.1, Nat.mod_eq_zero_of_dvd (Nat.mul_dvd_mul (dm d hd) (dn e he))⟩
    · rintro ⟨h1, h2⟩
      have hx : x ∣ m * n := Nat.dvd_of_mod_eq_zero h2
      have e := Nat.Coprime.gcd_mul x (show Nat.Coprime m n from c)
      rw [Nat.gcd_eq_left hx] at e
      refine ⟨Nat.gcd x m, (dvs_iff m1 _).mpr ⟨Nat.gcd_pos_of_pos_left _ h1, Nat.mod_eq_zero_of_dvd (Nat.gcd_dvd_right _ _)⟩, List.mem_map.mpr ⟨Nat.gcd x n, (dvs_iff n1 _).mpr ⟨Nat.gcd_pos_of_pos_left _ h1, Nat.mod_eq_zero_of_dvd (Nat.gcd_dvd_right _ _)⟩, e.symm⟩⟩
/-! ### the sums -/
/-- what the sums want of a sign -/
structure Sm (s : Int) : Prop where
  mul : ∀ a b : Nat, valueAt s ((a * b : Nat) : Int) = valueAt s (a : Int) * valueAt s (b : Int)
  one : valueAt s ((1 : Nat) : Int) = 1
theorem sum_mul_left (c : Int) (l : List Nat) (f : Nat → Int) : (l.map fun x => c * f x).sum = c * (l.map f).sum := by
  induction l with
  | nil => simp
  | cons x l ih => simp only [List.map_cons, List.sum_cons, ih, Int.mul_add]
theorem sum_prods (f g : Nat → Int) (h : Nat → Int) (l1 l2 : List Nat) (e : ∀ a ∈ l1, ∀ b ∈ l2, h (a * b) = f a * g b) : ((l1.flatMap fun d => l2.map fun e => d * e).map h).sum = (l1.map f).sum * (l2.map g).sum := by
  induction l1 with
  | nil => simp
  | cons x l ih =>
    rw [List.flatMap_cons, List.map_append, List.sum_append, ih (fun a ha => e a (List.mem_cons_of_mem _ ha)), List.map_cons, List.sum_cons, Int.add_mul, List.map_map]
    congr 1
    rw [← sum_mul_left]
    congr 1
    exact List.map_congr_left fun b hb => e x List.mem_cons_self b hb
theorem mul4 (a b c d e f : Int) : a * b * (c * d) * (e * f) = a * c * e * (b * d * f) := by grind
theorem dsT_mul {k : Nat} {D E : Int} (hD : Sm D) (hE : Sm E) {m n d e : Nat} (hd : d ∣ m) (he : e ∣ n) : dsT k D E (m * n) (d * e) = dsT k D E m d * dsT k D E n e := by
  unfold dsT
  rw [Nat.mul_div_mul_comm hd he, hD.mul, hE.mul, Nat.mul_pow, Int.natCast_mul]
  exact mul4 _ _ _ _ _ _
theorem dsF_mul {k : Nat} {D E : Int} (hD : Sm D) (hE : Sm E) {m n : Nat} (m1 : 1 ≤ m) (n1 : 1 ≤ n) (c : Nat.gcd m n = 1) : dsF k D E (m * n) = dsF k D E m * dsF k D E n := by
  unfold dsF
  rw [perm_sum ((prods_perm m1 n1 c).map _)]
  exact sum_prods _ _ _ _ _ fun a ha b hb => dsT_mul hD hE (Nat.dvd_of_mod_eq_zero ((dvs_iff m1 a).mp ha).2) (Nat.dvd_of_mod_eq_zero ((dvs_iff n1 b).mp hb).2)
/-! ### two signs exchanged -/
theorem dsF_swap {D E : Int} {n : Nat} (n1 : 1 ≤ n) : dsF 0 D E n = dsF 0 E D n := by
  have dv := fun d (h : d ∈ dvs n) => (dvs_iff n1 d).mp h
  have p : (dvs n).Perm ((dvs n).map fun d => n / d) := by
    refine dvs_perm n1 ?_ fun x => ?_
    · unfold List.Nodup
      rw [List.pairwise_map]
      refine List.Pairwise.imp_of_mem (fun {a b} ha hb h z => h ?_) (asc_nodup (dvs_asc n1))
      rw [← div_back n1 (dv a ha).2 (dv a ha).1, z, div_back n1 (dv b hb).2 (dv b hb).1]
    · rw [List.mem_map]
      constructor
      · rintro ⟨d, hd, rfl⟩
        exact (div_part n1 (dv d hd).2 (dv d hd).1).2
      · rintro ⟨h1, h2⟩
        exact ⟨n / x, (dvs_iff n1 _).mpr (div_part n1 h2 h1).2, div_back n1 h2 h1⟩
  unfold dsF
  rw [perm_sum (p.map (dsT 0 D E n)), List.map_map]
  congr 1
  refine List.map_congr_left fun d hd => ?_
  show dsT 0 D E n (n / d) = dsT 0 E D n d
  unfold dsT
  rw [div_back n1 (dv d hd).2 (dv d hd).1, Nat.pow_zero, Nat.pow_zero, Int.mul_comm (valueAt D _)]
theorem dsF_ones {n : Nat} (h1 : ∀ x : Nat, valueAt 1 (x : Int) = 1) : dsF 0 1 1 n = ((dvs n).length : Int) := by
  unfold dsF
  have : ∀ l : List Nat, (l.map (dsT 0 1 1 n)).sum = (l.length : Int) := fun l => by
    induction l with
    | nil => rfl
    | cons x l ih =>
      rw [List.map_cons, List.sum_cons, ih, List.length_cons]
      unfold dsT
      rw [h1, h1, Nat.pow_zero]
      simp
      omega
  exact this _
/-! ### prime powers -/
def Pri (p : Nat) : Prop := 2 ≤ p ∧ ∀ d, d ∣ p → d = 1 ∨ d = p
theorem Pri.cop {p n : Nat} (h : Pri p) (k : ¬ n % p = 0) : Nat.gcd p n = 1 := by
  rcases h.2 _ (Nat.gcd_dvd_left p n) with e | e
  · exact e
  · exact absurd (Nat.mod_eq_zero_of_dvd (by rw [← e]; exact Nat.gcd_dvd_right p n)) k
theorem Pri.pow {p : Nat} (h : Pri p) : ∀ e d, d ∣ p ^ e → ∃ i, i ≤ e ∧ d = p ^ i
  | 0, d, hd => ⟨0, Nat.le_refl _, by rw [Nat.pow_zero] at hd ⊢; exact Nat.dvd_one.mp hd⟩
  | e + 1, d, hd => by
    by_cases k : d % p = 0
    · obtain ⟨c, rfl⟩ := Nat.dvd_of_mod_eq_zero k
      rw [Nat.pow_succ, Nat.mul_comm (p ^ e)] at hd
      obtain ⟨i, hi, rfl⟩ := h.pow e c (Nat.dvd_of_mul_dvd_mul_left (by have := h.1; omega) hd)
      exact ⟨i + 1, by omega, by rw [Nat.pow_succ, Nat.mul_comm]⟩
    · rw [Nat.pow_succ] at hd
      have c : Nat.Coprime d p := Nat.Coprime.symm (h.cop k)
      obtain ⟨i, hi, rfl⟩ := h.pow e d (Nat.Coprime.dvd_of_dvd_mul_right c hd)
      exact ⟨i, by omega, rfl⟩
def geo (a b : Int) (e : Nat) : Int := ((List.range (e + 1)).map fun i => a ^ (e - i) * b ^ i).sum
theorem geo_0 (a b : Int) : geo a b 0 = 1 := by unfold geo; simp
theorem geo_succ (a b : Int) (e : Nat) : geo a b (e + 1) = a * geo a b e + b ^ (e + 1) := by
  unfold geo
  rw [List.range_succ, List.map_append, List.sum_append, ← sum_mul_left]
  congr 1
  · congr 1
    refine List.map_congr_left fun i hi => ?_
    have := List.mem_range.mp hi
    rw [show e + 1 - i = (e - i) + 1 by omega, Int.pow_succ]
    grind
  · simp
theorem geo_1 (a b : Int) : geo a b 1 = a + b := by rw [geo_succ, geo_0]; grind
theorem geo_two (a b : Int) (e : Nat) : geo a b (e + 2) = (a + b) * geo a b (e + 1) - a * b * geo a b e := by
  rw [geo_succ a b (e + 1), geo_succ a b e, Int.pow_succ b (e + 1)]
  grind
theorem val_pow {s : Int} (h : Sm s) (p : Nat) : ∀ e, valueAt s ((p ^ e : Nat) : Int) = valueAt s (p : Int) ^ e
  | 0 => by rw [Nat.pow_zero, h.one, Int.pow_zero]
  | e + 1 => by rw [Nat.pow_succ, h.mul, val_pow h p e, Int.pow_succ]
theorem dsF_pow {k : Nat} {D E : Int} (hD : Sm D) (hE : Sm E) {p : Nat} (hp : Pri p) (e : Nat) : dsF k D E (p ^ e) = geo (valueAt D (p : Int)) (valueAt E (p : Int) * ((p ^ k : Nat) : Int)) e := by
  have p0 : 0 < p := by have := hp.1; omega
  have pe1 : 1 ≤ p ^ e := Nat.pow_pos p0
  have pm : (dvs (p ^ e)).Perm ((List.range (e + 1)).map fun i => p ^ i) := by
    refine dvs_perm pe1 ?_ fun x => ?_
    · unfold List.Nodup
      rw [List.pairwise_map]
      refine List.Pairwise.imp (fun {a b} h z => ?_) List.pairwise_lt_range
      have := Nat.pow_lt_pow_right (show 1 < p by have := hp.1; omega) h
      omega
    · rw [List.mem_map]
      constructor
      · rintro ⟨i, hi, rfl⟩
        have := List.mem_range.mp hi
        exact ⟨Nat.pow_pos p0, Nat.mod_eq_zero_of_dvd (Nat.pow_dvd_pow p (by omega))⟩
      · rintro ⟨h1, h2⟩
        obtain ⟨i, hi, rfl⟩ := hp.pow e x (Nat.dvd_of_mod_eq_zero h2)
        exact ⟨i, List.mem_range.mpr (by omega), rfl⟩
  unfold dsF geo
  rw [perm_sum (pm.map _), List.map_map]
  congr 1
  refine List.map_congr_left fun i hi => ?_
  have hi : i < e + 1 := List.mem_range.mp hi
  show dsT k D E (p ^ e) (p ^ i) = _
  unfold dsT
  rw [Nat.pow_div (by omega) p0, val_pow hD, val_pow hE, Int.mul_pow, ← Nat.pow_mul, Nat.mul_comm i k, Nat.pow_mul, Int.natCast_pow (p ^ k) i, Int.mul_assoc]
theorem dsF_one {k : Nat} {D E : Int} (hD : Sm D) (hE : Sm E) : dsF k D E 1 = 1 := by
  unfold dsF
  rw [show dvs 1 = [1] by decide +kernel, List.map_cons, List.map_nil, List.sum_cons]
  unfold dsT
  rw [show 1 / 1 = 1 from rfl, hD.one, hE.one, Nat.one_pow]
  rfl
/-! ### joined signs -/
theorem dsF_join {k : Nat} {D E J1 J2 t : Int} {n : Nat} (n1 : 1 ≤ n) (ht : Sm t) (h1 : ∀ d, d ∣ n → valueAt J1 (d : Int) = valueAt D (d : Int) * valueAt t (d : Int)) (h2 : ∀ d, d ∣ n → valueAt J2 (d : Int) = valueAt E (d : Int) * valueAt t (d : Int)) : dsF k J1 J2 n = dsF k D E n * valueAt t (n : Int) := by
  unfold dsF
  rw [Int.mul_comm, ← sum_mul_left]
  congr 1
  refine List.map_congr_left fun d hd => ?_
  obtain ⟨d1, dm⟩ := (dvs_iff n1 d).mp hd
  obtain ⟨e, _, m2⟩ := div_part n1 dm d1
  unfold dsT
  rw [h1 _ (Nat.dvd_of_mod_eq_zero m2), h2 _ (Nat.dvd_of_mod_eq_zero dm)]
  rw [show valueAt t (n : Int) = valueAt t (d : Int) * valueAt t ((n / d : Nat) : Int) by rw [← ht.mul, e]]
  grind
end Ft

namespace Ft
/-! The signs up to 400 from 0: their odd primes, whether 8 divides them, whether the sign by 4 is in them. -/
structure Ent where
  s : Int
  a : Nat
  ps : List Nat
  b2 : Bool
  b4 : Bool
def lg (p n : Nat) : Bool := !(Nat.beq (n ^ ((p - 1) / 2) % p) 1)
def l8 (n : Nat) : Bool := Nat.beq (n % 8) 3 || Nat.beq (n % 8) 5
def l4 (n : Nat) : Bool := Nat.beq (n % 4) 3
def lgs (n : Nat) : List Nat → Bool
  | [] => false
  | p :: r => xor (lg p n) (lgs n r)
def lam (e : Ent) (n : Nat) : Bool := xor (lgs n e.ps) (xor (e.b2 && l8 n) (e.b4 && l4 n))
def fv (e : Ent) (n : Nat) : Int := if Nat.beq (Nat.gcd e.a n) 1 = true then sg (!lam e n) else 0
def prs : List Nat := [3, 5, 7, 11, 13, 17, 19, 23, 29, 31, 37, 41, 43, 47, 53, 59, 61, 67, 71, 73, 79, 83, 89, 97, 101, 103, 107, 109, 113, 127, 131, 137, 139, 149, 151, 157, 163, 167, 173, 179, 181, 191, 193, 197, 199, 211, 223, 227, 229, 233, 239, 241, 251, 257, 263, 269, 271, 277, 281, 283, 293, 307, 311, 313, 317, 331, 337, 347, 349, 353, 359, 367, 373, 379, 383, 389, 397]
inductive Tre where
  | leaf
  | node (l : Tre) (e : Ent) (r : Tre)
def Tre.list : Tre → List Ent
  | .leaf => []
  | .node l e r => l.list ++ e :: r.list
def Tre.find (j : Int) : Tre → Option Ent
  | .leaf => none
  | .node l e r => if j < e.s then l.find j else if e.s < j then r.find j else some e
def tr0 : Tre := (.node (.node (.node (.node (.node .leaf ⟨-399, 399, [3, 7, 19], false, false⟩ .leaf) ⟨-395, 395, [5, 79], false, false⟩ (.node .leaf ⟨-391, 391, [17, 23], false, false⟩ .leaf)) ⟨-388, 388, [97], false, true⟩ (.node (.node .leaf ⟨-383, 383, [383], false, false⟩ .leaf) ⟨-379, 379, [379], false, false⟩ (.node .leaf ⟨-376, 376, [47], true, false⟩ .leaf))) ⟨-372, 372, [3, 31], false, true⟩ (.node (.node (.node .leaf ⟨-371, 371, [7, 53], false, false⟩ .leaf) ⟨-367, 367, [367], false, false⟩ (.node .leaf ⟨-359, 359, [359], false, false⟩ .leaf)) ⟨-356, 356, [89], false, true⟩ (.node (.node .leaf ⟨-355, 355, [5, 71], false, false⟩ .leaf) ⟨-347, 347, [347], false, false⟩ (.node .leaf ⟨-344, 344, [43], true, false⟩ .leaf)))) ⟨-340, 340, [5, 17], false, true⟩ (.node (.node (.node (.node .leaf ⟨-339, 339, [3, 113], false, false⟩ .leaf) ⟨-335, 335, [5, 67], false, false⟩ (.node .leaf ⟨-331, 331, [331], false, false⟩ .leaf)) ⟨-328, 328, [41], true, true⟩ (.node (.node .leaf ⟨-327, 327, [3, 109], false, false⟩ .leaf) ⟨-323, 323, [17, 19], false, false⟩ (.node .leaf ⟨-319, 319, [11, 29], false, false⟩ .leaf))) ⟨-312, 312, [3, 13], true, false⟩ (.node (.node (.node .leaf ⟨-311, 311, [311], false, false⟩ .leaf) ⟨-308, 308, [7, 11], false, true⟩ (.node .leaf ⟨-307, 307, [307], false, false⟩ .leaf)) ⟨-303, 303, [3, 101], false, false⟩ (.node (.node .leaf ⟨-299, 299, [13, 23], false, false⟩ .leaf) ⟨-296, 296, [37], true, true⟩ .leaf))))
def tr1 : Tre := (.node (.node (.node (.node (.node .leaf ⟨-292, 292, [73], false, true⟩ .leaf) ⟨-291, 291, [3, 97], false, false⟩ (.node .leaf ⟨-287, 287, [7, 41], false, false⟩ .leaf)) ⟨-283, 283, [283], false, false⟩ (.node (.node .leaf ⟨-280, 280, [5, 7], true, false⟩ .leaf) ⟨-276, 276, [3, 23], false, true⟩ (.node .leaf ⟨-271, 271, [271], false, false⟩ .leaf))) ⟨-267, 267, [3, 89], false, false⟩ (.node (.node (.node .leaf ⟨-264, 264, [3, 11], true, true⟩ .leaf) ⟨-263, 263, [263], false, false⟩ (.node .leaf ⟨-260, 260, [5, 13], false, true⟩ .leaf)) ⟨-259, 259, [7, 37], false, false⟩ (.node (.node .leaf ⟨-255, 255, [3, 5, 17], false, false⟩ .leaf) ⟨-251, 251, [251], false, false⟩ .leaf))) ⟨-248, 248, [31], true, false⟩ (.node (.node (.node (.node .leaf ⟨-247, 247, [13, 19], false, false⟩ .leaf) ⟨-244, 244, [61], false, true⟩ (.node .leaf ⟨-239, 239, [239], false, false⟩ .leaf)) ⟨-235, 235, [5, 47], false, false⟩ (.node (.node .leaf ⟨-232, 232, [29], true, true⟩ .leaf) ⟨-231, 231, [3, 7, 11], false, false⟩ (.node .leaf ⟨-228, 228, [3, 19], false, true⟩ .leaf))) ⟨-227, 227, [227], false, false⟩ (.node (.node (.node .leaf ⟨-223, 223, [223], false, false⟩ .leaf) ⟨-219, 219, [3, 73], false, false⟩ (.node .leaf ⟨-215, 215, [5, 43], false, false⟩ .leaf)) ⟨-212, 212, [53], false, true⟩ (.node (.node .leaf ⟨-211, 211, [211], false, false⟩ .leaf) ⟨-203, 203, [7, 29], false, false⟩ .leaf))))
def tr2 : Tre := (.node (.node (.node (.node (.node .leaf ⟨-195, 195, [3, 5, 13], false, false⟩ .leaf) ⟨-191, 191, [191], false, false⟩ (.node .leaf ⟨-187, 187, [11, 17], false, false⟩ .leaf)) ⟨-184, 184, [23], true, false⟩ (.node (.node .leaf ⟨-183, 183, [3, 61], false, false⟩ .leaf) ⟨-179, 179, [179], false, false⟩ (.node .leaf ⟨-168, 168, [3, 7], true, true⟩ .leaf))) ⟨-167, 167, [167], false, false⟩ (.node (.node (.node .leaf ⟨-164, 164, [41], false, true⟩ .leaf) ⟨-163, 163, [163], false, false⟩ (.node .leaf ⟨-159, 159, [3, 53], false, false⟩ .leaf)) ⟨-155, 155, [5, 31], false, false⟩ (.node (.node .leaf ⟨-152, 152, [19], true, false⟩ .leaf) ⟨-151, 151, [151], false, false⟩ (.node .leaf ⟨-148, 148, [37], false, true⟩ .leaf)))) ⟨-143, 143, [11, 13], false, false⟩ (.node (.node (.node (.node .leaf ⟨-139, 139, [139], false, false⟩ .leaf) ⟨-136, 136, [17], true, true⟩ (.node .leaf ⟨-132, 132, [3, 11], false, true⟩ .leaf)) ⟨-131, 131, [131], false, false⟩ (.node (.node .leaf ⟨-127, 127, [127], false, false⟩ .leaf) ⟨-123, 123, [3, 41], false, false⟩ (.node .leaf ⟨-120, 120, [3, 5], true, false⟩ .leaf))) ⟨-119, 119, [7, 17], false, false⟩ (.node (.node (.node .leaf ⟨-116, 116, [29], false, true⟩ .leaf) ⟨-115, 115, [5, 23], false, false⟩ (.node .leaf ⟨-111, 111, [3, 37], false, false⟩ .leaf)) ⟨-107, 107, [107], false, false⟩ (.node (.node .leaf ⟨-104, 104, [13], true, true⟩ .leaf) ⟨-103, 103, [103], false, false⟩ .leaf))))
def tr3 : Tre := (.node (.node (.node (.node (.node .leaf ⟨-91, 91, [7, 13], false, false⟩ .leaf) ⟨-88, 88, [11], true, false⟩ (.node .leaf ⟨-87, 87, [3, 29], false, false⟩ .leaf)) ⟨-84, 84, [3, 7], false, true⟩ (.node (.node .leaf ⟨-83, 83, [83], false, false⟩ .leaf) ⟨-79, 79, [79], false, false⟩ (.node .leaf ⟨-71, 71, [71], false, false⟩ .leaf))) ⟨-68, 68, [17], false, true⟩ (.node (.node (.node .leaf ⟨-67, 67, [67], false, false⟩ .leaf) ⟨-59, 59, [59], false, false⟩ (.node .leaf ⟨-56, 56, [7], true, false⟩ .leaf)) ⟨-55, 55, [5, 11], false, false⟩ (.node (.node .leaf ⟨-52, 52, [13], false, true⟩ .leaf) ⟨-51, 51, [3, 17], false, false⟩ .leaf))) ⟨-47, 47, [47], false, false⟩ (.node (.node (.node (.node .leaf ⟨-43, 43, [43], false, false⟩ .leaf) ⟨-40, 40, [5], true, true⟩ (.node .leaf ⟨-39, 39, [3, 13], false, false⟩ .leaf)) ⟨-35, 35, [5, 7], false, false⟩ (.node (.node .leaf ⟨-31, 31, [31], false, false⟩ .leaf) ⟨-24, 24, [3], true, false⟩ (.node .leaf ⟨-23, 23, [23], false, false⟩ .leaf))) ⟨-20, 20, [5], false, true⟩ (.node (.node (.node .leaf ⟨-19, 19, [19], false, false⟩ .leaf) ⟨-15, 15, [3, 5], false, false⟩ (.node .leaf ⟨-11, 11, [11], false, false⟩ .leaf)) ⟨-8, 8, [], true, true⟩ (.node (.node .leaf ⟨-7, 7, [7], false, false⟩ .leaf) ⟨-4, 4, [], false, true⟩ .leaf))))
def tr4 : Tre := (.node (.node (.node (.node (.node .leaf ⟨1, 1, [], false, false⟩ .leaf) ⟨5, 5, [5], false, false⟩ (.node .leaf ⟨8, 8, [], true, false⟩ .leaf)) ⟨12, 12, [3], false, true⟩ (.node (.node .leaf ⟨13, 13, [13], false, false⟩ .leaf) ⟨17, 17, [17], false, false⟩ (.node .leaf ⟨21, 21, [3, 7], false, false⟩ .leaf))) ⟨24, 24, [3], true, true⟩ (.node (.node (.node .leaf ⟨28, 28, [7], false, true⟩ .leaf) ⟨29, 29, [29], false, false⟩ (.node .leaf ⟨33, 33, [3, 11], false, false⟩ .leaf)) ⟨37, 37, [37], false, false⟩ (.node (.node .leaf ⟨40, 40, [5], true, false⟩ .leaf) ⟨41, 41, [41], false, false⟩ (.node .leaf ⟨44, 44, [11], false, true⟩ .leaf)))) ⟨53, 53, [53], false, false⟩ (.node (.node (.node (.node .leaf ⟨56, 56, [7], true, true⟩ .leaf) ⟨57, 57, [3, 19], false, false⟩ (.node .leaf ⟨60, 60, [3, 5], false, true⟩ .leaf)) ⟨61, 61, [61], false, false⟩ (.node (.node .leaf ⟨65, 65, [5, 13], false, false⟩ .leaf) ⟨69, 69, [3, 23], false, false⟩ (.node .leaf ⟨73, 73, [73], false, false⟩ .leaf))) ⟨76, 76, [19], false, true⟩ (.node (.node (.node .leaf ⟨77, 77, [7, 11], false, false⟩ .leaf) ⟨85, 85, [5, 17], false, false⟩ (.node .leaf ⟨88, 88, [11], true, true⟩ .leaf)) ⟨89, 89, [89], false, false⟩ (.node (.node .leaf ⟨92, 92, [23], false, true⟩ .leaf) ⟨93, 93, [3, 31], false, false⟩ .leaf))))
def tr5 : Tre := (.node (.node (.node (.node (.node .leaf ⟨101, 101, [101], false, false⟩ .leaf) ⟨104, 104, [13], true, false⟩ (.node .leaf ⟨105, 105, [3, 5, 7], false, false⟩ .leaf)) ⟨109, 109, [109], false, false⟩ (.node (.node .leaf ⟨113, 113, [113], false, false⟩ .leaf) ⟨120, 120, [3, 5], true, true⟩ (.node .leaf ⟨124, 124, [31], false, true⟩ .leaf))) ⟨129, 129, [3, 43], false, false⟩ (.node (.node (.node .leaf ⟨133, 133, [7, 19], false, false⟩ .leaf) ⟨136, 136, [17], true, false⟩ (.node .leaf ⟨137, 137, [137], false, false⟩ .leaf)) ⟨140, 140, [5, 7], false, true⟩ (.node (.node .leaf ⟨141, 141, [3, 47], false, false⟩ .leaf) ⟨145, 145, [5, 29], false, false⟩ .leaf))) ⟨149, 149, [149], false, false⟩ (.node (.node (.node (.node .leaf ⟨152, 152, [19], true, true⟩ .leaf) ⟨156, 156, [3, 13], false, true⟩ (.node .leaf ⟨157, 157, [157], false, false⟩ .leaf)) ⟨161, 161, [7, 23], false, false⟩ (.node (.node .leaf ⟨165, 165, [3, 5, 11], false, false⟩ .leaf) ⟨168, 168, [3, 7], true, false⟩ (.node .leaf ⟨172, 172, [43], false, true⟩ .leaf))) ⟨173, 173, [173], false, false⟩ (.node (.node (.node .leaf ⟨177, 177, [3, 59], false, false⟩ .leaf) ⟨181, 181, [181], false, false⟩ (.node .leaf ⟨184, 184, [23], true, true⟩ .leaf)) ⟨185, 185, [5, 37], false, false⟩ (.node (.node .leaf ⟨188, 188, [47], false, true⟩ .leaf) ⟨193, 193, [193], false, false⟩ .leaf))))
def tr6 : Tre := (.node (.node (.node (.node (.node .leaf ⟨201, 201, [3, 67], false, false⟩ .leaf) ⟨204, 204, [3, 17], false, true⟩ (.node .leaf ⟨205, 205, [5, 41], false, false⟩ .leaf)) ⟨209, 209, [11, 19], false, false⟩ (.node (.node .leaf ⟨213, 213, [3, 71], false, false⟩ .leaf) ⟨217, 217, [7, 31], false, false⟩ (.node .leaf ⟨220, 220, [5, 11], false, true⟩ .leaf))) ⟨221, 221, [13, 17], false, false⟩ (.node (.node (.node .leaf ⟨229, 229, [229], false, false⟩ .leaf) ⟨232, 232, [29], true, false⟩ (.node .leaf ⟨233, 233, [233], false, false⟩ .leaf)) ⟨236, 236, [59], false, true⟩ (.node (.node .leaf ⟨237, 237, [3, 79], false, false⟩ .leaf) ⟨241, 241, [241], false, false⟩ (.node .leaf ⟨248, 248, [31], true, true⟩ .leaf)))) ⟨249, 249, [3, 83], false, false⟩ (.node (.node (.node (.node .leaf ⟨253, 253, [11, 23], false, false⟩ .leaf) ⟨257, 257, [257], false, false⟩ (.node .leaf ⟨264, 264, [3, 11], true, false⟩ .leaf)) ⟨265, 265, [5, 53], false, false⟩ (.node (.node .leaf ⟨268, 268, [67], false, true⟩ .leaf) ⟨269, 269, [269], false, false⟩ (.node .leaf ⟨273, 273, [3, 7, 13], false, false⟩ .leaf))) ⟨277, 277, [277], false, false⟩ (.node (.node (.node .leaf ⟨280, 280, [5, 7], true, true⟩ .leaf) ⟨281, 281, [281], false, false⟩ (.node .leaf ⟨284, 284, [71], false, true⟩ .leaf)) ⟨285, 285, [3, 5, 19], false, false⟩ (.node (.node .leaf ⟨293, 293, [293], false, false⟩ .leaf) ⟨296, 296, [37], true, false⟩ .leaf))))
def tr7 : Tre := (.node (.node (.node (.node (.node .leaf ⟨305, 305, [5, 61], false, false⟩ .leaf) ⟨309, 309, [3, 103], false, false⟩ (.node .leaf ⟨312, 312, [3, 13], true, true⟩ .leaf)) ⟨313, 313, [313], false, false⟩ (.node (.node .leaf ⟨316, 316, [79], false, true⟩ .leaf) ⟨317, 317, [317], false, false⟩ (.node .leaf ⟨321, 321, [3, 107], false, false⟩ .leaf))) ⟨328, 328, [41], true, false⟩ (.node (.node (.node .leaf ⟨329, 329, [7, 47], false, false⟩ .leaf) ⟨332, 332, [83], false, true⟩ (.node .leaf ⟨337, 337, [337], false, false⟩ .leaf)) ⟨341, 341, [11, 31], false, false⟩ (.node (.node .leaf ⟨344, 344, [43], true, true⟩ .leaf) ⟨345, 345, [3, 5, 23], false, false⟩ .leaf))) ⟨348, 348, [3, 29], false, true⟩ (.node (.node (.node (.node .leaf ⟨349, 349, [349], false, false⟩ .leaf) ⟨353, 353, [353], false, false⟩ (.node .leaf ⟨357, 357, [3, 7, 17], false, false⟩ .leaf)) ⟨364, 364, [7, 13], false, true⟩ (.node (.node .leaf ⟨365, 365, [5, 73], false, false⟩ .leaf) ⟨373, 373, [373], false, false⟩ (.node .leaf ⟨376, 376, [47], true, true⟩ .leaf))) ⟨377, 377, [13, 29], false, false⟩ (.node (.node (.node .leaf ⟨380, 380, [5, 19], false, true⟩ .leaf) ⟨381, 381, [3, 127], false, false⟩ (.node .leaf ⟨385, 385, [5, 7, 11], false, false⟩ .leaf)) ⟨389, 389, [389], false, false⟩ (.node (.node .leaf ⟨393, 393, [3, 131], false, false⟩ .leaf) ⟨397, 397, [397], false, false⟩ .leaf))))
def tre : Tre := (.node (.node (.node tr0 ⟨-295, 295, [5, 59], false, false⟩ tr1) ⟨-199, 199, [199], false, false⟩ (.node tr2 ⟨-95, 95, [5, 19], false, false⟩ tr3)) ⟨-3, 3, [3], false, false⟩ (.node (.node tr4 ⟨97, 97, [97], false, false⟩ tr5) ⟨197, 197, [197], false, false⟩ (.node tr6 ⟨301, 301, [7, 43], false, false⟩ tr7)))
def tab : List Ent := tre.list
/-- an odd prime, as far as the powers tell -/
def okP (p : Nat) : Bool := Nat.blt 2 p && (List.range p).all fun n => Nat.beq n 0 || (Nat.beq (n ^ ((p - 1) / 2) % p) 1 || Nat.beq (n ^ ((p - 1) / 2) % p + 1) p)
def okE (e : Ent) : Bool := Nat.beq e.s.natAbs e.a && (e.ps.all (fun p => Nat.beq (e.a % p) 0 && prs.contains p) && ((!e.b2 || Nat.beq (e.a % 8) 0) && (!e.b4 || Nat.beq (e.a % 4) 0)))
def okV (e : Ent) : Bool := (List.range e.a).all fun n => decide (valueRest e.s n = fv e n)
def okN (e : Ent) : Bool := decide (fv e (e.a - 1) = if 0 < e.s then 1 else -1)
def okS (e : Ent) : Bool := decide (((List.range e.a).map (fv e)).sum = if e.s = 1 then 1 else 0)
def ok4 (e : Ent) : Bool := !isSign (4 * e.s)
/-- what stands in one of the two alone -/
def xm : Nat → List Nat → List Nat → List Nat
  | 0, xs, ys => xs ++ ys
  | _ + 1, [], ys => ys
  | _ + 1, x :: xs, [] => x :: xs
  | k + 1, x :: xs, y :: ys => if Nat.blt x y = true then x :: xm k xs (y :: ys) else if Nat.blt y x = true then y :: xm k (x :: xs) ys else if Nat.beq x y = true then xm k xs ys else x :: xs ++ y :: ys
def okG (e f g : Ent) (j : Int) : Bool := decide (g.s = j) && (decide (g.ps = xm 10 e.ps f.ps) && ((g.b2 == xor e.b2 f.b2) && ((g.b4 == xor e.b4 f.b4) && Nat.beq ((e.a * f.a) ^ 3 % g.a) 0)))
def okJ (e f : Ent) : Bool := match tre.find (anySign (e.s * f.s)) with
  | some g => okG e f g (anySign (e.s * f.s))
  | none => !isSign (anySign (e.s * f.s))
def okT (e f : Ent) : Bool := !Nat.beq (Nat.gcd e.a f.a) 1 || decide (fv e f.a = fv f e.a * (if e.s < 0 ∧ f.s < 0 then -1 else 1))
def prsOf (f : Ent → Ent → Bool) : List Ent → Bool
  | [] => true
  | e :: r => (e :: r).all (f e) && prsOf f r
/-- the first k rows of it -/
def prsN (f : Ent → Ent → Bool) : Nat → List Ent → Bool
  | 0, _ => true
  | _ + 1, [] => true
  | k + 1, e :: r => (e :: r).all (f e) && prsN f k r
theorem prs_cut {f : Ent → Ent → Bool} : ∀ (k : Nat) (l : List Ent), prsN f k l = true → prsOf f (l.drop k) = true → prsOf f l = true
  | 0, l, _, h => h
  | _ + 1, [], _, _ => rfl
  | k + 1, e :: r, h1, h2 => by
    unfold prsN at h1
    rw [Bool.and_eq_true] at h1
    unfold prsOf
    rw [Bool.and_eq_true]
    exact ⟨h1.1, prs_cut k r h1.2 h2⟩
theorem tab_all : (((List.range 801).filter fun i : Nat => isSign ((i : Int) - 400)).map fun i : Nat => (i : Int) - 400) = tab.map Ent.s := by decide +kernel
theorem prs_all : prs.all okP = true := by decide +kernel
theorem tab_E : tab.all okE = true := by decide +kernel
theorem tab_4 : tab.all ok4 = true := by decide +kernel
end Ft

namespace Ft
/-! from the table to all integers -/
theorem beq_ {a b : Nat} : Nat.beq a b = true ↔ a = b := by
  constructor
  · exact Nat.eq_of_beq_eq_true
  · rintro rfl; exact Nat.beq_refl a
theorem gcd_mod (a n : Nat) : Nat.gcd a (n % a) = Nat.gcd a n := by
  rw [Nat.gcd_comm, ← Nat.gcd_rec]
theorem gcd_emod {a : Nat} (n : Int) (ha : 0 < a) : Nat.gcd a (n % (a : Int)).toNat = Nat.gcd a n.natAbs := by
  have hr := Int.emod_nonneg n (b := (a : Int)) (by omega)
  have e := Int.emod_add_mul_ediv n (a : Int)
  have er : (((n % (a : Int)).toNat : Nat) : Int) = n % (a : Int) := Int.toNat_of_nonneg hr
  apply Nat.dvd_antisymm
  · refine Nat.dvd_gcd (Nat.gcd_dvd_left _ _) ?_
    have h1 : ((Nat.gcd a (n % (a : Int)).toNat : Nat) : Int) ∣ (a : Int) := Int.natCast_dvd_natCast.mpr (Nat.gcd_dvd_left _ _)
    have h2 : ((Nat.gcd a (n % (a : Int)).toNat : Nat) : Int) ∣ n % (a : Int) := by
      have := Int.natCast_dvd_natCast.mpr (Nat.gcd_dvd_right a (n % (a : Int)).toNat)
      rw [er] at this
      exact this
    refine (Int.natAbs_dvd_natAbs (a := ((Nat.gcd a (n % (a : Int)).toNat : Nat) : Int)) (b := n)).mpr ?_
    have h3 := Int.dvd_add h2 (Int.dvd_trans h1 (Int.dvd_mul_right (a : Int) (n / (a : Int))))
    rw [e] at h3
    exact h3
  · refine Nat.dvd_gcd (Nat.gcd_dvd_left _ _) ?_
    have h1 : ((Nat.gcd a n.natAbs : Nat) : Int) ∣ (a : Int) := Int.natCast_dvd_natCast.mpr (Nat.gcd_dvd_left _ _)
    have h2 : ((Nat.gcd a n.natAbs : Nat) : Int) ∣ n := (Int.natAbs_dvd_natAbs (a := ((Nat.gcd a n.natAbs : Nat) : Int)) (b := n)).mp (Nat.gcd_dvd_right _ _)
    refine Int.natCast_dvd_natCast.mp ?_
    rw [er, Int.emod_def]
    exact Int.dvd_sub h2 (Int.dvd_trans h1 (Int.dvd_mul_right _ _))
/-! ### the logs -/
structure PrOk (p : Nat) : Prop where
  two : 2 < p
  val : ∀ n, n < p → n ≠ 0 → n ^ ((p - 1) / 2) % p = 1 ∨ n ^ ((p - 1) / 2) % p + 1 = p
theorem prOk {p : Nat} (h : p ∈ prs) : PrOk p := by
  have c := List.all_eq_true.mp prs_all p h
  unfold okP at c
  rw [Bool.and_eq_true] at c
  refine ⟨Nat.le_of_ble_eq_true c.1, fun n hn h0 => ?_⟩
  have d := List.all_eq_true.mp c.2 n (List.mem_range.mpr hn)
  rw [Bool.or_eq_true, Bool.or_eq_true, beq_, beq_, beq_] at d
  rcases d with d | d | d
  · exact absurd d h0
  · exact .inl d
  · exact .inr d
theorem lg_mod {p a : Nat} (n : Nat) (h : p ∣ a) : lg p (n % a) = lg p n := by
  unfold lg
  rw [Nat.pow_mod (n % a), Nat.mod_mod_of_dvd n h, ← Nat.pow_mod]
theorem lg_mul {p m n : Nat} (P : PrOk p) (hm : m % p ≠ 0) (hn : n % p ≠ 0) : lg p (m * n) = xor (lg p m) (lg p n) := by
  have t := P.two
  have hp : 0 < p := by omega
  have vm := P.val (m % p) (Nat.mod_lt _ hp) hm
  have vn := P.val (n % p) (Nat.mod_lt _ hp) hn
  rw [← Nat.pow_mod] at vm vn
  unfold lg
  rw [Nat.mul_pow, Nat.mul_mod]
  have b1 : ∀ {x : Nat}, x = 1 → Nat.beq x 1 = true := fun h => beq_.mpr h
  have b0 : ∀ {x : Nat}, x ≠ 1 → Nat.beq x 1 = false := fun h => by
    cases e : Nat.beq _ 1
    · rfl
    · exact absurd (beq_.mp e) h
  rcases vm with vm | vm <;> rcases vn with vn | vn
  · rw [vm, vn, Nat.mod_eq_of_lt (by omega : 1 * 1 < p)]; rfl
  · have e : n ^ ((p - 1) / 2) % p = p - 1 := by omega
    rw [vm, e, Nat.one_mul, Nat.mod_eq_of_lt (by omega), b0 (by omega), b1 rfl]; rfl
  · have e : m ^ ((p - 1) / 2) % p = p - 1 := by omega
    rw [vn, e, Nat.mul_one, Nat.mod_eq_of_lt (by omega), b0 (by omega), b1 rfl]; rfl
  · have e : n ^ ((p - 1) / 2) % p = p - 1 := by omega
    have e' : m ^ ((p - 1) / 2) % p = p - 1 := by omega
    have sq : (p - 1) * (p - 1) % p = 1 := by
      obtain ⟨q, rfl⟩ : ∃ q, p = q + 3 := ⟨p - 3, by omega⟩
      have : (q + 3 - 1) * (q + 3 - 1) = 1 + (q + 3) * (q + 1) := by
        rw [show q + 3 - 1 = q + 2 by omega, Nat.add_mul, Nat.mul_add, Nat.add_mul q 3, Nat.mul_add q q 1, Nat.mul_add 3]
        omega
      rw [this, Nat.add_mul_mod_self_left, Nat.mod_eq_of_lt (by omega)]
    rw [e, e', sq, b1 rfl, b0 (by omega)]; rfl
theorem l8_mod {a : Nat} (n : Nat) (h : 8 ∣ a) : l8 (n % a) = l8 n := by
  unfold l8
  rw [Nat.mod_mod_of_dvd n h]
theorem l4_mod {a : Nat} (n : Nat) (h : 4 ∣ a) : l4 (n % a) = l4 n := by
  unfold l4
  rw [Nat.mod_mod_of_dvd n h]
theorem l8_mul {m n : Nat} (hm : m % 2 = 1) (hn : n % 2 = 1) : l8 (m * n) = xor (l8 m) (l8 n) := by
  unfold l8
  rw [Nat.mul_mod]
  obtain h | h | h | h : m % 8 = 1 ∨ m % 8 = 3 ∨ m % 8 = 5 ∨ m % 8 = 7 := by omega
  all_goals
    obtain k | k | k | k : n % 8 = 1 ∨ n % 8 = 3 ∨ n % 8 = 5 ∨ n % 8 = 7 := by omega
    all_goals (rw [h, k]; rfl)
theorem l4_mul {m n : Nat} (hm : m % 2 = 1) (hn : n % 2 = 1) : l4 (m * n) = xor (l4 m) (l4 n) := by
  unfold l4
  rw [Nat.mul_mod]
  obtain h | h : m % 4 = 1 ∨ m % 4 = 3 := by omega
  all_goals
    obtain k | k : n % 4 = 1 ∨ n % 4 = 3 := by omega
    all_goals (rw [h, k]; rfl)
/-! ### an entry -/
structure EOk (e : Ent) : Prop where
  abs : e.s.natAbs = e.a
  ps : ∀ p ∈ e.ps, p ∣ e.a ∧ PrOk p
  d8 : e.b2 = true → 8 ∣ e.a
  d4 : e.b4 = true → 4 ∣ e.a
theorem eOk {e : Ent} (h : e ∈ tab) : EOk e := by
  have c := List.all_eq_true.mp tab_E e h
  unfold okE at c
  simp only [Bool.and_eq_true, Bool.or_eq_true, beq_, List.all_eq_true, Bool.not_eq_true'] at c
  obtain ⟨c1, c2, c3, c4⟩ := c
  refine ⟨c1, fun p hp => ⟨Nat.dvd_of_mod_eq_zero (c2 p hp).1, prOk (List.contains_iff_mem.mp (c2 p hp).2)⟩, fun k => ?_, fun k => ?_⟩
  · rcases c3 with c3 | c3
    · rw [k] at c3; cases c3
    · exact Nat.dvd_of_mod_eq_zero c3
  · rcases c4 with c4 | c4
    · rw [k] at c4; cases c4
    · exact Nat.dvd_of_mod_eq_zero c4
theorem lgs_mod {a : Nat} (n : Nat) : ∀ ps : List Nat, (∀ p ∈ ps, p ∣ a) → lgs (n % a) ps = lgs n ps
  | [], _ => rfl
  | p :: r, h => by
    unfold lgs
    rw [lg_mod n (h p List.mem_cons_self), lgs_mod n r fun q hq => h q (List.mem_cons_of_mem _ hq)]
theorem xor4 (a b c d : Bool) : xor (xor a b) (xor c d) = xor (xor a c) (xor b d) := by cases a <;> cases b <;> cases c <;> cases d <;> rfl
theorem lgs_mul {m n : Nat} : ∀ ps : List Nat, (∀ p ∈ ps, PrOk p ∧ m % p ≠ 0 ∧ n % p ≠ 0) → lgs (m * n) ps = xor (lgs m ps) (lgs n ps)
  | [], _ => rfl
  | p :: r, h => by
    have hp := h p List.mem_cons_self
    unfold lgs
    rw [lg_mul hp.1 hp.2.1 hp.2.2, lgs_mul r fun q hq => h q (List.mem_cons_of_mem _ hq), xor4]
theorem lam_mod {e : Ent} (E : EOk e) (n : Nat) : lam e (n % e.a) = lam e n := by
  unfold lam
  rw [lgs_mod n e.ps fun p hp => (E.ps p hp).1]
  have h8 : (e.b2 && l8 (n % e.a)) = (e.b2 && l8 n) := by
    cases k : e.b2
    · rfl
    · rw [l8_mod n (E.d8 k)]
  have h4 : (e.b4 && l4 (n % e.a)) = (e.b4 && l4 n) := by
    cases k : e.b4
    · rfl
    · rw [l4_mod n (E.d4 k)]
  rw [h8, h4]
theorem cop_mod {a n p : Nat} (h : Nat.gcd a n = 1) (hp : p ∣ a) (h2 : 2 ≤ p) : n % p ≠ 0 := fun k => by
  have := Nat.dvd_gcd hp (Nat.dvd_of_mod_eq_zero k)
  rw [h] at this
  have := Nat.le_of_dvd (by decide) this
  omega
theorem lam_mul {e : Ent} (E : EOk e) {m n : Nat} (hm : Nat.gcd e.a m = 1) (hn : Nat.gcd e.a n = 1) : lam e (m * n) = xor (lam e m) (lam e n) := by
  unfold lam
  rw [lgs_mul e.ps fun p hp => ⟨(E.ps p hp).2, cop_mod hm (E.ps p hp).1 (Nat.le_of_lt (E.ps p hp).2.two), cop_mod hn (E.ps p hp).1 (Nat.le_of_lt (E.ps p hp).2.two)⟩]
  have odd : ∀ {x : Nat}, Nat.gcd e.a x = 1 → 2 ∣ e.a → x % 2 = 1 := fun {x} h h2 => by
    have := cop_mod h h2 (Nat.le_refl 2)
    omega
  have h8 : (e.b2 && l8 (m * n)) = xor (e.b2 && l8 m) (e.b2 && l8 n) := by
    cases k : e.b2
    · rfl
    · have d := Nat.dvd_trans (by decide : 2 ∣ 8) (E.d8 k)
      exact l8_mul (odd hm d) (odd hn d)
  have h4 : (e.b4 && l4 (m * n)) = xor (e.b4 && l4 m) (e.b4 && l4 n) := by
    cases k : e.b4
    · rfl
    · have d := Nat.dvd_trans (by decide : 2 ∣ 4) (E.d4 k)
      exact l4_mul (odd hm d) (odd hn d)
  rw [h8, h4, xor4 (e.b2 && l8 m), xor4]
theorem fv_mod {e : Ent} (E : EOk e) (n : Nat) : fv e (n % e.a) = fv e n := by
  unfold fv
  rw [gcd_mod, lam_mod E]
theorem fv_co {e : Ent} {n : Nat} (h : Nat.gcd e.a n = 1) : fv e n = sg (!lam e n) := if_pos (beq_.mpr h)
theorem fv_non {e : Ent} {n : Nat} (h : ¬ Nat.gcd e.a n = 1) : fv e n = 0 := if_neg fun k => h (beq_.mp k)
theorem sg_xor (a b : Bool) : sg (!xor a b) = sg (!a) * sg (!b) := by cases a <;> cases b <;> decide
theorem fv_mul {e : Ent} (E : EOk e) (m n : Nat) : fv e m * fv e n = fv e (m * n) := by
  by_cases hm : Nat.gcd e.a m = 1
  · by_cases hn : Nat.gcd e.a n = 1
    · rw [fv_co hm, fv_co hn, fv_co (Nat.Coprime.mul_right hm hn), lam_mul E hm hn, sg_xor]
    · rw [fv_non hn, Int.mul_zero, fv_non fun k => hn (Nat.Coprime.coprime_mul_left_right k)]
  · rw [fv_non hm, Int.zero_mul, fv_non fun k => hm (Nat.Coprime.coprime_mul_right_right k)]
end Ft

namespace Ft
theorem lgs_app (n : Nat) : ∀ xs ys : List Nat, lgs n (xs ++ ys) = xor (lgs n xs) (lgs n ys)
  | [], ys => by
    show lgs n ys = xor false (lgs n ys)
    rw [Bool.false_xor]
  | x :: xs, ys => by
    show xor (lg x n) (lgs n (xs ++ ys)) = xor (xor (lg x n) (lgs n xs)) (lgs n ys)
    rw [lgs_app n xs ys, Bool.xor_assoc]
theorem lgs_cons (n x : Nat) (xs : List Nat) : lgs n (x :: xs) = xor (lg x n) (lgs n xs) := rfl
theorem lgs_xm (n : Nat) : ∀ (k : Nat) (xs ys : List Nat), lgs n (xm k xs ys) = xor (lgs n xs) (lgs n ys)
  | 0, xs, ys => lgs_app n xs ys
  | k + 1, [], ys => by
    show lgs n ys = xor false (lgs n ys)
    rw [Bool.false_xor]
  | k + 1, x :: xs, [] => by
    show lgs n (x :: xs) = xor (lgs n (x :: xs)) false
    rw [Bool.xor_false]
  | k + 1, x :: xs, y :: ys => by
    unfold xm
    split
    · rw [lgs_cons, lgs_xm n k xs (y :: ys), lgs_cons n x xs, Bool.xor_assoc]
    · split
      · rw [lgs_cons, lgs_xm n k (x :: xs) ys, lgs_cons n y ys]
        cases lg y n <;> cases lgs n (x :: xs) <;> cases lgs n ys <;> rfl
      · split
        · rename_i h
          have e : x = y := beq_.mp h
          subst e
          rw [lgs_xm n k xs ys, lgs_cons, lgs_cons]
          cases lg x n <;> cases lgs n xs <;> cases lgs n ys <;> rfl
        · exact lgs_app n (x :: xs) (y :: ys)
theorem prs_of {f : Ent → Ent → Bool} : ∀ {l : List Ent}, prsOf f l = true → ∀ e ∈ l, ∀ g ∈ l, f e g = true ∨ f g e = true
  | [], _, _, h, _, _ => nomatch h
  | x :: r, hp, e, he, g, hg => by
    unfold prsOf at hp
    rw [Bool.and_eq_true] at hp
    have hx := fun y hy => List.all_eq_true.mp hp.1 y hy
    rcases List.mem_cons.mp he with rfl | he'
    · exact .inl (hx g hg)
    · rcases List.mem_cons.mp hg with rfl | hg'
      · exact .inr (hx e he)
      · exact prs_of hp.2 e he' g hg'
theorem find_mem {j : Int} {g : Ent} : ∀ {t : Tre}, t.find j = some g → g ∈ t.list
  | .leaf, h => nomatch h
  | .node l e r, h => by
    unfold Tre.find at h
    unfold Tre.list
    split at h
    · exact List.mem_append_left _ (find_mem h)
    · split at h
      · exact List.mem_append_right _ (List.mem_cons_of_mem _ (find_mem h))
      · cases h
        exact List.mem_append_right _ List.mem_cons_self
theorem tab_sign {e : Ent} (h : e ∈ tab) : isSign e.s = true := by
  have m : e.s ∈ tab.map Ent.s := List.mem_map.mpr ⟨e, h, rfl⟩
  rw [← tab_all] at m
  obtain ⟨i, hi, hs⟩ := List.mem_map.mp m
  rw [← hs]
  exact (List.mem_filter.mp hi).2
theorem of_sign {s : Int} (h : isSign s = true) : ∃ e ∈ tab, e.s = s := by
  have l := isSign_le h
  have hi : (((s + 400).toNat : Nat) : Int) - 400 = s := by omega
  have m : s ∈ tab.map Ent.s := by
    rw [← tab_all]
    refine List.mem_map.mpr ⟨(s + 400).toNat, List.mem_filter.mpr ⟨List.mem_range.mpr (by omega), ?_⟩, hi⟩
    rw [hi]
    exact h
  exact List.mem_map.mp m
theorem pos_of {e : Ent} (h : e ∈ tab) : 0 < e.a := by
  have l := isSign_le (tab_sign h)
  have a := (eOk h).abs
  omega
/-- the checks that the kernel makes -/
structure Chk : Prop where
  V : tab.all okV = true
  J : prsOf okJ tab = true
section
variable (W : Chk)
include W
theorem value_of {e : Ent} (h : e ∈ tab) (n : Int) : valueAt e.s n = fv e (n % (e.a : Int)).toNat := by
  have p := pos_of h
  have c := List.all_eq_true.mp W.V e h
  unfold okV at c
  have m0 := Int.emod_nonneg n (b := (e.a : Int)) (by omega)
  have m1 := Int.emod_lt_of_pos n (b := (e.a : Int)) (by omega)
  have d := of_decide_eq_true (List.all_eq_true.mp c (n % (e.a : Int)).toNat (List.mem_range.mpr (by omega)))
  unfold valueAt
  rw [(eOk h).abs]
  exact d
theorem value_nat {e : Ent} (h : e ∈ tab) (n : Nat) : valueAt e.s (n : Int) = fv e n := by
  rw [value_of W h, show ((n : Int) % (e.a : Int)).toNat = n % e.a from rfl, fv_mod (eOk h)]
theorem mul_of {e : Ent} (h : e ∈ tab) (m n : Int) : valueAt e.s m * valueAt e.s n = valueAt e.s (m * n) := by
  have E := eOk h
  have p := pos_of h
  rw [value_of W h, value_of W h, value_of W h, fv_mul E]
  have em := Int.toNat_of_nonneg (Int.emod_nonneg m (b := (e.a : Int)) (by omega))
  have en := Int.toNat_of_nonneg (Int.emod_nonneg n (b := (e.a : Int)) (by omega))
  have x : (m * n) % (e.a : Int) = ((((m % (e.a : Int)).toNat * (n % (e.a : Int)).toNat) % e.a : Nat) : Int) := by
    rw [Int.mul_emod, ← em, ← en]
    rfl
  rw [x, Int.toNat_natCast, fv_mod E]
theorem join_of {e f : Ent} (he : e ∈ tab) (hf : f ∈ tab) (k : okJ e f = true) (m : Int) (hj : isSign (anySign (e.s * f.s)) = true) (hg : Nat.gcd m.natAbs (e.s * f.s).natAbs = 1) : valueAt (anySign (e.s * f.s)) m = valueAt e.s m * valueAt f.s m := by
  unfold okJ at k
  cases hfind : tre.find (anySign (e.s * f.s)) with
  | none =>
    rw [hfind] at k
    dsimp only at k
    rw [hj] at k
    cases k
  | some g =>
    rw [hfind] at k
    dsimp only at k
    unfold okG at k
    simp only [Bool.and_eq_true, decide_eq_true_eq, beq_iff_eq, beq_] at k
    obtain ⟨k1, k2, k3, k4, k5⟩ := k
    have hgm : g ∈ tab := find_mem hfind
    rw [← k1, value_of W he, value_of W hf, value_of W hgm]
    have pe := pos_of he
    have pf := pos_of hf
    have pg := pos_of hgm
    have Ee := eOk he
    have Ef := eOk hf
    have Eg := eOk hgm
    have pB : 0 < e.a * f.a * g.a := Nat.mul_pos (Nat.mul_pos pe pf) pg
    obtain ⟨M, hM⟩ : ∃ M : Nat, m % ((e.a * f.a * g.a : Nat) : Int) = M := ⟨(m % ((e.a * f.a * g.a : Nat) : Int)).toNat, (Int.toNat_of_nonneg (Int.emod_nonneg m (by omega))).symm⟩
    have red : ∀ {x : Ent}, EOk x → x.a ∣ e.a * f.a * g.a → fv x (m % (x.a : Int)).toNat = fv x M ∧ (m % (x.a : Int)).toNat = M % x.a := by
      intro x X d
      have y : m % (x.a : Int) = ((M % x.a : Nat) : Int) := by
        rw [← Int.emod_emod_of_dvd m (Int.natCast_dvd_natCast.mpr d), hM]
        rfl
      rw [y, Int.toNat_natCast]
      exact ⟨fv_mod X M, rfl⟩
    have re := red Ee (Nat.dvd_trans (Nat.dvd_mul_right _ _) (Nat.dvd_mul_right _ _))
    have rf := red Ef (Nat.dvd_trans (Nat.dvd_mul_left _ _) (Nat.dvd_mul_right _ _))
    have rg := red Eg (Nat.dvd_mul_left _ _)
    rw [Int.natAbs_mul, Ee.abs, Ef.abs] at hg
    have ce : Nat.gcd e.a M = 1 := by
      rw [← gcd_mod, ← re.2, gcd_emod m pe, Nat.gcd_comm]
      exact Nat.Coprime.coprime_mul_right_right hg
    have cf : Nat.gcd f.a M = 1 := by
      rw [← gcd_mod, ← rf.2, gcd_emod m pf, Nat.gcd_comm]
      exact Nat.Coprime.coprime_mul_left_right hg
    have cg : Nat.gcd g.a M = 1 := by
      have c : Nat.Coprime M ((e.a * f.a) ^ 3) := Nat.Coprime.pow_right 3 (Nat.Coprime.mul_right (Nat.Coprime.symm ce) (Nat.Coprime.symm cf))
      exact Nat.Coprime.coprime_dvd_left (Nat.dvd_of_mod_eq_zero k5) (Nat.Coprime.symm c)
    rw [re.1, rf.1, rg.1, fv_co ce, fv_co cf, fv_co cg, ← sg_xor]
    have L : lam g M = xor (lam e M) (lam f M) := by
      unfold lam
      rw [k2, lgs_xm, k3, k4]
      cases lgs M e.ps <;> cases lgs M f.ps <;> cases e.b2 <;> cases f.b2 <;> cases e.b4 <;> cases f.b4 <;> cases l8 M <;> cases l4 M <;> rfl
    rw [L]
end
end Ft

namespace Ft
theorem all_cut {p : Ent → Bool} (n : Nat) (l : List Ent) (h1 : (l.take n).all p = true) (h2 : (l.drop n).all p = true) : l.all p = true := by
  rw [← List.take_append_drop n l, List.all_append, h1, h2]
  rfl
theorem len_V : tab.length = 243 := by decide +kernel
theorem tab_V0 : ((tab.drop 0).take 8).all okV = true := by decide +kernel
theorem tab_V8 : ((tab.drop 8).take 8).all okV = true := by decide +kernel
theorem tab_V16 : ((tab.drop 16).take 8).all okV = true := by decide +kernel
theorem tab_V24 : ((tab.drop 24).take 8).all okV = true := by decide +kernel
theorem tab_V32 : ((tab.drop 32).take 8).all okV = true := by decide +kernel
theorem tab_V40 : ((tab.drop 40).take 8).all okV = true := by decide +kernel
theorem tab_V48 : ((tab.drop 48).take 8).all okV = true := by decide +kernel
theorem tab_V56 : ((tab.drop 56).take 8).all okV = true := by decide +kernel
theorem tab_V64 : ((tab.drop 64).take 8).all okV = true := by decide +kernel
theorem tab_V72 : ((tab.drop 72).take 8).all okV = true := by decide +kernel
theorem tab_V80 : ((tab.drop 80).take 8).all okV = true := by decide +kernel
theorem tab_V88 : ((tab.drop 88).take 8).all okV = true := by decide +kernel
theorem tab_V96 : ((tab.drop 96).take 8).all okV = true := by decide +kernel
theorem tab_V104 : ((tab.drop 104).take 8).all okV = true := by decide +kernel
theorem tab_V112 : ((tab.drop 112).take 8).all okV = true := by decide +kernel
theorem tab_V120 : ((tab.drop 120).take 8).all okV = true := by decide +kernel
theorem tab_V128 : ((tab.drop 128).take 8).all okV = true := by decide +kernel
theorem tab_V136 : ((tab.drop 136).take 8).all okV = true := by decide +kernel
theorem tab_V144 : ((tab.drop 144).take 8).all okV = true := by decide +kernel
theorem tab_V152 : ((tab.drop 152).take 8).all okV = true := by decide +kernel
theorem tab_V160 : ((tab.drop 160).take 8).all okV = true := by decide +kernel
theorem tab_V168 : ((tab.drop 168).take 8).all okV = true := by decide +kernel
theorem tab_V176 : ((tab.drop 176).take 8).all okV = true := by decide +kernel
theorem tab_V184 : ((tab.drop 184).take 8).all okV = true := by decide +kernel
theorem tab_V192 : ((tab.drop 192).take 8).all okV = true := by decide +kernel
theorem tab_V200 : ((tab.drop 200).take 8).all okV = true := by decide +kernel
theorem tab_V208 : ((tab.drop 208).take 8).all okV = true := by decide +kernel
theorem tab_V216 : ((tab.drop 216).take 8).all okV = true := by decide +kernel
theorem tab_V224 : ((tab.drop 224).take 8).all okV = true := by decide +kernel
theorem tab_V232 : ((tab.drop 232).take 8).all okV = true := by decide +kernel
theorem tab_V240 : ((tab.drop 240).take 8).all okV = true := by decide +kernel
theorem tab_V : tab.all okV = true := by
  have e : (tab.drop 248).all okV = true := by rw [List.drop_eq_nil_of_le (by rw [len_V]; decide)]; rfl
  replace e : (tab.drop 240).all okV = true := all_cut 8 _ tab_V240 (by rw [List.drop_drop]; exact e)
  replace e : (tab.drop 232).all okV = true := all_cut 8 _ tab_V232 (by rw [List.drop_drop]; exact e)
  replace e : (tab.drop 224).all okV = true := all_cut 8 _ tab_V224 (by rw [List.drop_drop]; exact e)
  replace e : (tab.drop 216).all okV = true := all_cut 8 _ tab_V216 (by rw [List.drop_drop]; exact e)
  replace e : (tab.drop 208).all okV = true := all_cut 8 _ tab_V208 (by rw [List.drop_drop]; exact e)
  replace e : (tab.drop 200).all okV = true := all_cut 8 _ tab_V200 (by rw [List.drop_drop]; exact e)
  replace e : (tab.drop 192).all okV = true := all_cut 8 _ tab_V192 (by rw [List.drop_drop]; exact e)
  replace e : (tab.drop 184).all okV = true := all_cut 8 _ tab_V184 (by rw [List.drop_drop]; exact e)
  replace e : (tab.drop 176).all okV = true := all_cut 8 _ tab_V176 (by rw [List.drop_drop]; exact e)
  replace e : (tab.drop 168).all okV = true := all_cut 8 _ tab_V168 (by rw [List.drop_drop]; exact e)
  replace e : (tab.drop 160).all okV = true := all_cut 8 _ tab_V160 (by rw [List.drop_drop]; exact e)
  replace e : (tab.drop 152).all okV = true := all_cut 8 _ tab_V152 (by rw [List.drop_drop]; exact e)
  replace e : (tab.drop 144).all okV = true := all_cut 8 _ tab_V144 (by rw [List.drop_drop]; exact e)
  replace e : (tab.drop 136).all okV = true := all_cut 8 _ tab_V136 (by rw [List.drop_drop]; exact e)
  replace e : (tab.drop 128).all okV = true := all_cut 8 _ tab_V128 (by rw [List.drop_drop]; exact e)
  replace e : (tab.drop 120).all okV = true := all_cut 8 _ tab_V120 (by rw [List.drop_drop]; exact e)
  replace e : (tab.drop 112).all okV = true := all_cut 8 _ tab_V112 (by rw [List.drop_drop]; exact e)
  replace e : (tab.drop 104).all okV = true := all_cut 8 _ tab_V104 (by rw [List.drop_drop]; exact e)
  replace e : (tab.drop 96).all okV = true := all_cut 8 _ tab_V96 (by rw [List.drop_drop]; exact e)
  replace e : (tab.drop 88).all okV = true := all_cut 8 _ tab_V88 (by rw [List.drop_drop]; exact e)
  replace e : (tab.drop 80).all okV = true := all_cut 8 _ tab_V80 (by rw [List.drop_drop]; exact e)
  replace e : (tab.drop 72).all okV = true := all_cut 8 _ tab_V72 (by rw [List.drop_drop]; exact e)
  replace e : (tab.drop 64).all okV = true := all_cut 8 _ tab_V64 (by rw [List.drop_drop]; exact e)
  replace e : (tab.drop 56).all okV = true := all_cut 8 _ tab_V56 (by rw [List.drop_drop]; exact e)
  replace e : (tab.drop 48).all okV = true := all_cut 8 _ tab_V48 (by rw [List.drop_drop]; exact e)
  replace e : (tab.drop 40).all okV = true := all_cut 8 _ tab_V40 (by rw [List.drop_drop]; exact e)
  replace e : (tab.drop 32).all okV = true := all_cut 8 _ tab_V32 (by rw [List.drop_drop]; exact e)
  replace e : (tab.drop 24).all okV = true := all_cut 8 _ tab_V24 (by rw [List.drop_drop]; exact e)
  replace e : (tab.drop 16).all okV = true := all_cut 8 _ tab_V16 (by rw [List.drop_drop]; exact e)
  replace e : (tab.drop 8).all okV = true := all_cut 8 _ tab_V8 (by rw [List.drop_drop]; exact e)
  replace e : (tab.drop 0).all okV = true := all_cut 8 _ tab_V0 (by rw [List.drop_drop]; exact e)
  exact e
end Ft

namespace Ft
theorem tab_J0 : prsN okJ 12 (tab.drop 0) = true := by decide +kernel
theorem tab_J1 : prsN okJ 12 (tab.drop 12) = true := by decide +kernel
theorem tab_J2 : prsN okJ 12 (tab.drop 24) = true := by decide +kernel
theorem tab_J3 : prsN okJ 12 (tab.drop 36) = true := by decide +kernel
theorem tab_J4 : prsN okJ 12 (tab.drop 48) = true := by decide +kernel
theorem tab_J5 : prsN okJ 12 (tab.drop 60) = true := by decide +kernel
theorem tab_J6 : prsN okJ 12 (tab.drop 72) = true := by decide +kernel
theorem tab_J7 : prsN okJ 12 (tab.drop 84) = true := by decide +kernel
theorem tab_J8 : prsN okJ 12 (tab.drop 96) = true := by decide +kernel
theorem tab_J9 : prsN okJ 12 (tab.drop 108) = true := by decide +kernel
theorem tab_J10 : prsN okJ 12 (tab.drop 120) = true := by decide +kernel
theorem tab_J11 : prsN okJ 12 (tab.drop 132) = true := by decide +kernel
theorem tab_J12 : prsN okJ 12 (tab.drop 144) = true := by decide +kernel
theorem tab_J13 : prsN okJ 12 (tab.drop 156) = true := by decide +kernel
theorem tab_J14 : prsN okJ 12 (tab.drop 168) = true := by decide +kernel
theorem tab_J15 : prsN okJ 12 (tab.drop 180) = true := by decide +kernel
theorem tab_J16 : prsN okJ 12 (tab.drop 192) = true := by decide +kernel
theorem tab_J17 : prsN okJ 12 (tab.drop 204) = true := by decide +kernel
theorem tab_J18 : prsN okJ 12 (tab.drop 216) = true := by decide +kernel
theorem tab_J19 : prsN okJ 12 (tab.drop 228) = true := by decide +kernel
theorem tab_J20 : prsN okJ 12 (tab.drop 240) = true := by decide +kernel
theorem tab_len : tab.length = 243 := by decide +kernel
theorem tab_J : prsOf okJ tab = true := by
  have e : prsOf okJ (tab.drop 252) = true := by rw [List.drop_eq_nil_of_le (by rw [tab_len]; decide)]; rfl
  replace e : prsOf okJ (tab.drop 240) = true := prs_cut 12 _ tab_J20 (by rw [List.drop_drop]; exact e)
  replace e : prsOf okJ (tab.drop 228) = true := prs_cut 12 _ tab_J19 (by rw [List.drop_drop]; exact e)
  replace e : prsOf okJ (tab.drop 216) = true := prs_cut 12 _ tab_J18 (by rw [List.drop_drop]; exact e)
  replace e : prsOf okJ (tab.drop 204) = true := prs_cut 12 _ tab_J17 (by rw [List.drop_drop]; exact e)
  replace e : prsOf okJ (tab.drop 192) = true := prs_cut 12 _ tab_J16 (by rw [List.drop_drop]; exact e)
  replace e : prsOf okJ (tab.drop 180) = true := prs_cut 12 _ tab_J15 (by rw [List.drop_drop]; exact e)
  replace e : prsOf okJ (tab.drop 168) = true := prs_cut 12 _ tab_J14 (by rw [List.drop_drop]; exact e)
  replace e : prsOf okJ (tab.drop 156) = true := prs_cut 12 _ tab_J13 (by rw [List.drop_drop]; exact e)
  replace e : prsOf okJ (tab.drop 144) = true := prs_cut 12 _ tab_J12 (by rw [List.drop_drop]; exact e)
  replace e : prsOf okJ (tab.drop 132) = true := prs_cut 12 _ tab_J11 (by rw [List.drop_drop]; exact e)
  replace e : prsOf okJ (tab.drop 120) = true := prs_cut 12 _ tab_J10 (by rw [List.drop_drop]; exact e)
  replace e : prsOf okJ (tab.drop 108) = true := prs_cut 12 _ tab_J9 (by rw [List.drop_drop]; exact e)
  replace e : prsOf okJ (tab.drop 96) = true := prs_cut 12 _ tab_J8 (by rw [List.drop_drop]; exact e)
  replace e : prsOf okJ (tab.drop 84) = true := prs_cut 12 _ tab_J7 (by rw [List.drop_drop]; exact e)
  replace e : prsOf okJ (tab.drop 72) = true := prs_cut 12 _ tab_J6 (by rw [List.drop_drop]; exact e)
  replace e : prsOf okJ (tab.drop 60) = true := prs_cut 12 _ tab_J5 (by rw [List.drop_drop]; exact e)
  replace e : prsOf okJ (tab.drop 48) = true := prs_cut 12 _ tab_J4 (by rw [List.drop_drop]; exact e)
  replace e : prsOf okJ (tab.drop 36) = true := prs_cut 12 _ tab_J3 (by rw [List.drop_drop]; exact e)
  replace e : prsOf okJ (tab.drop 24) = true := prs_cut 12 _ tab_J2 (by rw [List.drop_drop]; exact e)
  replace e : prsOf okJ (tab.drop 12) = true := prs_cut 12 _ tab_J1 (by rw [List.drop_drop]; exact e)
  replace e : prsOf okJ (tab.drop 0) = true := prs_cut 12 _ tab_J0 (by rw [List.drop_drop]; exact e)
  exact e
end Ft

namespace Ft
def okOne : Bool := (List.range 801).all fun i => !isSign ((i : Int) - 400) || decide (valueAt ((i : Int) - 400) ((1 : Nat) : Int) = 1)
theorem one_all : okOne = true := by decide +kernel
theorem chk02 : Chk := ⟨tab_V, tab_J⟩
theorem sm_of {s : Int} (h : isSign s = true) : Sm s := by
  refine ⟨fun a b => ?_, ?_⟩
  · obtain ⟨e, he, rfl⟩ := of_sign h
    rw [Int.natCast_mul, mul_of chk02 he]
  · have l := (isSign_le h).1
    have c := List.all_eq_true.mp one_all (s + 400).toNat (List.mem_range.mpr (by omega))
    rw [show (((s + 400).toNat : Nat) : Int) - 400 = s by omega, h] at c
    exact of_decide_eq_true c
theorem join02 {s t m : Int} (hs : isSign s = true) (ht : isSign t = true) (hj : isSign (anySign (s * t)) = true) (hg : Nat.gcd m.natAbs (s * t).natAbs = 1) : valueAt (anySign (s * t)) m = valueAt s m * valueAt t m := by
  obtain ⟨e, he, rfl⟩ := of_sign hs
  obtain ⟨f, hf, rfl⟩ := of_sign ht
  rcases prs_of chk02.J e he f hf with k | k
  · exact join_of chk02 he hf k m hj hg
  · rw [Int.mul_comm e.s f.s] at hj hg ⊢
    rw [Int.mul_comm (valueAt e.s m)]
    exact join_of chk02 hf he k m hj hg
theorem val_ones (x : Nat) : valueAt 1 (x : Int) = 1 := by
  unfold valueAt valueRest
  rw [show ((x : Int) % (((1 : Int).natAbs : Nat) : Int)).toNat = 0 by rw [show (((1 : Int).natAbs : Nat) : Int) = 1 from rfl]; omega]
  rfl
end Ft

set_option exponentiation.threshold 9000
namespace Ft
open PySem L2
def lawBad (n : Int) : Bool := decide (n = 0) || (decide (400 < n.natAbs) || (!decide (n % 4 = 1) && !(decide (n % 16 = 8) || decide (n % 16 = 12))))
def lawM (n : Int) : Int := if n % 4 = 1 then n else n / 4
def lawHit (m : Int) (i : Nat) : Bool := decide (m % (((2 + i) * (2 + i) : Nat) : Int) = 0)
def lawSign (n : Int) : Bool := if lawBad n = true then false else ((List.range 19).filter (lawHit (lawM n))).isEmpty
def sp_lawSign : Sp := fun vs H Q _ => ∃ n : Int, vs = [.int n] ∧ ∀ H', Same H H' → Q (.bl (lawSign n)) H'
theorem abs_if (z : Int) : (if z < 0 then -z else z) = (z.natAbs : Int) := by split <;> omega
theorem app_some {α : Type} (xs : List α) (x : α) : (xs ++ [x]).isEmpty = false := by cases xs <;> rfl
theorem sign_check : (List.range 805).all (fun i => !(lawSign ((i : Int) - 402)) || isSign ((i : Int) - 402)) = true := by decide +kernel
theorem lawSign_isSign {z : Int} (h : z.natAbs ≤ 402) (hs : lawSign z = true) : isSign z = true := by
  have c := List.all_eq_true.mp sign_check (z + 402).toNat (List.mem_range.mpr (by omega))
  have e : (((z + 402).toNat : Nat) : Int) - 402 = z := by omega
  rw [e, hs] at c
  exact c
section
variable {P : Program} {w : World} {K : PySem.W.Frag} {mg : Str → Option Value} {base : Heap}
theorem ok_lawSign (D : Df K mg "_law_is_sign" s__law_is_sign ["_law_number"]) (B : Bi mg) : Cal P w K mg base 1 "_law_is_sign" sp_lawSign := by
  obtain ⟨f, fd, F, m, b⟩ := D.ex
  have sc := sc__law_is_sign
  refine ⟨f, fd, _, F.ok sc (fun _ _ _ _ ⟨_, e, _⟩ => by rw [e]; rfl) (fun cdv A outer s H vs Q E hr h => ?_), m, F.kp, b⟩
  obtain ⟨n, rfl, q⟩ := h
  have h64 : (A.deeper (PyProof.Rows.envOfC "_law_is_sign" (defScope s__law_is_sign) s.heap.objs.size f cdv)).units + 64 < cLine := by have := hr.un; omega
  refine ⟨_, (pss_cons (ps_if (PW.pt (pw_or (pt_cmpR op_eq (pv 0) pe_int (nomark _)) (pw_or1 (pt_cmpR op_gt (pe_callB call_abs (by rfl) B.abs (by decide +kernel) (pa_cons (pv 0) pa_nil)) pe_int (nomark _)))))
      (pss_one (ps_ret pe_bl))
      pss_nil)
      (pss_cons (ps_set (i := 1) sc.nd rfl (Or.inr rfl) (pe_ifExp (pt_cmpR op_eq (pe_op op_mod (pe_callTy call_int1 (by rfl) B.int_ (by decide +kernel) (pa_cons (pv 0) pa_nil)) pe_int) pe_int (nomark _)) (pv 0) (pe_op op_fdivW (pv 0) pe_int)))
      (pss_cons (ps_if (PW.pt (pw_and (pt_cmpR op_ne (pe_op op_mod (pe_callTy call_int1 (by rfl) B.int_ (by decide +kernel) (pa_cons (pv 0) pa_nil)) pe_int) pe_int (nomark _)) (pw_and1 (pt_cmpR op_notIn_seq (pe_op op_mod (pe_callTy call_int1 (by rfl) B.int_ (by decide +kernel) (pa_cons (pv 0) pa_nil)) pe_int) (pe_tup (pa_cons pe_int (pa_cons pe_int pa_nil))) (by rfl)))))
      (pss_one (ps_ret pe_bl))
      pss_nil)
      (pss_one (ps_ret (pe_cmpR (op_eqD h64) (pe_lc (own := [("_law_k", 2)]) (g := gName 2)  (by rfl) sc.nd (pi_range2 (by rfl) B.range (pa_cons pe_int (pa_cons pe_int pa_nil))) (blkOk_by (own := [("_law_k", 2)]) (N := N__law_is_sign) (sc := defScope s__law_is_sign) (by decide +kernel)) (fun _ _ _ _ _ => (pg_name (i := 2) sc.nd rfl (Or.inl rfl))) (fun _ _ _ _ _ => (pts_one (pt_cmpR op_eq (pe_op op_mod (pe_callTy call_int1 (by rfl) B.int_ (by decide +kernel) (pa_cons (pv 1) pa_nil)) (pe_op op_mulW (pv 2) (pv 2))) pe_int (nomark _)))) (fun _ _ _ _ _ => (pv 2))) (pe_lst pa_nil) (nomark _))))))), ?_⟩
  -- behind the tests
  have rest : ∀ H1 : Hp, Same H H1 → lawBad n = false → (∀ H', Same H1 H' → Q (.bl (((List.range 19).filter (lawHit (lawM n))).isEmpty)) H') := fun H1 s1 hb H' s2 => by
    have e := q H' (s1.trans s2)
    unfold lawSign at e
    rw [if_neg (by rw [hb]; decide)] at e
    exact e
  have bad : ∀ H1 : Hp, Same H H1 → lawBad n = true → Q (.bl false) H1 := fun H1 s1 hb => by
    have e := q H1 s1
    unfold lawSign at e
    rw [if_pos hb] at e
    exact e
  refine ⟨_, rfl, rfl, _, rfl, ifI (fun e => ?_) fun e => ?_⟩
  · refine bad H (Same.refl H) ?_
    unfold lawBad
    rw [decide_eq_true e, Bool.true_or]
  have e1 : decide (n = 0) = false := decide_eq_false e
  refine ⟨_, rfl, n, rfl, _, _, rfl, rfl, _, rfl, ifD (fun e => ?_) fun e => ?_⟩
  · refine bad H (Same.refl H) ?_
    rw [abs_if] at e
    unfold lawBad
    rw [e1, decide_eq_true (show 400 < n.natAbs by omega), Bool.true_or, Bool.or_true]
  rw [abs_if] at e
  have e2 : decide (400 < n.natAbs) = false := decide_eq_false (by omega)
  dsimp only [tNext]
  refine tSeq_join (fun σ H2 => H = H2 ∧ σ = [some (.int n), some (.int (lawM n)), none]) (fun N hN => ?_) ?_
  · unfold lawM at hN
    refine ⟨_, rfl, .inl ⟨n, rfl, _, _, rfl, rfl, (by show (0 : Int) < 4; decide), rfl, _, rfl, ifI (fun e => ?_) fun e => ?_⟩⟩
    · rw [if_pos e] at hN
      exact ⟨_, rfl, hN _ _ ⟨rfl, rfl⟩⟩
    · rw [if_neg e] at hN
      exact ⟨_, rfl, _, _, rfl, rfl, ⟨by decide, by decide⟩, hN _ _ ⟨rfl, rfl⟩⟩
  rintro _ _ ⟨rfl, rfl⟩
  refine tSeq_join (fun σ H1 => σ = [some (.int n), some (.int (lawM n)), none] ∧ Same H H1 ∧ lawBad n = false) (fun N hN => ?_) ?_
  · refine ⟨_, rfl, .inl ⟨n, rfl, _, _, rfl, rfl, (by show (0 : Int) < 4; decide), rfl, _, rfl, ifNI (fun e => ?_) fun e => ?_⟩⟩
    · have e3 : decide (n % 4 = 1) = false := decide_eq_false e
      refine ⟨_, rfl, .inl ⟨n, rfl, _, _, rfl, rfl, (by show (0 : Int) < 16; decide), (by decide), fun p hp => ?_⟩⟩
      refine ⟨p, _, rfl, .inr (SqT.of upd_same), rfl, rfl, _, rfl, ?_⟩
      have ee : inV (V.int (n % 16)) [V.int 8, V.int 12] = (decide (n % 16 = 8) || decide (n % 16 = 12)) := by
        unfold inV
        simp only [List.any_cons, List.any_nil, eqV, Bool.or_false]
        have h : ∀ a b : Int, (a == b) = decide (b = a) := fun a b => by
          by_cases k : b = a
          · subst k; simp
          · rw [decide_eq_false k]; exact beq_eq_false_iff_ne.mpr (Ne.symm k)
        rw [h, h]
      show if (!inV (V.int (n % 16)) [V.int 8, V.int 12]) = true then _ else _
      rw [ee]
      have s1 : Same H (upd H p (.tup [V.int 8, V.int 12])) := Same.upd_new hp
      cases hc : (decide (n % 16 = 8) || decide (n % 16 = 12)) with
      | false =>
        refine iteT ?_
        refine bad _ s1 ?_
        unfold lawBad
        rw [e1, e2, e3, hc]
        rfl
      | true =>
        refine iteF ?_
        refine hN _ _ ⟨rfl, s1, ?_⟩
        unfold lawBad
        rw [e1, e2, e3, hc]
        rfl
    · have e3 : decide (n % 4 = 1) = true := decide_eq_true e
      refine iteF ?_
      refine hN _ _ ⟨rfl, Same.refl H, ?_⟩
      unfold lawBad
      rw [e1, e2, e3]
      rfl
  · rintro _ H1 ⟨rfl, s1, hb⟩
    have rest1 := rest H1 s1 hb
    refine ⟨2, 21, rfl, (by decide), fun D hD => ?_⟩
    refine lc_range (lo := 2) (n := 19) (fun i H' => Same H1 H' ∧ ∃ acc : List Int, H' D = some (.lst (acc.map V.int)) ∧ acc.length ≤ i ∧ acc.isEmpty = ((List.range i).filter (lawHit (lawM n))).isEmpty) ⟨Same.upd_new hD, [], upd_same, Nat.le_refl _, rfl⟩ ?_ ?_
    · rintro i H' hi ⟨s2, acc, hacc, hl, he⟩
      refine ⟨rfl, ?_⟩
      have hrange : (List.range (i + 1)).filter (lawHit (lawM n)) = (List.range i).filter (lawHit (lawM n)) ++ if lawHit (lawM n) i = true then [i] else [] := by
        rw [List.range_succ, List.filter_append]
        congr 1
        cases h : lawHit (lawM n) i <;> simp [h]
      have hk : (2 : Int) + (i : Int) = ((2 + i : Nat) : Int) := by omega
      have hkk : ((2 : Int) + (i : Int)) * ((2 : Int) + (i : Int)) = (((2 + i) * (2 + i) : Nat) : Int) := by rw [hk]; rfl
      have hpos : 0 < (2 + i) * (2 + i) := Nat.mul_pos (by omega) (by omega)
      refine ⟨_, rfl, .inl ⟨_, rfl, _, rfl, _, rfl, _, _, rfl, rfl, mul8 (Nat.lt_of_le_of_lt (by omega : _ ≤ 21) (by decide)) (Nat.lt_of_le_of_lt (by omega : _ ≤ 21) (by decide)), _, _, rfl, rfl, (by show (0 : Int) < ((2 : Int) + (i : Int)) * ((2 : Int) + (i : Int)); rw [hkk]; omega), rfl, _, rfl, ifI (fun e => ?_) fun e => ?_⟩⟩
      · rw [hkk] at e
        have hh : lawHit (lawM n) i = true := decide_eq_true e
        refine ⟨_, rfl, acc.map V.int, hacc, Nat.lt_of_le_of_lt (by rw [List.length_map]; omega : (acc.map V.int).length ≤ 19) (by decide), ?_⟩
        refine ⟨fun b u e2 => ?_, acc ++ [(2 : Int) + (i : Int)], by rw [upd_same, List.map_append]; rfl, by rw [List.length_append]; exact Nat.add_le_add hl (Nat.le_refl 1), ?_⟩
        · rw [upd_ne (ne_of_none e2 hD)]
          exact s2 _ _ e2
        · rw [hrange, hh, if_pos rfl, app_some, app_some]
      · rw [hkk] at e
        have hh : lawHit (lawM n) i = false := decide_eq_false e
        refine ⟨s2, acc, hacc, by omega, ?_⟩
        rw [hrange, hh, if_neg Bool.false_ne_true, List.append_nil]
        exact he
    · rintro H' ⟨s2, acc, hacc, hl, he⟩
      refine ⟨Nat.zero_le _, fun p hp => ?_⟩
      have s3 : Same H' (upd H' p (.lst [])) := Same.upd_new hp
      have hacc2 := s3 _ _ hacc
      refine ⟨_, _, .lst (SqL.of hacc2) (dp_ints acc), .lst (SqL.of upd_same) .nil, shaped_ints acc, by decide, ?_⟩
      rw [eqv_nil, List.isEmpty_map, he]
      exact rest1 _ (s2.trans s3)
def sp_sign : Sp := fun vs H Q _ => ∃ (d l : Addr), vs = [.ref d, .int 400] ∧ DeckAt H d l ∧ ∀ (H' : Hp) (z : Int), DeckAt H' d l → But d l H H' → isSign z = true → Q (.int z) H'
theorem ok_sign (D : Df K mg "_law_sign" s__law_sign ["_law_deck_here", "_law_most"]) (B : Bi mg) (c__law_draw : Cal P w K mg base 1 "_law_draw" sp_draw) (c__law_pick : Cal P w K mg base 2 "_law_pick" (sp_pick K)) (c__law_is_sign : Cal P w K mg base 1 "_law_is_sign" sp_lawSign) : Cal P w K mg base 3 "_law_sign" sp_sign := by
  obtain ⟨f, fd, F, m, b⟩ := D.ex
  have sc := sc__law_sign
  refine ⟨f, fd, _, F.ok sc (fun _ _ _ _ ⟨_, _, e, _⟩ => by rw [e]; rfl) (fun cdv A outer s H vs Q E hr h => ?_), m, F.kp, b⟩
  obtain ⟨d, l, rfl, DK, q⟩ := h
  refine ⟨_, (pss_cons (ps_if (pt_cmpR op_eq (pe_c c__law_draw hr (by decide) (by rfl) (pa_cons (pv 0) (pa_cons pe_int pa_nil))) pe_int (nomark _))
      (pss_one (ps_ret (pe_c c__law_pick hr (by decide) (by rfl) (pa_cons (pv 0) (pa_cons (pe_lst (pa_cons pe_int (pa_cons (pe_un un_neg pe_int) (pa_cons (pe_un un_neg pe_int) (pa_cons pe_int (pa_cons (pe_un un_neg pe_int) (pa_cons pe_int (pa_cons (pe_un un_neg pe_int) (pa_cons pe_int (pa_cons pe_int pa_nil)))))))))) pa_nil)))))
      pss_nil)
      (pss_cons (ps_set (i := 2) sc.nd rfl (Or.inl rfl) (pe_op op_sub (pe_c c__law_draw hr (by decide) (by rfl) (pa_cons (pv 0) (pa_cons (pe_op op_sub (pe_op op_mulW pe_int (pv 1)) pe_int) pa_nil))) (pv 1)))
      (pss_cons (ps_for PassesOwn.never rfl (pi_range1 rfl B.range (pa_cons pe_int pa_nil)) (pg_name (i := 3) sc.nd rfl (Or.inl rfl))
      (pss_one (ps_if (pt_val (pe_c c__law_is_sign hr (by decide) (by rfl) (pa_cons (pe_op op_add (pv 2) (pv 3)) pa_nil)))
        (pss_one (ps_ret (pe_op op_add (pv 2) (pv 3))))
        pss_nil)))
      (pss_one (ps_ret pe_int))))), ?_⟩
  refine ⟨_, rfl, d, l, _, rfl, DK, by decide, by decide, fun H1 r D1 b1 r0 r1 => ?_⟩
  refine ⟨rfl, _, rfl, ifI (fun e => ?_) fun e => ?_⟩
  · refine ⟨_, rfl, ?_⟩
    refine ⟨_, rfl, _, rfl, _, rfl, _, rfl, (by decide), fun p hp => ?_⟩
    have n1 := D1.new hp
    refine ⟨d, l, p, _, rfl, D1.same (Same.upd_new hp), .inl ⟨upd_same, n1.2⟩, (by show 0 < 9; decide), (by show 9 < 2 ^ 64; decide), fun H2 v D2 b2 hv => ?_⟩
    have hz : ∃ z : Int, v = .int z ∧ isSign z = true := by
      simp only [List.mem_cons, List.not_mem_nil, or_false] at hv
      rcases hv with h | h | h | h | h | h | h | h | h <;> exact ⟨_, h, by decide +kernel⟩
    obtain ⟨z, rfl, hz⟩ := hz
    exact q _ z D2 ((b1.trans (But.of (Same.upd_new hp))).trans b2) hz
  · refine ⟨_, rfl, _, rfl, _, _, rfl, rfl, mul8 (by decide) (by decide), _, _, rfl, rfl, ?_⟩
    refine ⟨d, l, 798, rfl, D1, by decide, by decide, fun H2 t D2 b2 t0 t1 => ?_⟩
    refine ⟨_, rfl, _, _, rfl, rfl, ?_⟩
    have b12 := b1.trans b2
    refine ⟨6, rfl, by decide, by decide, for_range (lo := 0) (n := 6) (fun i σ H' => DeckAt H' d l ∧ But d l H H' ∧ ∃ (o : Option V), σ = [some (.ref d), some (.int 400), some (.int (t - 400)), o]) ⟨D2, b12, none, rfl⟩ ?_ ?_⟩
    · rintro i σ H3 hi ⟨D3, b3, o, rfl⟩
      refine ⟨_, rfl, _, rfl, _, _, rfl, rfl, _, rfl, fun H4 s4 => ⟨_, rfl, ?_⟩⟩
      cases hs : lawSign (t - 400 + (0 + (i : Int))) with
      | true =>
        refine iteT ?_
        refine ⟨_, rfl, _, rfl, _, _, rfl, rfl, ?_⟩
        exact q _ _ (D3.same s4) (b3.trans (But.of s4)) (lawSign_isSign (by omega) hs)
      | false =>
        refine iteF ?_
        exact ⟨D3.same s4, b3.trans (But.of s4), _, rfl⟩
    · rintro σ H3 ⟨D3, b3, o, rfl⟩
      exact q _ 1 D3 b3 (by decide +kernel)
def sp_pow : Sp := fun vs H Q _ => ∃ x k : Nat, vs = [.int (x : Int), .int (k : Int)] ∧ 1 ≤ x ∧ x ≤ 100000 ∧ k ≤ 24 ∧ Q (.int ((x ^ k : Nat) : Int)) H
theorem ok_pow (D : Df K mg "_law_power" s__law_power ["_law_x", "_law_k"]) (B : Bi mg) : Cal P w K mg base 1 "_law_power" sp_pow := by
  obtain ⟨f, fd, F, m, b⟩ := D.ex
  have sc := sc__law_power
  refine ⟨f, fd, _, F.ok sc (fun _ _ _ _ ⟨_, _, e, _⟩ => by rw [e]; rfl) (fun cdv A outer s H vs Q E hr h => ?_), m, F.kp, b⟩
  obtain ⟨x, k, rfl, x1, x5, k24, q⟩ := h
  refine ⟨_, (pss_cons (ps_set (i := 2) sc.nd rfl (Or.inl rfl) pe_int)
      (pss_cons (ps_for PassesOwn.never rfl (pi_range1 rfl B.range (pa_cons (pv 1) pa_nil)) (pg_name (i := 3) sc.nd rfl (Or.inl rfl))
      (pss_one (ps_set (i := 2) sc.nd rfl (Or.inl rfl) (pe_op op_mulW (pv 2) (pv 0)))))
      (pss_one (ps_ret (pv 2))))), ?_⟩
  refine ⟨_, rfl, (k : Int), rfl, by omega, by omega, for_range (lo := 0) (n := ((k : Int)).toNat) (fun i σ H' => H = H' ∧ ∃ o : Option V, σ = [some (.int (x : Int)), some (.int (k : Int)), some (.int ((x ^ i : Nat) : Int)), o]) ⟨rfl, none, rfl⟩ ?_ ?_⟩
  · rintro i σ _ hi ⟨rfl, o, rfl⟩
    have hi : i < k := by omega
    have xi := pow_100k x5 (show i ≤ 24 by omega)
    refine ⟨_, rfl, _, rfl, _, _, rfl, rfl, mul8 (by rw [Int.natAbs_natCast]; exact Nat.lt_of_le_of_lt xi (Nat.pow_lt_pow_right (by decide) (by decide))) (by rw [Int.natAbs_natCast]; exact Nat.lt_of_le_of_lt x5 (by decide)), rfl, some (.int (0 + (i : Int))), ?_⟩
    rw [Nat.pow_succ, Int.natCast_mul]
    rfl
  · rintro σ _ ⟨rfl, o, rfl⟩
    rw [Int.toNat_natCast]
    exact ⟨_, rfl, q⟩
def sp_common : Sp := fun vs H Q _ => ∃ a b : Int, vs = [.int a, .int b] ∧ Q (.int ((Nat.gcd a.natAbs b.natAbs : Nat) : Int)) H
theorem gcd_fmod (a b : Int) : Nat.gcd b.natAbs (a.fmod b).natAbs = Nat.gcd a.natAbs b.natAbs := by
  have h : Int.gcd (a.fmod b) b = Int.gcd a b := by rw [Int.fmod_def]; exact Int.gcd_sub_mul_left_left b a (a.fdiv b)
  rw [Nat.gcd_comm]
  exact h
theorem fmod_less {a b : Int} (h : b ≠ 0) : (a.fmod b).natAbs < b.natAbs := by
  rw [Int.fmod_eq_emod]
  have h1 := Int.emod_nonneg a h
  have h2 : a % b < (b.natAbs : Int) := by have := Int.emod_lt a h; omega
  split
  · omega
  · rename_i k
    have : a % b ≠ 0 := fun z => k (.inr (Int.dvd_of_emod_eq_zero z))
    omega
theorem ok_common (D : Df K mg "_law_common" s__law_common ["_law_one", "_law_other"]) (B : Bi mg)  : Cal P w K mg base 1 "_law_common" sp_common := by
  obtain ⟨f, fd, F, m, b⟩ := D.ex
  have sc := sc__law_common
  refine ⟨f, fd, _, F.ok sc (fun _ _ _ _ ⟨_, _, e, _⟩ => by rw [e]; rfl) (fun cdv A outer s H vs Q E hr h => ?_), m, F.kp, b⟩
  obtain ⟨x, y, rfl, q⟩ := h
  refine ⟨_, (pss_cons (ps_while PassesOwn.never (pt_cmpR op_ne (pv 1) pe_int (nomark _))
      (pss_one (ps_par (i := 0) (j := 1) (by rfl) sc.nd rfl rfl (by decide) rfl rfl (pa_cons (pv 1) (pa_cons (pe_op op_modN (pe_callTy call_int1 (by rfl) B.int_ (by decide +kernel) (pa_cons (pv 0) pa_nil)) (pv 1)) pa_nil)) (by rfl))))
      (pss_one (ps_ret (pe_callB call_abs (by rfl) B.abs (by decide +kernel) (pa_cons (pv 0) pa_nil))))), ?_⟩
  refine while_go (fun σ H' => H = H' ∧ ∃ a b : Int, σ = [some (.int a), some (.int b)] ∧ Nat.gcd a.natAbs b.natAbs = Nat.gcd x.natAbs y.natAbs) (fun σ _ => match σ with | [_, some (.int z)] => z.natAbs | _ => 0) ⟨rfl, x, y, rfl, rfl⟩ ?_
  rintro σ _ ⟨rfl, a, b, rfl, hg⟩
  refine ⟨_, rfl, rfl, _, rfl, ifNI (fun hne => ?_) fun he => ?_⟩
  · refine ⟨fun σ' H' => H = H' ∧ ∃ a' b' : Int, σ' = [some (.int a'), some (.int b')] ∧ Nat.gcd a'.natAbs b'.natAbs = Nat.gcd x.natAbs y.natAbs ∧ b'.natAbs < b.natAbs, ?_, ?_⟩
    · rintro σ' _ ⟨rfl, a', b', rfl, h1, h2⟩
      exact ⟨_, h2, rfl, rfl, a', b', rfl, h1⟩
    refine ⟨_, rfl, _, rfl, .inl ⟨_, rfl, _, rfl, _, _, rfl, rfl, hne, _, _, rfl, ?_⟩⟩
    exact ⟨rfl, b, _, rfl, (gcd_fmod a b).trans hg, fmod_less hne⟩
  · subst he
    rw [show (0 : Int).natAbs = 0 from rfl, Nat.gcd_zero_right] at hg
    refine ⟨_, rfl, a, rfl, ?_⟩
    rw [abs_if, hg]
    exact q
end
end Ft

namespace Ft
def prodI (l : List Int) : Int := l.foldr (· * ·) 1
theorem prodI_snoc (l : List Int) (x : Int) : prodI (l ++ [x]) = prodI l * x := by
  induction l with
  | nil => simp [prodI]
  | cons y l ih =>
    show y * prodI (l ++ [x]) = y * prodI l * x
    rw [ih, Int.mul_assoc]
/-- one turn of the division, and so many -/
def dv1 (q : Nat) (s : Nat × Nat) : Nat × Nat := if s.1 % q = 0 then (s.1 / q, s.2 + 1) else s
def dvT (q R : Nat) : Nat → Nat × Nat
  | 0 => (R, 0)
  | t + 1 => dv1 q (dvT q R t)
theorem dvT_inv {q R : Nat} (q2 : 2 ≤ q) (R1 : 1 ≤ R) : ∀ t, R = (dvT q R t).1 * q ^ (dvT q R t).2 ∧ 1 ≤ (dvT q R t).1 ∧ (¬ (dvT q R t).1 % q = 0 ∨ (dvT q R t).2 = t)
  | 0 => ⟨by show R = R * q ^ 0; rw [Nat.pow_zero, Nat.mul_one], R1, .inr rfl⟩
  | t + 1 => by
    obtain ⟨a, b, c⟩ := dvT_inv q2 R1 t
    show R = (dv1 q (dvT q R t)).1 * q ^ (dv1 q (dvT q R t)).2 ∧ 1 ≤ (dv1 q (dvT q R t)).1 ∧ (¬ (dv1 q (dvT q R t)).1 % q = 0 ∨ (dv1 q (dvT q R t)).2 = t + 1)
    unfold dv1
    generalize dvT q R t = s at a b c
    split
    · rename_i h
      obtain ⟨e, p, _⟩ := div_part b h (by omega)
      refine ⟨?_, ?_, .inr ?_⟩
      · show R = s.1 / q * q ^ (s.2 + 1)
        rw [Nat.pow_succ, Nat.mul_comm (q ^ s.2), ← Nat.mul_assoc, Nat.mul_comm (s.1 / q), e]
        exact a
      · obtain ⟨_, p, _⟩ := div_part b h (show 1 ≤ q by omega)
        exact p
      · show s.2 + 1 = t + 1
        rcases c with c | c
        · exact absurd h c
        · rw [c]
    · rename_i h
      exact ⟨a, b, .inl h⟩
theorem dvT_17 {q R : Nat} (q2 : 2 ≤ q) (R1 : 1 ≤ R) (hR : R ≤ 100000) : R = (dvT q R 17).1 * q ^ (dvT q R 17).2 ∧ 1 ≤ (dvT q R 17).1 ∧ ¬ (dvT q R 17).1 % q = 0 := by
  obtain ⟨a, b, c⟩ := dvT_inv q2 R1 17
  refine ⟨a, b, ?_⟩
  rcases c with c | c
  · exact c
  · exfalso
    rw [c] at a
    have h1 : 2 ^ 17 ≤ q ^ 17 := Nat.pow_le_pow_left q2 17
    have h2 := Nat.mul_le_mul b h1
    have : (2 : Nat) ^ 17 = 131072 := by decide
    omega
theorem dvT_le {q R : Nat} (q2 : 2 ≤ q) (R1 : 1 ≤ R) (t : Nat) : (dvT q R t).1 ≤ R ∧ (dvT q R t).2 ≤ t := by
  obtain ⟨a, b, c⟩ := dvT_inv q2 R1 t
  refine ⟨?_, ?_⟩
  · have := Nat.mul_le_mul_left (dvT q R t).1 (Nat.pow_pos (show 0 < q by omega) : 1 ≤ q ^ (dvT q R t).2)
    omega
  · clear a b c
    induction t with
    | zero => exact Nat.le_refl _
    | succ t ih =>
      show (dv1 q (dvT q R t)).2 ≤ t + 1
      unfold dv1
      split
      · show (dvT q R t).2 + 1 ≤ t + 1; omega
      · omega
abbrev Pe := Nat × Nat
def PeOk (N : Nat) (e : Pe) : Prop := Pri e.1 ∧ 1 ≤ e.2 ∧ e.1 ^ e.2 ≤ N
def sPe (k : Nat) (D E : Int) (e : Pe) : Int := dsF k D E (e.1 ^ e.2)
/-- the primes below q are taken out -/
structure Trd (N q : Nat) (L : List Pe) (R : Nat) : Prop where
  pos : 1 ≤ R
  le : R ≤ N
  no : ∀ d, 2 ≤ d → d < q → ¬ R % d = 0
  ok : ∀ e ∈ L, PeOk N e
  sum : ∀ (k : Nat) (D E : Int), Sm D → Sm E → dsF k D E N = prodI (L.map (sPe k D E)) * dsF k D E R
  two : 2 ^ L.length * R ≤ N
theorem tri_0 {N : Nat} (h : 1 ≤ N) : Trd N 2 [] N := ⟨h, Nat.le_refl _, fun d a b => by omega, fun e he => (by cases he), fun k D E _ _ => by show _ = 1 * _; rw [Int.one_mul], by simp⟩
theorem tri_next {N q R : Nat} {L : List Pe} (h : Trd N q L R) (q2 : 2 ≤ q) (hN : N ≤ 100000) : Trd N (q + 1) (if 0 < (dvT q R 17).2 then L ++ [(q, (dvT q R 17).2)] else L) (dvT q R 17).1 := by
  obtain ⟨a, b, c⟩ := dvT_17 q2 h.pos (Nat.le_trans h.le hN)
  have le := (dvT_le q2 h.pos 17).1
  generalize dvT q R 17 = s at a b c le
  obtain ⟨r, m⟩ := s
  dsimp only at a b c le ⊢
  have no : ∀ d, 2 ≤ d → d < q + 1 → ¬ r % d = 0 := fun d d2 dq z => by
    by_cases e : d = q
    · subst e; exact c z
    · refine h.no d d2 (by omega) ?_
      rw [a]
      exact Nat.mod_eq_zero_of_dvd (Nat.dvd_trans (Nat.dvd_of_mod_eq_zero z) (Nat.dvd_mul_right _ _))
  by_cases m0 : 0 < m
  · rw [if_pos m0]
    have pr : Pri q := by
      refine ⟨q2, fun d hd => ?_⟩
      have d0 : 0 < d := Nat.pos_of_dvd_of_pos hd (by omega)
      have dl := Nat.le_of_dvd (by omega) hd
      by_cases d1 : d = 1
      · exact .inl d1
      by_cases dq : d = q
      · exact .inr dq
      exfalso
      refine h.no d (by omega) (by omega) ?_
      rw [a]
      refine Nat.mod_eq_zero_of_dvd (Nat.dvd_trans hd (Nat.dvd_trans ?_ (Nat.dvd_mul_left _ _)))
      obtain ⟨j, rfl⟩ : ∃ j, m = j + 1 := ⟨m - 1, by omega⟩
      exact ⟨q ^ j, by rw [Nat.pow_succ, Nat.mul_comm]⟩
    have co : Nat.gcd (q ^ m) r = 1 := Nat.Coprime.pow_left m (pr.cop c)
    have qm : 1 ≤ q ^ m := Nat.pow_pos (by omega)
    have q1 : q ≤ q ^ m := by
      have := Nat.pow_le_pow_right (show 0 < q by omega) (show 1 ≤ m by omega)
      rw [Nat.pow_one] at this
      exact this
    refine ⟨b, Nat.le_trans le h.le, no, ?_, ?_, ?_⟩
    · intro e he
      rcases List.mem_append.mp he with he | he
      · exact h.ok e he
      · rw [List.mem_singleton] at he
        subst he
        refine ⟨pr, m0, ?_⟩
        have := Nat.mul_le_mul b (Nat.le_refl (q ^ m))
        have := h.le
        dsimp only
        omega
    · intro k D E hD hE
      rw [h.sum k D E hD hE, List.map_append, List.map_cons, List.map_nil, prodI_snoc, a, Nat.mul_comm r, dsF_mul hD hE qm b co]
      rw [Int.mul_assoc]
      rfl
    · rw [List.length_append, List.length_singleton, Nat.pow_succ]
      have h2 := h.two
      rw [a] at h2
      have h3 : 2 ^ L.length * 2 * r ≤ 2 ^ L.length * (r * q ^ m) := by
        rw [Nat.mul_assoc]
        refine Nat.mul_le_mul_left _ ?_
        rw [Nat.mul_comm]
        exact Nat.mul_le_mul_left _ (by omega)
      omega
  · rw [if_neg m0]
    obtain rfl : m = 0 := by omega
    rw [Nat.pow_zero, Nat.mul_one] at a
    subst a
    exact ⟨h.pos, h.le, no, h.ok, h.sum, h.two⟩
/-- an integer as the product of prime powers, as far as its sums go -/
structure Fac (N : Nat) (L : List Pe) : Prop where
  ok : ∀ e ∈ L, PeOk N e
  sum : ∀ (k : Nat) (D E : Int), Sm D → Sm E → dsF k D E N = prodI (L.map (sPe k D E))
  two : 2 ^ L.length ≤ N
theorem fac_of {N R : Nat} {L : List Pe} (h : Trd N 318 L R) (hN : N ≤ 100000) : Fac N (if R = 1 then L else L ++ [(R, 1)]) := by
  by_cases r1 : R = 1
  · subst r1
    rw [if_pos rfl]
    exact ⟨h.ok, fun k D E hD hE => by rw [h.sum k D E hD hE, dsF_one hD hE, Int.mul_one], by have := h.two; omega⟩
  · rw [if_neg r1]
    have p1 := h.pos
    have rl := h.le
    have pr : Pri R := by
      refine ⟨by omega, fun d hd => ?_⟩
      by_cases d1 : d = 1
      · exact .inl d1
      by_cases dq : d = R
      · exact .inr dq
      exfalso
      have dm := Nat.mod_eq_zero_of_dvd hd
      have d0 : 1 ≤ d := Nat.pos_of_dvd_of_pos hd (by omega)
      obtain ⟨e, p, m⟩ := div_part p1 dm d0
      have k1 : ¬ d < 318 := fun z => h.no d (by omega) z dm
      have e1 : R / d ≠ 1 := fun z => by rw [z, Nat.mul_one] at e; exact dq e
      have k2 : ¬ R / d < 318 := fun z => h.no _ (by omega) z m
      have := Nat.mul_le_mul (show 318 ≤ d by omega) (show 318 ≤ R / d by omega)
      omega
    refine ⟨?_, ?_, ?_⟩
    · intro e he
      rcases List.mem_append.mp he with he | he
      · exact h.ok e he
      · rw [List.mem_singleton] at he
        subst he
        exact ⟨pr, Nat.le_refl 1, by show R ^ 1 ≤ N; rw [Nat.pow_one]; exact rl⟩
    · intro k D E hD hE
      rw [h.sum k D E hD hE, List.map_append, List.map_cons, List.map_nil, prodI_snoc]
      show _ = _ * dsF k D E (R ^ 1)
      rw [Nat.pow_one]
    · rw [List.length_append, List.length_singleton, Nat.pow_succ]
      have h2 := h.two
      have := Nat.mul_le_mul_left (2 ^ L.length) pr.1
      omega
theorem PeOk.le {N : Nat} {e : Pe} (h : PeOk N e) (hN : N ≤ 100000) : e.2 ≤ 16 ∧ e.1 ≤ 100000 := by
  obtain ⟨a, b, c⟩ := h
  constructor
  · have h1 := Nat.pow_le_pow_left a.1 e.2
    rcases Nat.lt_or_ge 16 e.2 with z | z
    · have h2 := Nat.pow_le_pow_right (show 0 < 2 by decide) (show 17 ≤ e.2 from z)
      have : (2 : Nat) ^ 17 = 131072 := by decide
      omega
    · exact z
  · have := Nat.pow_le_pow_right (show 0 < e.1 by have := a.1; omega) b
    rw [Nat.pow_one] at this
    omega
theorem Fac.len {N : Nat} {L : List Pe} (h : Fac N L) (hN : N ≤ 100000) : L.length ≤ 16 := by
  have := h.two
  rcases Nat.lt_or_ge 16 L.length with z | z
  · have h2 := Nat.pow_le_pow_right (show 0 < 2 by decide) (show 17 ≤ L.length from z)
    have : (2 : Nat) ^ 17 = 131072 := by decide
    omega
  · exact z
theorem prodI_le {l : List Int} {B : Nat} (h : ∀ x ∈ l, x.natAbs ≤ B) : (prodI l).natAbs ≤ B ^ l.length := by
  induction l with
  | nil => exact Nat.le_refl _
  | cons x l ih =>
    show (x * prodI l).natAbs ≤ B ^ (l.length + 1)
    rw [Int.natAbs_mul, Nat.pow_succ, Nat.mul_comm]
    exact Nat.mul_le_mul (ih fun y hy => h y (List.mem_cons_of_mem _ hy)) (h x List.mem_cons_self)
end Ft

set_option exponentiation.threshold 9000
namespace Ft
open PySem L2
/-! ### lists of pairs of integers -/
def PeAt (H : Hp) (v : V) (e : Pe) : Prop := ∃ t, v = .ref t ∧ H t = some (.tup [.int (e.1 : Int), .int (e.2 : Int)])
theorem PeAt.same {H H' : Hp} {v : V} {e : Pe} (h : PeAt H v e) (s : Same H H') : PeAt H' v e := by
  obtain ⟨t, a, b⟩ := h
  exact ⟨t, a, s _ _ b⟩
theorem PeAt.upd {H : Hp} {p : Addr} {xs : List V} {o : HO} {v : V} {e : Pe} (hp : H p = some (.lst xs)) (h : PeAt H v e) : PeAt (upd H p o) v e := by
  obtain ⟨t, a, b⟩ := h
  exact ⟨t, a, by rw [upd_ne (ne_of b hp (by intro z; cases z))]; exact b⟩
structure PesAt (H : Hp) (us : List V) (l : List Pe) : Prop where
  len : us.length = l.length
  at_ : ∀ (i : Nat) (u : V) (e : Pe), us[i]? = some u → l[i]? = some e → PeAt H u e
theorem PesAt.same {H H' : Hp} {us : List V} {l : List Pe} (h : PesAt H us l) (s : Same H H') : PesAt H' us l := ⟨h.len, fun i u e a b => (h.at_ i u e a b).same s⟩
theorem PesAt.upd {H : Hp} {p : Addr} {xs : List V} {o : HO} {us : List V} {l : List Pe} (hp : H p = some (.lst xs)) (h : PesAt H us l) : PesAt (upd H p o) us l := ⟨h.len, fun i u e a b => (h.at_ i u e a b).upd hp⟩
theorem PesAt.snoc {H : Hp} {us : List V} {l : List Pe} {u : V} {e : Pe} (h : PesAt H us l) (k : PeAt H u e) : PesAt H (us ++ [u]) (l ++ [e]) := by
  refine ⟨by rw [List.length_append, List.length_append, h.len]; rfl, fun i v f a b => ?_⟩
  rcases Nat.lt_or_ge i us.length with hi | hi
  · rw [List.getElem?_append_left hi] at a
    rw [List.getElem?_append_left (by rw [← h.len]; exact hi)] at b
    exact h.at_ i v f a b
  · rw [List.getElem?_append_right hi] at a
    rw [List.getElem?_append_right (by rw [← h.len]; exact hi), ← h.len] at b
    cases hk : i - us.length with
    | zero => rw [hk] at a b; cases a; cases b; exact k
    | succ n => rw [hk] at a; cases a
theorem PesAt.get {H : Hp} {us : List V} {l : List Pe} (h : PesAt H us l) {i : Nat} {u : V} (hu : us[i]? = some u) : ∃ e, l[i]? = some e ∧ PeAt H u e := by
  have hi : i < l.length := by rw [← h.len]; exact (List.getElem?_eq_some_iff.mp hu).1
  exact ⟨l[i], List.getElem?_eq_getElem hi, h.at_ i u _ hu (List.getElem?_eq_getElem hi)⟩
def sp_primes : Sp := fun vs H Q _ => ∃ N : Nat, vs = [.int (N : Int)] ∧ 1 ≤ N ∧ N ≤ 100000 ∧ ∀ H' p us L, Same H H' → H' p = some (.lst us) → PesAt H' us L → Fac N L → Q (.ref p) H'
theorem Trd.len {N q R : Nat} {L : List Pe} (h : Trd N q L R) (hN : N ≤ 100000) : L.length ≤ 16 := by
  have h1 := Nat.mul_le_mul_left (2 ^ L.length) h.pos
  have h2 := h.two
  rcases Nat.lt_or_ge 16 L.length with z | z
  · have h3 := Nat.pow_le_pow_right (show 0 < 2 by decide) (show 17 ≤ L.length from z)
    have : (2 : Nat) ^ 17 = 131072 := by decide
    omega
  · exact z
section
variable {P : Program} {w : World} {K : PySem.W.Frag} {mg : Str → Option Value} {base : Heap}
theorem ok_primes (D : Df K mg "_law_primes" s__law_primes ["_law_n"]) (B : Bi mg) : Cal P w K mg base 1 "_law_primes" sp_primes := by
  obtain ⟨f, fd, F, m, b⟩ := D.ex
  have sc := sc__law_primes
  refine ⟨f, fd, _, F.ok sc (fun _ _ _ _ ⟨_, e, _⟩ => by rw [e]; rfl) (fun cdv A outer s H vs Q E hr h => ?_), m, F.kp, b⟩
  obtain ⟨N, rfl, N1, N5, q⟩ := h
  refine ⟨_, (pss_cons (ps_par (i := 1) (j := 2) (by rfl) sc.nd rfl rfl (by decide) rfl rfl (pa_cons (pe_lst pa_nil) (pa_cons (pv 0) pa_nil)) (by rfl))
      (pss_cons (ps_for PassesOwn.never rfl (pi_range2 (by rfl) B.range (pa_cons pe_int (pa_cons pe_int pa_nil))) (pg_name (i := 3) sc.nd rfl (Or.inl rfl))
      (pss_cons (ps_set (i := 4) sc.nd rfl (Or.inl rfl) pe_int)
        (pss_cons (ps_for PassesOwn.never rfl (pi_range1 rfl B.range (pa_cons pe_int pa_nil)) (pg_name (i := 5) sc.nd rfl (Or.inl rfl))
        (pss_one (ps_if (pt_cmpR op_eq (pe_op op_mod (pe_callTy call_int1 (by rfl) B.int_ (by decide +kernel) (pa_cons (pv 2) pa_nil)) (pv 3)) pe_int (nomark _))
          (pss_one (ps_par (i := 2) (j := 4) (by rfl) sc.nd rfl rfl (by decide) rfl rfl (pa_cons (pe_op op_fdivW (pv 2) (pv 3)) (pa_cons (pe_op op_add (pv 4) pe_int) pa_nil)) (by rfl)))
          pss_nil)))
        (pss_one (ps_if (pt_cmpR op_gt (pv 4) pe_int (nomark _))
        (pss_one (ps_expr (pe_bm PySem.F.plainAttrs_list PySem.F.slot_list_append PySem.F.type_list_append mt_append (pv 1) (pa_cons (pe_tup (pa_cons (pv 3) (pa_cons (pv 4) pa_nil))) pa_nil))))
        pss_nil)))))
      (pss_one (ps_ret (pe_ifExp (pt_cmpR op_eq (pv 2) pe_int (nomark _)) (pv 1) (pe_op op_cat (pv 1) (pe_lst (pa_cons (pe_tup (pa_cons (pv 2) (pa_cons pe_int pa_nil))) pa_nil)))))))), ?_⟩
  refine ⟨by decide, fun p hp => ?_⟩
  refine ⟨_, rfl, _, _, rfl, ?_⟩
  have s1 : Same H (upd H p (.lst [])) := Same.upd_new hp
  have h1 : (upd H p (.lst [])) p = some (.lst []) := upd_same
  generalize upd H p (.lst []) = H1 at s1 h1
  refine ⟨2, 318, rfl, (by decide), for_range (lo := 2) (n := 316) (fun i σ H' => ∃ (us : List V) (L : List Pe) (R : Nat) (o3 o4 o5 : Option V), σ = [some (.int (N : Int)), some (.ref p), some (.int (R : Int)), o3, o4, o5] ∧ Same H H' ∧ H' p = some (.lst us) ∧ PesAt H' us L ∧ Trd N (2 + i) L R) ⟨[], [], N, none, none, none, rfl, s1, h1, ⟨rfl, fun i u e a => by cases a⟩, tri_0 N1⟩ ?_ ?_⟩
  · rintro i σ H2 hi ⟨us, L, R, o3, o4, o5, rfl, s2, h2, pe, T⟩
    have hq : (2 : Int) + (i : Int) = ((2 + i : Nat) : Int) := by omega
    have R5 : R ≤ 100000 := Nat.le_trans T.le N5
    dsimp only [gName]
    rw [hq]
    refine ⟨17, rfl, by decide, by decide, for_range (lo := 0) (n := 17) (fun t σ H' => H2 = H' ∧ ∃ o : Option V, σ = [some (.int (N : Int)), some (.ref p), some (.int ((dvT (2 + i) R t).1 : Int)), some (.int ((2 + i : Nat) : Int)), some (.int ((dvT (2 + i) R t).2 : Int)), o]) ⟨rfl, o5, rfl⟩ ?_ ?_⟩
    · rintro t σ _ ht ⟨rfl, o, rfl⟩
      have le := dvT_le (show 2 ≤ 2 + i by omega) T.pos t
      have e0 : dvT (2 + i) R (t + 1) = dv1 (2 + i) (dvT (2 + i) R t) := rfl
      rw [e0]
      unfold dv1
      generalize dvT (2 + i) R t = z at le
      obtain ⟨r, m⟩ := z
      dsimp only at le ⊢
      dsimp only [gName]
      refine ⟨_, rfl, .inl ⟨_, rfl, _, rfl, _, _, rfl, rfl, (by show (0 : Int) < ((2 + i : Nat) : Int); omega), rfl, _, rfl, ifI (fun e => ?_) fun e => ?_⟩⟩
      · have e' : r % (2 + i) = 0 := Int.ofNat.inj e
        refine ⟨_, rfl, _, rfl, _, _, rfl, rfl, cdivN (by omega) (by omega), _, rfl, _, _, rfl, rfl, _, _, rfl, rfl, some (.int (0 + (t : Int))), ?_⟩
        rw [if_pos e']
        rfl
      · have e' : ¬ r % (2 + i) = 0 := fun z => e (congrArg Int.ofNat z)
        refine ⟨rfl, some (.int (0 + (t : Int))), ?_⟩
        rw [if_neg e']
        rfl
    · rintro σ _ ⟨rfl, o, rfl⟩
      have Tn := tri_next T (by omega) N5
      have le := dvT_le (show 2 ≤ 2 + i by omega) T.pos 17
      generalize dvT (2 + i) R 17 = z at Tn le
      obtain ⟨r, m⟩ := z
      dsimp only at Tn le ⊢
      refine ⟨_, rfl, _, _, rfl, rfl, _, rfl, ifD (fun e => ?_) fun e => ?_⟩
      · have m0 : 0 < m := by omega
        rw [if_pos m0] at Tn
        refine ⟨_, rfl, .inl ⟨rfl, _, SqL.of h2⟩, _, rfl, _, rfl, (by show (2 : Nat) ≤ sizeLine; decide), fun T0 hT0 => ?_⟩
        have s3 : Same H2 (upd H2 T0 (.tup [V.int ((2 + i : Nat) : Int), V.int (m : Int)])) := Same.upd_new hT0
        have t3 : (upd H2 T0 (.tup [V.int ((2 + i : Nat) : Int), V.int (m : Int)])) T0 = some (.tup [V.int ((2 + i : Nat) : Int), V.int (m : Int)]) := upd_same
        generalize upd H2 T0 (.tup [V.int ((2 + i : Nat) : Int), V.int (m : Int)]) = H3 at s3 t3
        have h3 := s3 _ _ h2
        have pl := T.len N5
        refine ⟨p, us, _, rfl, rfl, h3, by rw [pe.len]; exact Nat.lt_of_le_of_lt pl (by decide), ?_⟩
        refine ⟨us ++ [.ref T0], L ++ [(2 + i, m)], r, _, _, _, rfl, fun b o e => ?_, upd_same, ?_, Tn⟩
        · rw [upd_ne (ne_of_none e hp)]
          exact s3 _ _ (s2 _ _ e)
        · exact ((pe.same s3).upd h3).snoc (PeAt.upd h3 ⟨T0, rfl, t3⟩)
      · have m0 : ¬ 0 < m := by omega
        rw [if_neg m0] at Tn
        exact ⟨us, L, r, _, _, _, rfl, s2, h2, pe, Tn⟩
  · rintro σ H2 ⟨us, L, R, o3, o4, o5, rfl, s2, h2, pe, T⟩
    have T : Trd N 318 L R := T
    have Fc := fac_of T N5
    dsimp only
    refine ⟨_, rfl, rfl, _, rfl, ifI (fun e => ?_) fun e => ?_⟩
    · have r1 : R = 1 := Int.ofNat.inj e
      rw [if_pos r1] at Fc
      exact ⟨_, rfl, q _ _ _ _ s2 h2 pe Fc⟩
    · have r1 : R ≠ 1 := fun z => e (congrArg Int.ofNat z)
      rw [if_neg r1] at Fc
      have pl := T.len N5
      refine ⟨_, rfl, _, rfl, (by show (2 : Nat) ≤ sizeLine; decide), fun T0 hT0 => ?_⟩
      have s3 : Same H2 (upd H2 T0 (.tup [V.int (R : Int), V.int 1])) := Same.upd_new hT0
      have t3 : (upd H2 T0 (.tup [V.int (R : Int), V.int 1])) T0 = some (.tup [V.int (R : Int), V.int 1]) := upd_same
      generalize upd H2 T0 (.tup [V.int (R : Int), V.int 1]) = H3 at s3 t3
      refine ⟨(by show (1 : Nat) ≤ sizeLine; decide), fun L1 hL1 => ?_⟩
      have s4 : Same H3 (upd H3 L1 (.lst [V.ref T0])) := Same.upd_new hL1
      have l4 : (upd H3 L1 (.lst [V.ref T0])) L1 = some (.lst [V.ref T0]) := upd_same
      generalize upd H3 L1 (.lst [V.ref T0]) = H4 at s4 l4
      refine ⟨p, L1, us, [V.ref T0], rfl, rfl, s4 _ _ (s3 _ _ h2), l4, ?_, fun p2 hp2 => ?_⟩
      · rw [pe.len]
        exact Nat.le_trans (Nat.add_le_add pl (Nat.le_refl 1)) (by decide)
      have s5 : Same H4 (upd H4 p2 (.lst (us ++ [V.ref T0]))) := Same.upd_new hp2
      exact q _ _ _ _ (s2.trans (s3.trans (s4.trans s5))) upd_same (((pe.same (s3.trans (s4.trans s5))).snoc ⟨T0, rfl, s5 _ _ (s4 _ _ t3)⟩)) Fc
end
end Ft

set_option exponentiation.threshold 9000
namespace Ft
open PySem L2
theorem cut_sub (ns : List Int) (lo hi : Option Int) : ∃ ms : List Int, cutV (ns.map V.int) lo hi = ms.map V.int ∧ ms.length ≤ ns.length ∧ ∀ x ∈ ms, x ∈ ns := by
  have hl := cutV_length (ns.map V.int) lo hi
  rw [List.length_map] at hl
  have h : cutV (ns.map V.int) lo hi = ((ns.drop (HT.sIx (ns.map V.int).length 0 lo)).take (HT.sIx (ns.map V.int).length (ns.map V.int).length hi - HT.sIx (ns.map V.int).length 0 lo)).map V.int := by
    unfold cutV
    rw [List.map_take, List.map_drop]
  refine ⟨_, h, ?_, fun x hx => List.mem_of_mem_drop (List.mem_of_mem_take hx)⟩
  rw [h, List.length_map] at hl
  exact hl
def apartL : List Int := [5, -3, -4, 8, -7, -8, -11, 13, 17, -19, -23]
theorem apart_sign : ∀ x ∈ apartL, isSign x = true := by decide +kernel
def sp_lapart : Sp := fun vs H Q _ => ∃ (d l : Addr) (n : Int), vs = [.ref d, .int n] ∧ DeckAt H d l ∧ ∀ (H' : Hp) (z : Int), DeckAt H' d l → But d l H H' → isSign z = true → Q (.int z) H'
def sp_two : Sp := fun vs H Q _ => ∃ (d l : Addr), vs = [.ref d] ∧ DeckAt H d l ∧ ∀ (H' : Hp) (t : Addr) (m n : Nat), DeckAt H' d l → But d l H H' → H' t = some (.tup [.int (m : Int), .int (n : Int)]) → 1 ≤ m → 1 ≤ n → m * n ≤ 100000 → Nat.gcd m n = 1 → Q (.ref t) H'
def PL : List Nat := [2, 3, 5, 7, 11, 13, 17, 19, 37, 101, 211, 307]
section
variable {P : Program} {w : World} {K : PySem.W.Frag} {mg : Str → Option Value} {base : Heap}
theorem ok_lapart (D : Df K mg "_law_apart" s__law_apart ["_law_deck_here", "_law_n"]) (B : Bi mg) (c__law_draw : Cal P w K mg base 1 "_law_draw" sp_draw) (c__law_common : Cal P w K mg base 1 "_law_common" sp_common) : Cal P w K mg base 2 "_law_apart" sp_lapart := by
  obtain ⟨f, fd, F, m, b⟩ := D.ex
  have sc := sc__law_apart
  refine ⟨f, fd, _, F.ok sc (fun _ _ _ _ ⟨_, _, _, e, _⟩ => by rw [e]; rfl) (fun cdv A outer s H vs Q E hr h => ?_), m, F.kp, b⟩
  obtain ⟨d, l, n, rfl, DK, q⟩ := h
  have h64 : (A.deeper (PyProof.Rows.envOfC "_law_apart" (defScope s__law_apart) s.heap.objs.size f cdv)).units + 64 < cLine := by have := hr.un; omega
  refine ⟨_, (pss_cons (ps_set (i := 2) sc.nd rfl (Or.inl rfl) (pe_lst (pa_cons pe_int (pa_cons (pe_un un_neg pe_int) (pa_cons (pe_un un_neg pe_int) (pa_cons pe_int (pa_cons (pe_un un_neg pe_int) (pa_cons (pe_un un_neg pe_int) (pa_cons (pe_un un_neg pe_int) (pa_cons pe_int (pa_cons pe_int (pa_cons (pe_un un_neg pe_int) (pa_cons (pe_un un_neg pe_int) pa_nil)))))))))))))
      (pss_cons (ps_set (i := 3) sc.nd rfl (Or.inl rfl) (pe_c c__law_draw hr (by decide) (by rfl) (pa_cons (pv 0) (pa_cons (pe_callB call_len_seq (by rfl) B.len_ (by decide +kernel) (pa_cons (pv 2) pa_nil)) pa_nil))))
      (pss_cons (ps_setLc (i := 5) (own := [("_law_sign_here", 4)]) (g := gName 4)  (by rfl) sc.nd rfl rfl (sw_true rfl rfl rfl (by decide +kernel)) (pi_list (pe_op op_cat (pe_slice sl_list (pv 2) (po_some (pv 3)) po_none) (pe_slice sl_list (pv 2) po_none (po_some (pv 3))))) (blkOk_by (own := [("_law_sign_here", 4)]) (N := N__law_apart) (sc := defScope s__law_apart) (by decide +kernel)) (fun _ _ _ _ _ => (pg_name (i := 4) sc.nd rfl (Or.inl rfl))) (fun _ _ _ _ _ => (pts_one (pt_cmpR op_eq (pe_c c__law_common hr (by decide) (by rfl) (pa_cons (pv 1) (pa_cons (pv 4) pa_nil))) pe_int (nomark _)))) (fun _ _ _ _ _ => (pv 4)))
      (pss_one (ps_ret (pe_ifExp (pt_cmpR (op_neD h64) (pv 5) (pe_lst pa_nil) (nomark _)) (pe_ix (show IxR _ (rIx K) from ix_seq) (pv 5) pe_int (fun _ _ => rfl)) pe_int)))))), ?_⟩
  refine ⟨_, rfl, _, rfl, _, rfl, _, rfl, _, rfl, _, rfl, _, rfl, (by show (11 : Nat) ≤ sizeLine; decide), fun p hp => ?_⟩
  have s1 : Same H (upd H p (.lst (apartL.map V.int))) := Same.upd_new hp
  have h1 : (upd H p (.lst (apartL.map V.int))) p = some (.lst (apartL.map V.int)) := upd_same
  have n1 := DK.new hp
  have D1 := DK.same s1
  have b1 : But d l H (upd H p (.lst (apartL.map V.int))) := But.of s1
  show tSeq _ _ _ _ (upd H p (.lst (apartL.map V.int)))
  generalize upd H p (.lst (apartL.map V.int)) = H1 at s1 h1 D1 b1
  refine ⟨_, rfl, _, rfl, p, _, rfl, .inl (SqL.of h1), d, l, _, rfl, D1, (by show (0 : Int) < ((11 : Nat) : Int); decide), (by show ((11 : Nat) : Int) < 2 ^ 64; decide), fun H2 r D2 b2 r0 r1 => ?_⟩
  have h2 := b2 _ _ h1 (ne_of h1 D1.choose_spec.choose_spec.choose_spec.1 (by intro z; cases z)) n1.2
  obtain ⟨m1, c1, l1, k1⟩ := cut_sub apartL (some r) none
  obtain ⟨m2, c2, l2, k2⟩ := cut_sub apartL none (some r)
  dsimp only [gName]
  refine ⟨_, rfl, _, rfl, _, rfl, p, _, rfl, SqL.of h2, fun p3 hp3 => ?_⟩
  rw [c1]
  have s3 : Same H2 (upd H2 p3 (.lst (m1.map V.int))) := Same.upd_new hp3
  have h3 : (upd H2 p3 (.lst (m1.map V.int))) p3 = some (.lst (m1.map V.int)) := upd_same
  generalize upd H2 p3 (.lst (m1.map V.int)) = H3 at s3 h3
  refine ⟨_, rfl, _, rfl, _, rfl, p, _, rfl, SqL.of (s3 _ _ h2), fun p4 hp4 => ?_⟩
  rw [c2]
  have s4 : Same H3 (upd H3 p4 (.lst (m2.map V.int))) := Same.upd_new hp4
  have h4 : (upd H3 p4 (.lst (m2.map V.int))) p4 = some (.lst (m2.map V.int)) := upd_same
  generalize upd H3 p4 (.lst (m2.map V.int)) = H4 at s4 h4
  refine ⟨p3, p4, _, _, rfl, rfl, s4 _ _ h3, h4, ?_, fun p5 hp5 => ?_⟩
  · rw [List.length_map, List.length_map]
    exact Nat.le_trans (Nat.add_le_add l1 l2) (by decide)
  rw [← List.map_append]
  have s5 : Same H4 (upd H4 p5 (.lst ((m1 ++ m2).map V.int))) := Same.upd_new hp5
  have h5 : (upd H4 p5 (.lst ((m1 ++ m2).map V.int))) p5 = some (.lst ((m1 ++ m2).map V.int)) := upd_same
  generalize upd H4 p5 (.lst ((m1 ++ m2).map V.int)) = H5 at s5 h5
  have s25 := s3.trans (s4.trans s5)
  have mem : ∀ x ∈ m1 ++ m2, isSign x = true := fun x hx => apart_sign x (by
    rcases List.mem_append.mp hx with h | h
    · exact k1 x h
    · exact k2 x h)
  have len : (m1 ++ m2).length ≤ 22 := by rw [List.length_append]; exact Nat.add_le_add l1 l2
  generalize m1 ++ m2 = ms at h5 mem len
  refine ⟨p5, rfl, ⟨_, SqL.of h5⟩, fun D0 hD0 => ?_⟩
  refine lc_it (walk_list (xs := ms.map V.int)) (fun i H' => Same H5 H' ∧ H' D0 = some (.lst (((ms.take i).filter fun z => decide (((Nat.gcd n.natAbs z.natAbs : Nat) : Int) = 1)).map V.int))) ⟨Same.upd_new hD0, upd_same⟩ (fun i H' _ ⟨z, _⟩ => SqL.of (z _ _ h5)) ?_ ?_
  · rintro i v H6 _ hi ⟨s6, h6⟩ ⟨rfl, hv⟩
    obtain ⟨z, rfl, hz⟩ := int_at hv
    have htk : ms.take (i + 1) = ms.take i ++ [z] := by rw [List.take_add_one, hz]; rfl
    rw [List.length_map] at hi
    refine ⟨rfl, _, rfl, _, rfl, n, z, rfl, rfl, _, rfl, ifI (fun e => ?_) fun e => ?_⟩
    · refine ⟨_, rfl, _, h6, ?_, fun b o e2 => ?_, ?_⟩
      · rw [List.length_map]
        exact Nat.lt_of_le_of_lt (Nat.le_trans (List.length_filter_le _ _) (by rw [List.length_take]; omega : _ ≤ 22)) (by decide)
      · rw [upd_ne (ne_of_none e2 hD0)]
        exact s6 _ _ e2
      · rw [upd_same, htk, List.filter_append, show [z].filter (fun z : Int => decide (((Nat.gcd n.natAbs z.natAbs : Nat) : Int) = 1)) = [z] by simp [e], List.map_append]
        rfl
    · refine ⟨s6, ?_⟩
      rw [h6, htk, List.filter_append, show [z].filter (fun z : Int => decide (((Nat.gcd n.natAbs z.natAbs : Nat) : Int) = 1)) = [] by simp [e], List.append_nil]
  rintro H6 ⟨s6, h6⟩
  rw [List.length_map, List.take_length] at h6
  have memF : ∀ x ∈ ms.filter (fun z => decide (((Nat.gcd n.natAbs z.natAbs : Nat) : Int) = 1)), isSign x = true := fun x hx => mem x (List.mem_filter.mp hx).1
  generalize ms.filter (fun z => decide (((Nat.gcd n.natAbs z.natAbs : Nat) : Int) = 1)) = fs at h6 memF
  dsimp only [gName]
  have b6 := (b1.trans b2).trans (But.of (s25.trans s6))
  have D6 := D2.same (s25.trans s6)
  refine ⟨_, rfl, (by decide), fun p7 hp7 => ?_⟩
  have s7 : Same H6 (upd H6 p7 (.lst [])) := Same.upd_new hp7
  have h7 : (upd H6 p7 (.lst [])) p7 = some (.lst []) := upd_same
  generalize upd H6 p7 (.lst []) = H7 at s7 h7
  have h6' := s7 _ _ h6
  refine ⟨_, _, .lst (SqL.of h6') (dp_ints fs), .lst (SqL.of h7) .nil, shaped_ints fs, by decide, _, rfl, ?_⟩
  rw [eqv_nil]
  have D7 := D6.same s7
  have b7 := b6.trans (But.of s7)
  cases fs with
  | nil => exact iteF (q _ 1 D7 b7 (by decide +kernel))
  | cons x fs =>
    refine iteT ⟨_, rfl, .inl ⟨D0, _, _, _, rfl, rfl, SqL.of h6', atI_nat (j := 0) rfl, q _ x D7 b7 (memF x List.mem_cons_self)⟩⟩
end
end Ft

set_option exponentiation.threshold 9000
namespace Ft
open PySem L2
def TwoI (most : Nat) (ps : List Nat) (a b : Nat) : Prop := 1 ≤ a ∧ 1 ≤ b ∧ a * b ≤ most ∧ Nat.gcd a b = 1 ∧ (∀ q ∈ ps, Nat.gcd a q = 1) ∧ ∀ q ∈ ps, Nat.gcd b q = 1
theorem TwoI.swap {most a b : Nat} {ps : List Nat} (h : TwoI most ps a b) : TwoI most ps b a := ⟨h.2.1, h.1, by rw [Nat.mul_comm]; exact h.2.2.1, by rw [Nat.gcd_comm]; exact h.2.2.2.1, h.2.2.2.2.2, h.2.2.2.2.1⟩
/-- in the turns with a prime: it may divide the first one -/
theorem TwoI.times {most a b p : Nat} {ps : List Nat} (h : TwoI most ps a b) (hp : 1 ≤ p) (hb : Nat.gcd p b = 1) (hq : ∀ q ∈ ps, Nat.gcd p q = 1) (hm : a * b * p ≤ most) : TwoI most ps (a * p) b :=
  ⟨Nat.mul_pos h.1 hp, h.2.1, by rw [Nat.mul_right_comm]; exact hm, Nat.Coprime.mul_left h.2.2.2.1 hb, fun q k => Nat.Coprime.mul_left (h.2.2.2.2.1 q k) (hq q k), h.2.2.2.2.2⟩
theorem PL_cop : ∀ j : Nat, j < 12 → ∀ q ∈ PL.drop (j + 1), Nat.gcd (PL.getD j 0) q = 1 := by decide
theorem PL_drop : ∀ j : Nat, j < 12 → PL.drop j = PL.getD j 0 :: PL.drop (j + 1) ∧ 1 ≤ PL.getD j 0 ∧ PL.getD j 0 ≤ 307 := by decide
theorem pri_of {p : Nat} (h2 : 2 ≤ p) (h : ((List.range (p + 1)).all fun d => !decide (p % d = 0) || (decide (d = 1) || decide (d = p))) = true) : Pri p := by
  refine ⟨h2, fun d hd => ?_⟩
  have c := List.all_eq_true.mp h d (List.mem_range.mpr (by have := Nat.le_of_dvd (by omega) hd; omega))
  rw [decide_eq_true (Nat.mod_eq_zero_of_dvd hd)] at c
  simpa using c
def QL : List Nat := [2, 3, 5, 7, 11, 13, 17]
theorem QL_pri : ∀ p ∈ QL, Pri p := by
  intro p hp
  simp only [QL, List.mem_cons, List.not_mem_nil, or_false] at hp
  rcases hp with rfl | rfl | rfl | rfl | rfl | rfl | rfl <;> exact pri_of (by decide) (by decide)
theorem mod_mul2 {a m n : Nat} (h1 : a % m = 0) (h2 : a % n = 0) (c : Nat.gcd m n = 1) : a % (m * n) = 0 := Nat.mod_eq_zero_of_dvd (Nat.Coprime.mul_dvd_of_dvd_of_dvd c (Nat.dvd_of_mod_eq_zero h1) (Nat.dvd_of_mod_eq_zero h2))
theorem QL_some {a : Nat} (a1 : 1 ≤ a) (h : a ≤ 100000) : ∃ p ps, QL.filter (fun p => decide (¬ a % p = 0)) = p :: ps ∧ p ∈ QL ∧ ¬ a % p = 0 := by
  cases e : QL.filter (fun p => decide (¬ a % p = 0)) with
  | nil =>
    have k := List.filter_eq_nil_iff.mp e
    have f : ∀ p ∈ QL, a % p = 0 := fun p hp => by simpa using k p hp
    have d6 := mod_mul2 (a := a) (m := 2) (n := 3) (f 2 (by decide)) (f 3 (by decide)) (by decide)
    have d30 := mod_mul2 d6 (f 5 (by decide)) (by decide)
    have d210 := mod_mul2 d30 (f 7 (by decide)) (by decide)
    have d11 := mod_mul2 d210 (f 11 (by decide)) (by decide)
    have d13 := mod_mul2 d11 (f 13 (by decide)) (by decide)
    have d17 := mod_mul2 d13 (f 17 (by decide)) (by decide)
    have := Nat.le_of_dvd (by omega) (Nat.dvd_of_mod_eq_zero d17)
    omega
  | cons p ps =>
    have m : p ∈ QL.filter (fun p => decide (¬ a % p = 0)) := by rw [e]; exact List.mem_cons_self
    exact ⟨p, ps, rfl, (List.mem_filter.mp m).1, of_decide_eq_true (List.mem_filter.mp m).2⟩
section
variable {P : Program} {w : World} {K : PySem.W.Frag} {mg : Str → Option Value} {base : Heap}
theorem ok_two (D : Df K mg "_law_two" s__law_two ["_law_deck_here"]) (B : Bi mg) (c__law_draw : Cal P w K mg base 1 "_law_draw" sp_draw) (c__law_pick : Cal P w K mg base 2 "_law_pick" (sp_pick K)) : Cal P w K mg base 3 "_law_two" sp_two := by
  obtain ⟨f, fd, F, m, b⟩ := D.ex
  have sc := sc__law_two
  refine ⟨f, fd, _, F.ok sc (fun _ _ _ _ ⟨_, _, e, _⟩ => by rw [e]; rfl) (fun cdv A outer s H vs Q E hr h => ?_), m, F.kp, b⟩
  obtain ⟨d, l, rfl, DK, q⟩ := h
  refine ⟨_, (pss_cons (ps_asg (pe_tup (pa_cons pe_int (pa_cons pe_int (pa_cons (pe_c c__law_pick hr (by decide) (by rfl) (pa_cons (pv 0) (pa_cons (pe_lst (pa_cons pe_int (pa_cons pe_int (pa_cons pe_int (pa_cons pe_int (pa_cons pe_int (pa_cons pe_int pa_nil))))))) pa_nil))) pa_nil)))) (pg_tup rfl (pgs_cons (pg_name (i := 1) sc.nd rfl (Or.inr rfl)) (pgs_cons (pg_name (i := 2) sc.nd rfl (Or.inl rfl)) (pgs_cons (pg_name (i := 3) sc.nd rfl (Or.inl rfl)) pgs_nil)))))
      (pss_cons (ps_for PassesOwn.never rfl (pi_list (pe_lst (pa_cons pe_int (pa_cons pe_int (pa_cons pe_int (pa_cons pe_int (pa_cons pe_int (pa_cons pe_int (pa_cons pe_int (pa_cons pe_int (pa_cons pe_int (pa_cons pe_int (pa_cons pe_int (pa_cons pe_int pa_nil)))))))))))))) (pg_name (i := 4) sc.nd rfl (Or.inl rfl))
      (pss_cons (ps_for PassesOwn.never rfl (pi_range1 rfl B.range (pa_cons (pe_c c__law_pick hr (by decide) (by rfl) (pa_cons (pv 0) (pa_cons (pe_lst (pa_cons pe_int (pa_cons pe_int (pa_cons pe_int (pa_cons pe_int (pa_cons pe_int (pa_cons pe_int (pa_cons pe_int (pa_cons pe_int (pa_cons pe_int (pa_cons pe_int pa_nil))))))))))) pa_nil))) pa_nil)) (pg_name (i := 5) sc.nd rfl (Or.inl rfl))
        (pss_one (ps_if (pt_cmpR op_le (pe_op op_mulW (pe_op op_mulW (pv 1) (pv 2)) (pv 4)) (pv 3) (nomark _))
          (pss_one (ps_set (i := 1) sc.nd rfl (Or.inr rfl) (pe_op op_mulW (pv 1) (pv 4))))
          pss_nil)))
        (pss_one (ps_if (pt_cmpR op_eq (pe_c c__law_draw hr (by decide) (by rfl) (pa_cons (pv 0) (pa_cons pe_int pa_nil))) pe_int (nomark _))
        (pss_one (ps_asg (pe_tup (pa_cons (pv 2) (pa_cons (pv 1) pa_nil))) (pg_tup rfl (pgs_cons (pg_name (i := 1) sc.nd rfl (Or.inr rfl)) (pgs_cons (pg_name (i := 2) sc.nd rfl (Or.inl rfl)) pgs_nil)))))
        pss_nil))))
      (pss_cons (ps_if (PW.pt (pw_and (pt_cmpR op_eq (pv 2) pe_int (nomark _)) (pw_and1 (pt_cmpR op_gt (pe_c c__law_draw hr (by decide) (by rfl) (pa_cons (pv 0) (pa_cons pe_int pa_nil))) pe_int (nomark _)))))
      (pss_one (ps_set (i := 2) sc.nd rfl (Or.inl rfl) (pe_ix (show IxR _ (rIx K) from ix_seq) (pe_lc (own := [("_law_p", 4)]) (g := gName 4)  (by rfl) sc.nd (pi_tup (pe_tup (pa_cons pe_int (pa_cons pe_int (pa_cons pe_int (pa_cons pe_int (pa_cons pe_int (pa_cons pe_int (pa_cons pe_int pa_nil))))))))) (blkOk_by (own := [("_law_p", 4)]) (N := N__law_two) (sc := defScope s__law_two) (by decide +kernel)) (fun _ _ _ _ _ => (pg_name (i := 4) sc.nd rfl (Or.inl rfl))) (fun _ _ _ _ _ => (pts_one (pt_cmpR op_ne (pe_op op_mod (pe_callTy call_int1 (by rfl) B.int_ (by decide +kernel) (pa_cons (pv 1) pa_nil)) (pv 4)) pe_int (nomark _)))) (fun _ _ _ _ _ => (pv 4))) pe_int (fun _ _ => rfl))))
      pss_nil)
      (pss_one (ps_ret (pe_ifExp (pt_cmpR op_le (pe_op op_mulW (pv 1) (pv 2)) pe_int (nomark _)) (pe_tup (pa_cons (pv 1) (pa_cons (pv 2) pa_nil))) (pe_tup (pa_cons pe_int (pa_cons (pv 2) pa_nil))))))))), ?_⟩
  refine ⟨_, rfl, (by show (6 : Nat) ≤ sizeLine; decide), fun p hp => ?_⟩
  have n1 := DK.new hp
  refine ⟨d, l, p, _, rfl, DK.same (Same.upd_new hp), .inl ⟨upd_same, n1.2⟩, (by show 0 < 6; decide), (by show 6 < 2 ^ 64; decide), fun H2 v D2 b2 hv => ?_⟩
  obtain ⟨most, rfl, m0, m5⟩ : ∃ z : Nat, v = .int (z : Int) ∧ 1 ≤ z ∧ z ≤ 100000 := by
    simp only [List.mem_cons, List.not_mem_nil, or_false] at hv
    rcases hv with h | h | h | h | h | h
    · exact ⟨6000, h, by decide, by decide⟩
    · exact ⟨6000, h, by decide, by decide⟩
    · exact ⟨600, h, by decide, by decide⟩
    · exact ⟨100000, h, by decide, by decide⟩
    · exact ⟨6000, h, by decide, by decide⟩
    · exact ⟨20000, h, by decide, by decide⟩
  have bb := (But.of (Same.upd_new (o := HO.lst [V.int 6000, V.int 6000, V.int 600, V.int 100000, V.int 6000, V.int 20000]) hp)).trans b2
  clear hv b2
  refine ⟨(by show (3 : Nat) ≤ sizeLine; decide), fun t ht => ?_⟩
  have s3 : Same H2 (upd H2 t (.tup [V.int 1, V.int 1, V.int (most : Int)])) := Same.upd_new ht
  have h3 : (upd H2 t (.tup [V.int 1, V.int 1, V.int (most : Int)])) t = some (.tup [V.int 1, V.int 1, V.int (most : Int)]) := upd_same
  generalize upd H2 t (.tup [V.int 1, V.int 1, V.int (most : Int)]) = H3 at s3 h3
  refine ⟨t, _, rfl, SqT.of h3, rfl, _, _, rfl, _, _, rfl, _, _, rfl, rfl, ?_⟩
  dsimp only [gName]
  have D3 := D2.same s3
  have b3 := bb.trans (But.of s3)
  refine ⟨(by show (12 : Nat) ≤ sizeLine; decide), fun p4 hp4 => ?_⟩
  have s4 : Same H3 (upd H3 p4 (.lst (PL.map fun n : Nat => V.int (n : Int)))) := Same.upd_new hp4
  have h4 : (upd H3 p4 (.lst (PL.map fun n : Nat => V.int (n : Int)))) p4 = some (.lst (PL.map fun n : Nat => V.int (n : Int))) := upd_same
  have n4 := D3.new hp4
  refine ⟨p4, rfl, ⟨_, SqL.of h4⟩, for_list (K := K) (a := p4) (xs := PL.map fun n : Nat => V.int (n : Int)) (fun j σ H' => DeckAt H' d l ∧ But d l H H' ∧ H' p4 = some (.lst (PL.map fun n : Nat => V.int (n : Int))) ∧ ∃ (a b : Nat) (o4 o5 : Option V), σ = [some (.ref d), some (.int (a : Int)), some (.int (b : Int)), some (.int (most : Int)), o4, o5] ∧ TwoI most (PL.drop j) a b) ⟨D3.same s4, b3.trans (But.of s4), h4, 1, 1, none, none, rfl, Nat.le_refl _, Nat.le_refl _, by omega, by decide, by decide, by decide⟩ (fun i σ H' _ ⟨_, _, z, _⟩ => SqL.of z) ?_ ?_⟩
  · rintro j v σ H5 hj ⟨D5, b5, h5, a, b, o4, o5, rfl, I⟩
    obtain ⟨hj12, rfl⟩ : j < 12 ∧ v = .int ((PL.getD j 0 : Nat) : Int) := by
      rw [List.getElem?_map] at hj
      cases e : PL[j]? with
      | none => rw [e] at hj; cases hj
      | some z =>
        rw [e] at hj
        refine ⟨(List.getElem?_eq_some_iff.mp e).1, ?_⟩
        rw [List.getD_eq_getElem?_getD, e]
        exact (Option.some.inj hj).symm
    have cop := PL_cop j hj12
    obtain ⟨dr, p1, p307⟩ := PL_drop j hj12
    have hb0 : Nat.gcd (PL.getD j 0) b = 1 := by
      rw [Nat.gcd_comm]
      exact I.2.2.2.2.2 _ (by rw [dr]; exact List.mem_cons_self)
    have I1 : TwoI most (PL.drop (j + 1)) a b := ⟨I.1, I.2.1, I.2.2.1, I.2.2.2.1, fun q k => I.2.2.2.2.1 q (by rw [dr]; exact List.mem_cons_of_mem _ k), fun q k => I.2.2.2.2.2 q (by rw [dr]; exact List.mem_cons_of_mem _ k)⟩
    generalize PL.getD j 0 = pj at cop p1 p307 hb0
    clear I dr hj
    dsimp only [gName]
    refine ⟨_, rfl, (by show (10 : Nat) ≤ sizeLine; decide), fun p hp => ?_⟩
    have n1 := D5.new hp
    refine ⟨d, l, p, _, rfl, D5.same (Same.upd_new hp), .inl ⟨upd_same, n1.2⟩, (by show 0 < 10; decide), (by show 10 < 2 ^ 64; decide), fun H6 v D6 b6 hv => ?_⟩
    obtain ⟨many, rfl, m6⟩ : ∃ z : Nat, v = .int (z : Int) ∧ z ≤ 6 := by
      simp only [List.mem_cons, List.not_mem_nil, or_false] at hv
      rcases hv with h | h | h | h | h | h | h | h | h | h
      · exact ⟨0, h, by decide⟩
      · exact ⟨1, h, by decide⟩
      · exact ⟨0, h, by decide⟩
      · exact ⟨2, h, by decide⟩
      · exact ⟨0, h, by decide⟩
      · exact ⟨1, h, by decide⟩
      · exact ⟨6, h, by decide⟩
      · exact ⟨0, h, by decide⟩
      · exact ⟨3, h, by decide⟩
      · exact ⟨0, h, by decide⟩
    have b56 := (But.of (d := d) (l := l) (Same.upd_new (o := HO.lst [V.int 0, V.int 1, V.int 0, V.int 2, V.int 0, V.int 1, V.int 6, V.int 0, V.int 3, V.int 0]) hp)).trans b6
    have h6 := b56 _ _ h5 n4.1 n4.2
    have b06 := b5.trans b56
    clear hv b6 b56 h5 D5 b5
    refine ⟨(many : Int), rfl, by omega, by omega, for_range (lo := 0) (n := ((many : Int)).toNat) (fun t σ H' => H6 = H' ∧ ∃ (a : Nat) (o5 : Option V), σ = [some (.ref d), some (.int (a : Int)), some (.int (b : Int)), some (.int (most : Int)), some (.int (pj : Int)), o5] ∧ TwoI most (PL.drop (j + 1)) a b) ⟨rfl, a, o5, rfl, I1⟩ ?_ ?_⟩
    · rintro t σ _ ht ⟨rfl, a, o5, rfl, I⟩
      have ab : a * b ≤ 100000 := Nat.le_trans I.2.2.1 m5
      have al : a ≤ 100000 := by have := Nat.mul_le_mul_left a I.2.1; omega
      have bl : b ≤ 100000 := by have := Nat.mul_le_mul_right b I.1; omega
      have sm : ∀ {x : Nat}, x ≤ 100000 → ((x : Nat) : Int).natAbs < 2 ^ 8000 := fun h => by rw [Int.natAbs_natCast]; exact Nat.lt_of_le_of_lt h (by decide)
      dsimp only [gName]
      refine ⟨_, rfl, _, rfl, _, _, rfl, rfl, mul8 (sm al) (sm bl), _, rfl, _, _, rfl, rfl, mul8 (by rw [← Int.natCast_mul]; exact sm ab) (sm (by omega)), _, rfl, _, _, rfl, rfl, _, rfl, ifD (fun e => ?_) fun e => ?_⟩
      · have e' : a * b * pj ≤ most := by
          have : ((a * b * pj : Nat) : Int) ≤ (most : Int) := by rw [Int.natCast_mul, Int.natCast_mul]; exact e
          omega
        exact ⟨_, rfl, _, rfl, _, _, rfl, rfl, mul8 (sm al) (sm (by omega)), rfl, a * pj, some (.int (0 + (t : Int))), by rw [Int.natCast_mul]; rfl, I.times p1 hb0 cop e'⟩
      · exact ⟨rfl, a, some (.int (0 + (t : Int))), rfl, I⟩
    · rintro σ _ ⟨rfl, a, o5, rfl, I⟩
      dsimp only
      refine ⟨_, rfl, d, l, 2, rfl, D6, by decide, by decide, fun H7 r D7 b7 r0 r1 => ⟨rfl, _, rfl, ifI (fun e => ?_) fun e => ?_⟩⟩
      · refine ⟨_, rfl, _, rfl, (by show (2 : Nat) ≤ sizeLine; decide), fun t ht => ?_⟩
        have s8 : Same H7 (upd H7 t (.tup [V.int (b : Int), V.int (a : Int)])) := Same.upd_new ht
        refine ⟨t, _, rfl, SqT.of upd_same, rfl, _, _, rfl, _, _, rfl, rfl, ?_⟩
        exact ⟨D7.same s8, (b06.trans b7).trans (But.of s8), s8 _ _ (b7 _ _ h6 n4.1 n4.2), b, a, _, _, rfl, I.swap⟩
      · exact ⟨D7, b06.trans b7, b7 _ _ h6 n4.1 n4.2, a, b, _, _, rfl, I⟩
  · rintro σ H5 ⟨D5, b5, h5, a, b, o4, o5, rfl, I⟩
    dsimp only
    obtain ⟨a1, b1, ab, g, -, -⟩ := I
    have al : a ≤ 100000 := by have := Nat.mul_le_mul_left a b1; omega
    have bl : b ≤ 100000 := by have := Nat.mul_le_mul_right b a1; omega
    refine tSeq_join (fun σ H' => DeckAt H' d l ∧ But d l H H' ∧ ∃ (b : Nat) (o4 o5 : Option V), σ = [some (.ref d), some (.int (a : Int)), some (.int (b : Int)), some (.int (most : Int)), o4, o5] ∧ 1 ≤ b ∧ b ≤ 100000 ∧ Nat.gcd a b = 1) (fun N hN => ?_) ?_
    · refine ⟨_, rfl, rfl, _, rfl, ifI (fun e => ?_) fun e => hN _ _ ⟨D5, b5, b, o4, o5, rfl, b1, bl, g⟩⟩
      refine ⟨_, rfl, d, l, 8, rfl, D5, by decide, by decide, fun H6 r D6 b6 r0 r1 => ?_⟩
      refine ⟨_, _, rfl, rfl, _, rfl, ifD (fun e2 => ?_) fun e2 => hN _ _ ⟨D6, b5.trans b6, b, o4, o5, rfl, b1, bl, g⟩⟩
      refine ⟨(by show (7 : Nat) ≤ sizeLine; decide), fun p7 hp7 => ?_⟩
      have s7 : Same H6 (upd H6 p7 (.tup [V.int 2, V.int 3, V.int 5, V.int 7, V.int 11, V.int 13, V.int 17])) := Same.upd_new hp7
      have h7 : (upd H6 p7 (.tup [V.int 2, V.int 3, V.int 5, V.int 7, V.int 11, V.int 13, V.int 17])) p7 = some (.tup (QL.map fun n : Nat => V.int (n : Int))) := upd_same
      generalize upd H6 p7 (.tup [V.int 2, V.int 3, V.int 5, V.int 7, V.int 11, V.int 13, V.int 17]) = H7 at s7 h7
      refine ⟨p7, rfl, ⟨_, SqT.of h7⟩, fun D0 hD0' => ?_⟩
      refine lc_it (walk_tup (xs := QL.map fun n : Nat => V.int (n : Int))) (fun i H' => Same H7 H' ∧ H' D0 = some (.lst (((QL.take i).filter fun p => decide (¬ a % p = 0)).map fun n : Nat => V.int (n : Int)))) ⟨Same.upd_new hD0', upd_same⟩ (fun i H' _ ⟨z, _⟩ => SqT.of (z _ _ h7)) ?_ ?_
      · rintro i v H8 _ hi ⟨s8, h8⟩ ⟨rfl, hv⟩
        obtain ⟨z, hz, rfl⟩ : ∃ z, QL[i]? = some z ∧ v = V.int (z : Int) := by
          rw [List.getElem?_map] at hv
          cases e : QL[i]? with
          | none => rw [e] at hv; cases hv
          | some z => rw [e] at hv; exact ⟨z, rfl, (Option.some.inj hv).symm⟩
        have z2 := (QL_pri z (List.mem_of_getElem? hz)).1
        have htk : QL.take (i + 1) = QL.take i ++ [z] := by rw [List.take_add_one, hz]; rfl
        refine ⟨rfl, _, rfl, .inl ⟨_, rfl, _, rfl, _, _, rfl, rfl, (by omega : (0 : Int) < (z : Int)), rfl, _, rfl, ifNI (fun e => ?_) fun e => ?_⟩⟩
        · have e' : ¬ a % z = 0 := fun k => e (congrArg Int.ofNat k)
          refine ⟨_, rfl, _, h8, ?_, fun b o e2 => ?_, ?_⟩
          · rw [List.length_map]
            exact Nat.lt_of_le_of_lt (Nat.le_trans (List.length_filter_le _ _) (by rw [List.length_take]; exact Nat.min_le_right _ _ : _ ≤ 7)) (by decide)
          · rw [upd_ne (ne_of_none e2 hD0')]
            exact s8 _ _ e2
          · rw [upd_same, htk, List.filter_append, show [z].filter (fun p => decide (¬ a % p = 0)) = [z] by simp [e'], List.map_append]
            rfl
        · have e' : a % z = 0 := Int.ofNat.inj e
          refine ⟨s8, ?_⟩
          rw [h8, htk, List.filter_append, show [z].filter (fun p => decide (¬ a % p = 0)) = [] by simp [e'], List.append_nil]
      rintro H8 ⟨s8, h8⟩
      rw [List.length_map, List.take_length] at h8
      obtain ⟨x, xs, hx, mx, nx⟩ := QL_some a1 al
      rw [hx] at h8
      have px := QL_pri x mx
      have x17 : ∀ p ∈ QL, p ≤ 100000 := by decide
      refine .inl ⟨D0, _, _, _, rfl, rfl, SqL.of h8, atI_nat (j := 0) rfl, ?_⟩
      have s68 := s7.trans s8
      refine hN _ _ ⟨D6.same s68, (b5.trans b6).trans (But.of s68), x, o4, o5, rfl, by have := px.1; omega, x17 x mx, ?_⟩
      rw [Nat.gcd_comm]
      exact px.cop nx
    · rintro _ H6 ⟨D6, b6, b, o4, o5, rfl, b1, bl, g⟩
      have sm : ∀ {x : Nat}, x ≤ 100000 → ((x : Nat) : Int).natAbs < 2 ^ 8000 := fun h => by rw [Int.natAbs_natCast]; exact Nat.lt_of_le_of_lt h (by decide)
      refine ⟨_, rfl, _, rfl, _, _, rfl, rfl, mul8 (sm al) (sm bl), _, _, rfl, rfl, _, rfl, ifD (fun e => ?_) fun e => ?_⟩
      · have e' : a * b ≤ 100000 := by
          have : ((a * b : Nat) : Int) ≤ 100000 := by rw [Int.natCast_mul]; exact e
          omega
        refine ⟨_, rfl, _, rfl, (by show (2 : Nat) ≤ sizeLine; decide), fun t ht => ?_⟩
        have s8 : Same H6 (upd H6 t (.tup [V.int (a : Int), V.int (b : Int)])) := Same.upd_new ht
        exact q _ t a b (D6.same s8) (b6.trans (But.of s8)) upd_same a1 b1 e' g
      · refine ⟨_, rfl, (by show (2 : Nat) ≤ sizeLine; decide), fun t ht => ?_⟩
        have s8 : Same H6 (upd H6 t (.tup [V.int 1, V.int (b : Int)])) := Same.upd_new ht
        exact q _ t 1 b (D6.same s8) (b6.trans (But.of s8)) upd_same (Nat.le_refl 1) b1 (by omega) (Nat.gcd_one_left b)
end
end Ft

set_option exponentiation.threshold 9000
namespace Ft
open PySem L2
/-! ### texts of lists and tuples of integers below 2 ^ 500 -/
theorem p500 : (2 : Int) ^ 500 < 10 ^ 160 := by decide +kernel
theorem int_short {v : Int} (h : v.natAbs < 2 ^ 500) : (PyData.int v).leavesShort 170 = true := by
  have key : (PyData.shown (.int v)).length ≤ 170 := by
    have p := p500
    have h' : (v.natAbs : Int) < 2 ^ 500 := by
      have : ((2 ^ 500 : Nat) : Int) = (2 : Int) ^ 500 := by rw [Int.natCast_pow]; rfl
      rw [← this]
      exact Int.ofNat_lt.mpr h
    rcases Int.lt_or_le v 0 with h0 | h0
    · obtain ⟨m, rfl⟩ : ∃ m : Nat, v = Int.negSucc m := ⟨v.natAbs - 1, by omega⟩
      have l := PyProof.Rows.toString_length_le (v := ((m + 1 : Nat) : Int)) (by omega) (k := 160) (by decide) (Int.lt_trans (by simpa using h') p)
      have e : toString (Int.negSucc m) = "-" ++ toString (m + 1) := rfl
      show (Str.ofString (toString (Int.negSucc m))).length ≤ 170
      rw [e, PyProof.Rows.ofString_length, String.toList_append, List.length_append]
      rw [PyProof.Rows.ofString_length] at l
      have l' : (toString (m + 1)).toList.length ≤ 160 := l
      have : "-".toList.length = 1 := by decide
      omega
    · have l := PyProof.Rows.toString_length_le h0 (k := 160) (by decide) (Int.lt_trans (by rw [← Int.natAbs_of_nonneg h0]; exact h') p)
      exact Nat.le_trans l (by decide)
  simpa only [PyData.leavesShort, decide_eq_true_eq] using key
theorem ints_short : ∀ {ts : List Int}, (∀ x ∈ ts, x.natAbs < 2 ^ 500) → PyData.leavesShortAll 170 (ts.map PyData.int) = true
  | [], _ => by simp only [List.map_nil, PyData.leavesShortAll]
  | t :: ts, h => by
    simp only [List.map_cons, PyData.leavesShortAll, Bool.and_eq_true]
    exact ⟨int_short (h t List.mem_cons_self), ints_short fun x hx => h x (List.mem_cons_of_mem _ hx)⟩
theorem ints_bulk : ∀ ts : List Int, PyData.bulkAll (ts.map PyData.int) = ts.length
  | [] => by simp only [List.map_nil, PyData.bulkAll, List.length_nil]
  | t :: ts => by
    simp only [List.map_cons, PyData.bulkAll, PyData.bulk, List.length_cons, ints_bulk ts]
    omega
theorem int_showable {v : Int} (h : v.natAbs < 2 ^ 500) : (PyData.int v).showable = true := by
  have := PySem.Flt.log2_lt_of (by decide) h
  simp only [PyData.showable, decide_eq_true_eq]
  omega
theorem ints_showable : ∀ {ts : List Int}, (∀ x ∈ ts, x.natAbs < 2 ^ 500) → PyData.showableAll (ts.map PyData.int) = true
  | [], _ => by simp only [List.map_nil, PyData.showableAll]
  | t :: ts, h => by
    simp only [List.map_cons, PyData.showableAll, Bool.and_eq_true]
    exact ⟨int_showable (h t List.mem_cons_self), ints_showable fun x hx => h x (List.mem_cons_of_mem _ hx)⟩
theorem ints_dict (ts : List Int) : PyData.hasDictAll (ts.map PyData.int) = false := by
  induction ts with
  | nil => simp only [List.map_nil, PyData.hasDictAll]
  | cons t ts ih => simp only [List.map_cons, PyData.hasDictAll, PyData.hasDict, ih, Bool.or_self]
theorem rep_list {K : PySem.W.Frag} {H : Hp} {a : Addr} {ts : List Int} {Q : VK} (h : SqL K H a (ts.map V.int)) (hs : ∀ x ∈ ts, x.natAbs < 2 ^ 500) (hl : ts.length ≤ 2000) (q : Q (.str (PyData.list (ts.map PyData.int)).shown) H) : rRepr K [.ref a] H Q := by
  refine ⟨a, .list (ts.map PyData.int), rfl, .lst h (dp_ints ts), ?_, ?_, ?_, ?_, q⟩
  · simp only [PyData.showable]; exact ints_showable hs
  · simp only [PyData.hasDict]; exact ints_dict ts
  · show PyData.depthAll (ts.map PyData.int) + 1 ≤ 64
    rw [depth_ints]
    decide
  · have l := PyData.shown_le_bulk 170 (by decide) (.list (ts.map PyData.int)) (by simp only [PyData.leavesShort]; exact ints_short hs)
    simp only [PyData.bulk, ints_bulk] at l
    have e : sizeLine = 16777216 := by decide
    omega
theorem rep_tup {K : PySem.W.Frag} {H : Hp} {a : Addr} {ts : List Int} {Q : VK} (h : SqT K H a (ts.map V.int)) (hs : ∀ x ∈ ts, x.natAbs < 2 ^ 500) (hl : ts.length ≤ 2000) (q : Q (.str (PyData.tuple (ts.map PyData.int)).shown) H) : rRepr K [.ref a] H Q := by
  refine ⟨a, .tuple (ts.map PyData.int), rfl, .tup h (dp_ints ts), ?_, ?_, ?_, ?_, q⟩
  · simp only [PyData.showable]; exact ints_showable hs
  · simp only [PyData.hasDict]; exact ints_dict ts
  · show PyData.depthAll (ts.map PyData.int) + 1 ≤ 64
    rw [depth_ints]
    decide
  · have l := PyData.shown_le_bulk 170 (by decide) (.tuple (ts.map PyData.int)) (by simp only [PyData.leavesShort]; exact ints_short hs)
    simp only [PyData.bulk, ints_bulk] at l
    have e : sizeLine = 16777216 := by decide
    omega
/-- a whole slice -/
theorem cut_all {ns : List Int} {n : Nat} (h : ns.length = n) : cutV (ns.map V.int) none (some (n : Int)) = ns.map V.int := by
  unfold cutV
  rw [HT.sIx_none, HT.sIx_nat, List.length_map, h, Nat.min_self, List.drop_zero, Nat.sub_zero, List.take_of_length_le (by rw [List.length_map]; omega)]
end Ft

set_option exponentiation.threshold 9000
namespace Ft
open PySem L2
def sp_powR : Sp := fun vs H Q _ => ∃ (p e k : Nat) (a b : Int), vs = [.int (p : Int), .int (e : Int), .int (k : Int), .int a, .int b] ∧ PeOk 100000 (p, e) ∧ k ≤ 24 ∧ isSign a = true ∧ isSign b = true ∧ ∀ H', Same H H' → Q (.bl true) H'
section
variable {P : Program} {w : World} {K : PySem.W.Frag} {mg : Str → Option Value} {base : Heap}
theorem fn_powR {f : Addr} {fd : FuncData} (F : Fun K "_law_is_power_right" "_law_is_power_right" s__law_is_power_right f fd) (B : Bi mg) (c_divisor_sum : Cal P w K mg base 5 "divisor_sum" sp_dsum) (c__law_power : Cal P w K mg base 1 "_law_power" sp_pow) (c_sign_at : Cal P w K mg base 5 "sign_at" sp_sign_at) : FnG P w K mg base 6 f fd ["_law_p", "_law_many", "_law_k", "_law_one", "_law_other"] sp_powR := by
  have sc := sc__law_is_power_right
  refine fun_g F sc (fun _ _ _ _ ⟨_, _, _, _, _, e, _⟩ => by rw [e]; rfl) (fun cdv A outer s H vs Q E hgd hr h => ?_)
  obtain ⟨p, e, k, x, y, rfl, ok, k24, hx, hy, q⟩ := h
  refine ⟨_, (pss_cons (ps_setLc (i := 6) (own := [("_law_e", 5)]) (g := gName 5) (tt := tYes) (by rfl) sc.nd rfl rfl (sw_true rfl rfl rfl (by decide +kernel)) (pi_range1 rfl B.range (pa_cons (pe_op op_add (pv 1) pe_int) pa_nil)) (blkOk_by (own := [("_law_e", 5)]) (N := N__law_is_power_right) (sc := defScope s__law_is_power_right) (by decide +kernel)) (fun _ _ _ _ _ => (pg_name (i := 5) sc.nd rfl (Or.inl rfl))) (fun _ _ _ _ _ => pts_nil) (fun _ _ _ _ _ => (pe_c c_divisor_sum hr (by decide) (by rfl) (pa_cons (pe_c c__law_power hr (by decide) (by rfl) (pa_cons (pv 0) (pa_cons (pv 5) pa_nil))) (pa_cons (pv 2) (pa_cons (pv 3) (pa_cons (pv 4) pa_nil)))))))
      (pss_cons (ps_par (i := 7) (j := 8) (by rfl) sc.nd rfl rfl (by decide) rfl rfl (pa_cons (pe_c c_sign_at hr (by decide) (by rfl) (pa_cons (pv 3) (pa_cons (pv 0) pa_nil))) (pa_cons (pe_op op_mulW (pe_c c_sign_at hr (by decide) (by rfl) (pa_cons (pv 4) (pa_cons (pv 0) pa_nil))) (pe_c c__law_power hr (by decide) (by rfl) (pa_cons (pv 0) (pa_cons (pv 2) pa_nil)))) pa_nil)) (by rfl))
      (pss_cons (ps_set (i := 9) sc.nd rfl (Or.inl rfl) (pe_lst (pa_cons pe_int (pa_cons (pe_op op_add (pv 7) (pv 8)) pa_nil))))
      (pss_cons (ps_for PassesOwn.never rfl (pi_range2 (by rfl) B.range (pa_cons pe_int (pa_cons (pe_op op_add (pv 1) pe_int) pa_nil))) (pg_name (i := 5) sc.nd rfl (Or.inl rfl))
      (pss_one (ps_expr (pe_bm PySem.F.plainAttrs_list PySem.F.slot_list_append PySem.F.type_list_append mt_append (pv 9) (pa_cons (pe_op op_sub (pe_op op_mulW (pe_op op_add (pv 7) (pv 8)) (pe_ix (show IxR _ (rIx K) from ix_seq) (pv 9) (pe_op op_sub (pv 5) pe_int) (fun _ _ => rfl))) (pe_op op_mulW (pe_op op_mulW (pv 7) (pv 8)) (pe_ix (show IxR _ (rIx K) from ix_seq) (pv 9) (pe_op op_sub (pv 5) pe_int) (fun _ _ => rfl)))) pa_nil)))))
      (pss_one (ps_ret (pe_cmpR op_eq (pe_callB (call_repr hgd hr) (by rfl) B.repr (by decide +kernel) (pa_cons (pv 6) pa_nil)) (pe_callB (call_repr hgd hr) (by rfl) B.repr (by decide +kernel) (pa_cons (pe_slice sl_list (pv 9) po_none (po_some (pe_op op_add (pv 1) pe_int))) pa_nil)) (nomark _)))))))), ?_⟩
  have pp := ok.1
  have p0 : 1 ≤ p := by have := pp.1; omega
  obtain ⟨e16, p5⟩ := ok.le (Nat.le_refl _)
  have pe5 : ∀ i, i ≤ e → p ^ i ≤ 100000 := fun i hi => Nat.le_trans (Nat.pow_le_pow_right p0 hi) ok.2.2
  have sx := sm_of hx
  have sy := sm_of hy
  have gs : ∀ i, i ≤ e → dsF k x y (p ^ i) = geo (valueAt x (p : Int)) (valueAt y (p : Int) * ((p ^ k : Nat) : Int)) i := fun i _ => dsF_pow sx sy pp i
  have gb : ∀ i, i ≤ e → (geo (valueAt x (p : Int)) (valueAt y (p : Int) * ((p ^ k : Nat) : Int)) i).natAbs < 2 ^ 500 := fun i hi => by
    rw [← gs i hi]
    exact dsF_le (Nat.pow_pos p0) (pe5 i hi) k24
  have vx := val_le x (p : Int)
  have vy := val_le y (p : Int)
  have pk := pow_100k p5 k24
  have e2 : ((2 : Int) + (e : Int) - 1).toNat = e + 1 := by omega
  refine ⟨_, rfl, _, _, rfl, rfl, _, rfl, by omega, by omega, fun D1 hD1 => ?_⟩
  refine lc_range (lo := 0) (n := ((e : Int) + 1).toNat) (fun i H' => Same H H' ∧ H' D1 = some (.lst (((List.range i).map fun j => dsF k x y (p ^ j)).map V.int))) ⟨Same.upd_new hD1, upd_same⟩ ?_ ?_
  · rintro i H1 hi ⟨s1, h1⟩
    have hi : i ≤ e := by omega
    have ei : (0 : Int) + (i : Int) = ((i : Nat) : Int) := by omega
    dsimp only [gName]
    rw [ei]
    refine ⟨rfl, ?_⟩
    refine ⟨_, rfl, _, rfl, p, i, rfl, p0, p5, by omega, _, rfl, _, rfl, _, rfl, ?_⟩
    refine ⟨p ^ i, k, x, y, rfl, Nat.pow_pos p0, pe5 i hi, k24, hx, hy, fun H2 s2 => ?_⟩
    refine ⟨_, s2 _ _ h1, ?_, fun b o e2 => ?_, ?_⟩
    · rw [List.length_map, List.length_map, List.length_range]
      exact Nat.lt_of_le_of_lt (by omega : i ≤ 16) (by decide)
    · rw [upd_ne (ne_of_none e2 hD1)]
      exact s2 _ _ (s1 _ _ e2)
    · rw [upd_same, List.range_succ, List.map_append, List.map_append]
      rfl
  rintro H1 ⟨s1, h1⟩
  rw [show ((e : Int) + 1).toNat = e + 1 by omega, List.map_congr_left (fun i hi => gs i (by have := List.mem_range.mp hi; omega))] at h1
  dsimp only [gName]
  have hB : (valueAt y (p : Int) * ((p ^ k : Nat) : Int)).natAbs ≤ 2 ^ 408 := one_mul_le vy (by rw [Int.natAbs_natCast]; exact pk)
  have mB : CMulW (valueAt y (p : Int)) ((p ^ k : Nat) : Int) := mul8 (Nat.lt_of_le_of_lt vy (by decide)) (by rw [Int.natAbs_natCast]; exact Nat.lt_of_le_of_lt pk (by decide))
  refine ⟨_, rfl, _, rfl, x, p, rfl, hx, _, rfl, _, rfl, y, p, rfl, hy, _, rfl, _, rfl, p, k, rfl, p0, p5, k24, _, _, rfl, rfl, mB, _, _, rfl, ?_⟩
  obtain ⟨Bv, eB⟩ : ∃ z, z = valueAt y (p : Int) * ((p ^ k : Nat) : Int) := ⟨_, rfl⟩
  obtain ⟨Av, eA⟩ : ∃ z, z = valueAt x (p : Int) := ⟨_, rfl⟩
  rw [← eB] at hB h1
  rw [← eA] at vx h1
  simp only [← eB, ← eA] at gs gb
  have hAB : (Av + Bv).natAbs < 2 ^ 8000 := Nat.lt_of_le_of_lt (Nat.le_trans (Int.natAbs_add_le Av Bv) (Nat.add_le_add vx hB)) (by decide)
  have hAm : (Av * Bv).natAbs < 2 ^ 8000 := Nat.lt_of_le_of_lt (one_mul_le vx hB) (by decide)
  refine ⟨_, rfl, _, rfl, _, _, rfl, rfl, (by show (2 : Nat) ≤ sizeLine; decide), fun D2 hD2 => ?_⟩
  have g01 : [V.int 1, V.int (Av + Bv)] = ((List.range 2).map (geo Av Bv)).map V.int := by
    show _ = [V.int (geo Av Bv 0), V.int (geo Av Bv 1)]
    rw [geo_0, geo_1]
  dsimp only [gName]
  refine ⟨_, rfl, _, _, rfl, rfl, 2, (e : Int) + 1, rfl, by omega, for_range (lo := 2) (n := ((e : Int) + 1 - 2).toNat) (fun i σ H' => Same H1 H' ∧ H' D2 = some (.lst (((List.range (i + 2)).map (geo Av Bv)).map V.int)) ∧ ∃ o5 : Option V, σ = [some (.int (p : Int)), some (.int (e : Int)), some (.int (k : Int)), some (.int x), some (.int y), o5, some (.ref D1), some (.int Av), some (.int Bv), some (.ref D2)]) ⟨Same.upd_new hD2, by rw [upd_same, ← g01, eA, eB], _, by rw [eA, eB]; rfl⟩ ?_ ?_⟩
  · rintro i σ H2 hi ⟨s2, h2, o5, rfl⟩
    have hi : i + 2 ≤ e := by omega
    have at_ : ∀ j, j < i + 2 → (((List.range (i + 2)).map (geo Av Bv)).map V.int)[j]? = some (V.int (geo Av Bv j)) := fun j hj => by
      rw [List.getElem?_map, List.getElem?_map, List.getElem?_range hj]
      rfl
    have sm : ∀ j, j ≤ e → (geo Av Bv j).natAbs < 2 ^ 8000 := fun j hj => Nat.lt_trans (gb j hj) (Nat.pow_lt_pow_right (by decide) (by decide))
    dsimp only [gName]
    refine ⟨_, rfl, .inl ⟨rfl, _, SqL.of h2⟩, ?_⟩
    refine ⟨_, rfl, _, rfl, _, _, rfl, rfl, ?_⟩
    refine ⟨_, rfl, _, rfl, _, _, rfl, rfl, .inl ⟨D2, _, ((i + 1 : Nat) : Int), _, rfl, congrArg V.int (by omega), SqL.of h2, atI_nat (at_ (i + 1) (by omega)), ?_⟩⟩
    refine ⟨_, _, rfl, rfl, mul8 hAB (sm (i + 1) (by omega)), ?_⟩
    refine ⟨_, rfl, _, rfl, _, _, rfl, rfl, mul8 (Nat.lt_of_le_of_lt vx (by decide)) (Nat.lt_of_le_of_lt hB (by decide)), ?_⟩
    refine ⟨_, rfl, _, rfl, _, _, rfl, rfl, .inl ⟨D2, _, ((i : Nat) : Int), _, rfl, congrArg V.int (by omega), SqL.of h2, atI_nat (at_ i (by omega)), ?_⟩⟩
    refine ⟨_, _, rfl, rfl, mul8 hAm (sm i (by omega)), _, _, rfl, rfl, ?_⟩
    refine ⟨D2, _, _, rfl, rfl, h2, ?_, ?_⟩
    · rw [List.length_map, List.length_map, List.length_range]
      exact Nat.lt_of_le_of_lt (by omega : i + 2 ≤ 17) (by decide)
    refine ⟨fun b o e2 => ?_, ?_, _, rfl⟩
    · rw [upd_ne (ne_of_none e2 hD2)]
      exact s2 _ _ e2
    · rw [upd_same, show i + 1 + 2 = (i + 2) + 1 by omega, List.range_succ (n := i + 2), List.map_append, List.map_append, List.map_cons, List.map_nil, List.map_cons, List.map_nil, geo_two]
  rintro σ H2 ⟨s2, h2, o5, rfl⟩
  rw [show ((e : Int) + 1 - 2).toNat + 2 = e + 1 by have := ok.2.1; dsimp only at this; omega] at h2
  have gl : ((List.range (e + 1)).map (geo Av Bv)).length = e + 1 := by rw [List.length_map, List.length_range]
  have gm : ∀ z ∈ (List.range (e + 1)).map (geo Av Bv), z.natAbs < 2 ^ 500 := fun z hz => by
    obtain ⟨i, hi, rfl⟩ := List.mem_map.mp hz
    exact gb i (by have := List.mem_range.mp hi; omega)
  generalize (List.range (e + 1)).map (geo Av Bv) = gL at h1 h2 gl gm
  have h1' := s2 _ _ h1
  refine ⟨_, rfl, ?_⟩
  dsimp only [tNil, List.cons_append, List.nil_append]
  refine rep_list (SqL.of h1') gm (by omega) ?_
  refine ⟨_, rfl, _, rfl, _, _, rfl, rfl, _, rfl, D2, _, rfl, SqL.of h2, fun D3 hD3 => ?_⟩
  rw [show (e : Int) + 1 = ((e + 1 : Nat) : Int) by omega, cut_all gl]
  have s3 : Same H2 (upd H2 D3 (.lst (gL.map V.int))) := Same.upd_new hD3
  have h3 : (upd H2 D3 (.lst (gL.map V.int))) D3 = some (.lst (gL.map V.int)) := upd_same
  generalize upd H2 D3 (.lst (gL.map V.int)) = H3 at s3 h3
  dsimp only [tNil, List.cons_append, List.nil_append]
  refine rep_list (SqL.of h3) gm (by omega) ?_
  refine ⟨rfl, ?_⟩
  rw [decide_eq_true rfl]
  exact q _ (s1.trans (s2.trans s3))
end
end Ft

set_option exponentiation.threshold 9000
namespace Ft
open PySem L2
theorem sorted_unique {α : Type} (k : α → Int) : ∀ l1 l2 : List α, l1.Perm l2 → l1.Pairwise (fun x y => k x ≤ k y) → l2.Pairwise (fun x y => k x < k y) → l1 = l2
  | l1, [], h, _, _ => h.eq_nil
  | [], b :: l2, h, _, _ => absurd h.length_eq (by simp)
  | a :: l1, b :: l2, h, h1, h2 => by
    have hab : a = b := by
      rcases List.mem_cons.mp (h.mem_iff.mp List.mem_cons_self) with e | m
      · exact e
      · have k1 := (List.pairwise_cons.mp h2).1 a m
        rcases List.mem_cons.mp (h.mem_iff.mpr (List.mem_cons_self : b ∈ b :: l2)) with e | m'
        · exact e.symm
        · have k2 := (List.pairwise_cons.mp h1).1 b m'
          omega
    subst hab
    rw [sorted_unique k l1 l2 h.cons_inv (List.pairwise_cons.mp h1).2 (List.pairwise_cons.mp h2).2]
/-- the products of the divisors, as the law makes them -/
def made (l : List Nat) (n : Nat) : List Int := (l.flatMap fun d => (dvs n).map fun e => d * e).map fun z : Nat => (z : Int)
theorem made_nil (n : Nat) : made [] n = [] := rfl
theorem made_snoc (l : List Nat) (d n : Nat) : made (l ++ [d]) n = made l n ++ (dvs n).map fun e : Nat => ((d : Int) * (e : Int)) := by
  unfold made
  rw [List.flatMap_append, List.map_append, List.flatMap_cons, List.flatMap_nil, List.append_nil, List.map_map]
  congr 1
theorem made_len (l : List Nat) (n : Nat) : (made l n).length = l.length * (dvs n).length := by
  induction l with
  | nil => simp [made]
  | cons x l ih =>
    have : made (x :: l) n = ((dvs n).map fun e => ((x * e : Nat) : Int)) ++ made l n := by
      unfold made
      rw [List.flatMap_cons, List.map_append, List.map_map]
      rfl
    rw [this, List.length_append, ih, List.length_map, List.length_cons, Nat.add_mul]
    omega
theorem made_sorted {m n : Nat} (m1 : 1 ≤ m) (n1 : 1 ≤ n) (g : Nat.gcd m n = 1) {ns : List Int} (p : ns.Perm (made (dvs m) n)) (s : ns.Pairwise (· ≤ ·)) : ns = (dvs (m * n)).map fun z : Nat => (z : Int) := by
  refine sorted_unique (fun z => z) _ _ (p.trans ((prods_perm m1 n1 g).symm.map _)) s ?_
  rw [List.pairwise_map]
  exact (dvs_asc (Nat.mul_pos m1 n1)).imp fun h => by omega
theorem part_gcd {d n : Nat} {a b : Int} (hd : d ∣ n) (hab : a ∣ b) (h : Nat.gcd n b.natAbs = 1) : Nat.gcd ((d : Nat) : Int).natAbs a.natAbs = 1 := by
  rw [Int.natAbs_natCast]
  exact Nat.Coprime.coprime_dvd_left hd (Nat.Coprime.coprime_dvd_right (Int.natAbs_dvd_natAbs.mpr hab) h)
theorem sPe_le {N k : Nat} {x y : Int} (hN : N ≤ 100000) (k24 : k ≤ 24) {e : Pe} (h : PeOk N e) : (sPe k x y e).natAbs ≤ 2 ^ 500 := Nat.le_of_lt (dsF_le (Nat.pow_pos (by have := h.1.1; omega)) (Nat.le_trans h.2.2 hN) k24)
theorem due_lt {N k j : Nat} {x y : Int} {L : List Pe} (F : Fac N L) (hN : N ≤ 100000) (k24 : k ≤ 24) (hj : j < L.length) : (prodI ((L.take j).map (sPe k x y))).natAbs < 2 ^ 8000 := by
  have h := prodI_le (l := (L.take j).map (sPe k x y)) (B := 2 ^ 500) fun z hz => by
    obtain ⟨e, he, rfl⟩ := List.mem_map.mp hz
    exact sPe_le hN k24 (F.ok e (List.mem_of_mem_take he))
  have len := F.len hN
  rw [List.length_map, List.length_take, Nat.min_eq_left (by omega)] at h
  refine Nat.lt_of_le_of_lt (Nat.le_trans h (Nat.pow_le_pow_right (Nat.pow_pos (by decide)) (show j ≤ 15 by omega))) ?_
  rw [← Nat.pow_mul]
  exact Nat.pow_lt_pow_right (by decide) (by decide)
end Ft

namespace Ft
open PySem L2
/-- keywords in order -/
def idV : List V → List V → List V := fun us zs => match us with
  | [] => zs
  | _ => []
def idU : List Value → List Value → List Value := fun us zs => match us with
  | [] => zs
  | _ => []
theorem id_rel : ∀ {vs : List V} {us : List Value} {zs : List V} {ws : List Value}, Vals vs us → Vals zs ws → Vals (idV vs zs) (idU us ws)
  | _, _, _, _, .nil, h => h
  | _, _, _, _, .cons _ _, _ => .nil
theorem kb_divisors {K : PySem.W.Frag} {f : Addr} {fd : FuncData} (F : Fun K "divisors" "divisors" s_divisors f fd) : KBinds K fd ["n"] ["n"] idU idV := by
  obtain ⟨oc, od, kV, doc, pm, an, cdv, ct, osl, rfl, lk, hcd⟩ := F.ex
  refine ⟨fun s us ws _ hl => ?_, id_rel⟩
  match us, ws, hl with
  | [], [a], _ => exact .of_eq rfl
theorem kb_divisor_sum {K : PySem.W.Frag} {f : Addr} {fd : FuncData} (F : Fun K "divisor_sum" "divisor_sum" s_divisor_sum f fd) : KBinds K fd ["n", "k", "one", "other"] ["n", "k", "one", "other"] idU idV := by
  obtain ⟨oc, od, kV, doc, pm, an, cdv, ct, osl, rfl, lk, hcd⟩ := F.ex
  refine ⟨fun s us ws _ hl => ?_, id_rel⟩
  match us, ws, hl with
  | [], [a, b, c, d], _ => exact .of_eq rfl
theorem kb_joined_sign {K : PySem.W.Frag} {f : Addr} {fd : FuncData} (F : Fun K "joined_sign" "joined_sign" s_joined_sign f fd) : KBinds K fd ["one", "other"] ["one", "other"] idU idV := by
  obtain ⟨oc, od, kV, doc, pm, an, cdv, ct, osl, rfl, lk, hcd⟩ := F.ex
  refine ⟨fun s us ws _ hl => ?_, id_rel⟩
  match us, ws, hl with
  | [], [a, b], _ => exact .of_eq rfl
end Ft

set_option exponentiation.threshold 9000
namespace Ft
open PySem L2
theorem if_by {b : Bool} {p q : Prop} (h1 : b = true → p) (h2 : b = false → q) : if b = true then p else q := by
  cases b with
  | true => exact h1 rfl
  | false => exact h2 rfl
def sp_law (K : PySem.W.Frag) : Sp := fun vs H Q _ => ∃ (a : Addr) (ns : List Int), vs = [.ref a] ∧ SqL K H a (ns.map V.int) ∧ ns.length ≤ 63 ∧ ∀ H', Q (.bl true) H'
section
variable {P : Program} {w : World} {K : PySem.W.Frag} {mg : Str → Option Value} {base : Heap}
set_option maxHeartbeats 0 in
theorem fn_law {f : Addr} {fd : FuncData} (F : Fun K "law" "law" s_law f fd) (B : Bi mg) (c__law_deck : Cal P w K mg base 1 "_law_deck" (sp_deck K)) (c__law_two : Cal P w K mg base 3 "_law_two" sp_two) (c__law_sign : Cal P w K mg base 3 "_law_sign" sp_sign) (c__law_draw : Cal P w K mg base 1 "_law_draw" sp_draw) (c__law_apart : Cal P w K mg base 2 "_law_apart" sp_lapart) (c_divisor_sum : Cal P w K mg base 5 "divisor_sum" sp_dsum) (k_divisor_sum : CalK P w K mg base 5 "divisor_sum" ["n", "k", "one", "other"] idV sp_dsum) (c__law_primes : Cal P w K mg base 1 "_law_primes" sp_primes) (c__law_power : Cal P w K mg base 1 "_law_power" sp_pow) (c_powR : CalG P w K mg base 6 "_law_is_power_right" sp_powR) (c_divisors : Cal P w K mg base 4 "divisors" sp_divisors) (k_divisors : CalK P w K mg base 4 "divisors" ["n"] idV sp_divisors) (c_joined_sign : Cal P w K mg base 5 "joined_sign" sp_joined_sign) (k_joined_sign : CalK P w K mg base 5 "joined_sign" ["one", "other"] idV sp_joined_sign) (c_is_sign : Cal P w K mg base 3 "is_sign" sp_is_sign) (c__law_common : Cal P w K mg base 1 "_law_common" sp_common) (c_sign_at : Cal P w K mg base 5 "sign_at" sp_sign_at) : FnG P w K mg base 7 f fd ["_law_script"] (sp_law K) := by
  have sc := sc_law
  refine fun_g F sc (fun _ _ _ _ ⟨_, _, e, _⟩ => by rw [e]; rfl) (fun cdv A outer s H vs Q E hgd hr h => ?_)
  obtain ⟨a, ns, rfl, hS, hlen, q⟩ := h
  have h64 : (A.deeper (PyProof.Rows.envOfC "law" (defScope s_law) s.heap.objs.size f cdv)).units + 64 < cLine := by have := hr.un; omega
  refine ⟨_, (pss_cons (ps_set (i := 1) sc.nd rfl (Or.inl rfl) (pe_c c__law_deck hr (by decide) (by rfl) (pa_cons (pv 0) pa_nil)))
      (pss_cons (ps_for PassesOwn.never rfl (pi_range1 rfl B.range (pa_cons pe_int pa_nil)) (pg_name (i := 2) sc.nd rfl (Or.inl rfl))
      (pss_cons (ps_asg (pe_c c__law_two hr (by decide) (by rfl) (pa_cons (pv 1) pa_nil)) (pg_tup rfl (pgs_cons (pg_name (i := 3) sc.nd rfl (Or.inl rfl)) (pgs_cons (pg_name (i := 4) sc.nd rfl (Or.inl rfl)) pgs_nil))))
        (pss_cons (ps_par3 (i := 5) (j := 6) (l := 7) (by rfl) sc.nd rfl rfl rfl (by decide) (by decide) (by decide) rfl rfl rfl (pa_cons (pe_c c__law_draw hr (by decide) (by rfl) (pa_cons (pv 1) (pa_cons pe_int pa_nil))) (pa_cons (pe_c c__law_sign hr (by decide) (by rfl) (pa_cons (pv 1) (pa_cons pe_int pa_nil))) (pa_cons (pe_c c__law_sign hr (by decide) (by rfl) (pa_cons (pv 1) (pa_cons pe_int pa_nil))) pa_nil))) (by rfl))
        (pss_cons (ps_if (pt_cmpR op_eq (pe_c c__law_draw hr (by decide) (by rfl) (pa_cons (pv 1) (pa_cons pe_int pa_nil))) pe_int (nomark _))
        (pss_one (ps_par (i := 6) (j := 7) (by rfl) sc.nd rfl rfl (by decide) rfl rfl (pa_cons (pe_c c__law_apart hr (by decide) (by rfl) (pa_cons (pv 1) (pa_cons (pe_op op_mulW (pv 3) (pv 4)) pa_nil))) (pa_cons (pe_c c__law_apart hr (by decide) (by rfl) (pa_cons (pv 1) (pa_cons (pe_op op_mulW (pv 3) (pv 4)) pa_nil))) pa_nil)) (by rfl)))
        pss_nil)
        (pss_cons (ps_set (i := 8) sc.nd rfl (Or.inl rfl) (pe_tup (pa_cons (pe_c c_divisor_sum hr (by decide) (by rfl) (pa_cons (pv 3) (pa_cons (pv 5) (pa_cons (pv 6) (pa_cons (pv 7) pa_nil))))) (pa_cons (pe_k0 k_divisor_sum hr (by decide) (by rfl) (pk_cons (pv 4) (pk_cons (pv 5) (pk_cons (pv 6) (pk_cons (pv 7) pk_nil))))) (pa_cons (pe_c c_divisor_sum hr (by decide) (by rfl) (pa_cons (pe_op op_mulW (pv 3) (pv 4)) (pa_cons (pv 5) (pa_cons (pv 6) (pa_cons (pv 7) pa_nil))))) pa_nil)))))
        (pss_cons (ps_if (PW.pt (pw_or (pt_cmpR (op_neD h64) (pe_lc (own := [("_law_x", 9)]) (g := gName 9)  (by rfl) sc.nd (pi_tup (pv 8)) (blkOk_by (own := [("_law_x", 9)]) (N := N_law) (sc := defScope s_law) (by decide +kernel)) (fun _ _ _ _ _ => (pg_name (i := 9) sc.nd rfl (Or.inl rfl))) (fun _ _ _ _ _ => (pts_one (PW.pt (pw_or (pt_not (pt_val (pe_callB (id := "isinstance") (r := rIsi K) call_isi (by rfl) B.isinstance (by decide +kernel) (pa_cons (pv 9) (pa_cons (pe_ty (n := "int") (by rfl) B.int_ (by decide +kernel)) pa_nil))))) (pw_or1 (pt_val (pe_callB (id := "isinstance") (r := rIsi K) call_isi (by rfl) B.isinstance (by decide +kernel) (pa_cons (pv 9) (pa_cons (pe_ty (n := "bool") (by rfl) B.bool (by decide +kernel)) pa_nil))))))))) (fun _ _ _ _ _ => (pv 9))) (pe_lst pa_nil) (nomark _)) (pw_or1 (pt_cmpR op_ne (pe_op op_mulW (pe_ix (show IxR _ (rIx K) from ix_seq) (pv 8) pe_int (fun _ _ => rfl)) (pe_ix (show IxR _ (rIx K) from ix_seq) (pv 8) pe_int (fun _ _ => rfl))) (pe_ix (show IxR _ (rIx K) from ix_seq) (pv 8) pe_int (fun _ _ => rfl)) (nomark _)))))
        (pss_one (ps_ret pe_bl))
        pss_nil)
        (pss_cons (ps_set (i := 10) sc.nd rfl (Or.inl rfl) pe_int)
        (pss_cons (ps_for PassesOwn.never rfl (pi_list (pe_c c__law_primes hr (by decide) (by rfl) (pa_cons (pe_op op_mulW (pv 3) (pv 4)) pa_nil))) (pg_tup rfl (pgs_cons (pg_name (i := 11) sc.nd rfl (Or.inl rfl)) (pgs_cons (pg_name (i := 12) sc.nd rfl (Or.inl rfl)) pgs_nil)))
        (pss_cons (ps_set (i := 10) sc.nd rfl (Or.inl rfl) (pe_op op_mulW (pv 10) (pe_c c_divisor_sum hr (by decide) (by rfl) (pa_cons (pe_c c__law_power hr (by decide) (by rfl) (pa_cons (pv 11) (pa_cons (pv 12) pa_nil))) (pa_cons (pv 5) (pa_cons (pv 6) (pa_cons (pv 7) pa_nil)))))))
          (pss_one (ps_if (pt_not (pt_val (pe_g c_powR hgd hr (by decide) (by rfl) (pa_cons (pv 11) (pa_cons (pv 12) (pa_cons (pv 5) (pa_cons (pv 6) (pa_cons (pv 7) pa_nil))))))))
          (pss_one (ps_ret pe_bl))
          pss_nil))))
        (pss_cons (ps_if (pt_cmpR op_ne (pv 10) (pe_ix (show IxR _ (rIx K) from ix_seq) (pv 8) pe_int (fun _ _ => rfl)) (nomark _))
        (pss_one (ps_ret pe_bl))
        pss_nil)
        (pss_cons (ps_par (i := 13) (j := 14) (by rfl) sc.nd rfl rfl (by decide) rfl rfl (pa_cons (pe_c c_divisors hr (by decide) (by rfl) (pa_cons (pv 3) pa_nil)) (pa_cons (pe_k0 k_divisors hr (by decide) (by rfl) (pk_cons (pv 4) pk_nil)) pa_nil)) (by rfl))
        (pss_cons (ps_set (i := 15) sc.nd rfl (Or.inl rfl) (pe_lst pa_nil))
        (pss_cons (ps_for PassesOwn.never rfl (pi_tup (pv 13)) (pg_name (i := 16) sc.nd rfl (Or.inr rfl))
        (pss_one (ps_expr (pe_bm PySem.F.plainAttrs_list PySem.F.slot_list_extend PySem.F.type_list_extend mt_extend (pv 15) (pa_cons (pe_lc (own := [("_law_e", 17)]) (g := gName 17) (tt := tYes) (by rfl) sc.nd (pi_tup (pv 14)) (blkOk_by (own := [("_law_e", 17)]) (N := N_law) (sc := defScope s_law) (by decide +kernel)) (fun _ _ _ _ _ => (pg_name (i := 17) sc.nd rfl (Or.inl rfl))) (fun _ _ _ _ _ => pts_nil) (fun _ _ _ _ _ => (pe_op op_mulW (pv 16) (pv 17)))) pa_nil)))))
        (pss_cons (ps_if (pt_cmpR op_ne (pe_callB (call_repr hgd hr) (by rfl) B.repr (by decide +kernel) (pa_cons (pe_c c_divisors hr (by decide) (by rfl) (pa_cons (pe_op op_mulW (pv 3) (pv 4)) pa_nil)) pa_nil)) (pe_callB (call_repr hgd hr) (by rfl) B.repr (by decide +kernel) (pa_cons (pe_callTy call_tuple_of (by rfl) B.tuple (by decide +kernel) (pa_cons (pe_callB cr_sortedI (by rfl) B.sorted (by decide +kernel) (pa_cons (pv 15) pa_nil)) pa_nil)) pa_nil)) (nomark _))
        (pss_one (ps_ret pe_bl))
        pss_nil)
        (pss_cons (ps_if (PW.pt (pw_or (pt_cmpR op_ne (pe_c c_divisor_sum hr (by decide) (by rfl) (pa_cons (pe_op op_mulW (pv 3) (pv 4)) (pa_cons pe_int (pa_cons (pv 6) (pa_cons (pv 7) pa_nil))))) (pe_c c_divisor_sum hr (by decide) (by rfl) (pa_cons (pe_op op_mulW (pv 3) (pv 4)) (pa_cons pe_int (pa_cons (pv 7) (pa_cons (pv 6) pa_nil))))) (nomark _)) (pw_or1 (pt_cmpR op_ne (pe_c c_divisor_sum hr (by decide) (by rfl) (pa_cons (pv 3) (pa_cons pe_int (pa_cons pe_int (pa_cons pe_int pa_nil))))) (pe_callB call_len_seq (by rfl) B.len_ (by decide +kernel) (pa_cons (pv 13) pa_nil)) (nomark _)))))
        (pss_one (ps_ret pe_bl))
        pss_nil)
        (pss_cons (ps_set (i := 18) sc.nd rfl (Or.inl rfl) (pe_c c__law_apart hr (by decide) (by rfl) (pa_cons (pv 1) (pa_cons (pe_op op_mulW (pv 3) (pv 4)) pa_nil))))
        (pss_cons (ps_set (i := 19) sc.nd rfl (Or.inl rfl) (pe_tup (pa_cons (pe_c c_joined_sign hr (by decide) (by rfl) (pa_cons (pv 6) (pa_cons (pv 18) pa_nil))) (pa_cons (pe_k0 k_joined_sign hr (by decide) (by rfl) (pk_cons (pv 7) (pk_cons (pv 18) pk_nil))) pa_nil))))
        (pss_one (ps_if (PW.pt (pw_and (pt_cmpR op_eq (pe_c c__law_common hr (by decide) (by rfl) (pa_cons (pe_op op_mulW (pv 3) (pv 4)) (pa_cons (pe_op op_mulW (pe_op op_mulW (pv 6) (pv 7)) (pv 18)) pa_nil))) pe_int (nomark _)) (pw_and (pt_val (pe_c c_is_sign hr (by decide) (by rfl) (pa_cons (pe_ix (show IxR _ (rIx K) from ix_seq) (pv 19) pe_int (fun _ _ => rfl)) pa_nil))) (pw_and1 (pt_val (pe_c c_is_sign hr (by decide) (by rfl) (pa_cons (pe_ix (show IxR _ (rIx K) from ix_seq) (pv 19) pe_int (fun _ _ => rfl)) pa_nil)))))))
        (pss_one (ps_if (pt_cmpR op_ne (pe_c c_divisor_sum hr (by decide) (by rfl) (pa_cons (pe_op op_mulW (pv 3) (pv 4)) (pa_cons (pv 5) (pa_cons (pe_ix (show IxR _ (rIx K) from ix_seq) (pv 19) pe_int (fun _ _ => rfl)) (pa_cons (pe_ix (show IxR _ (rIx K) from ix_seq) (pv 19) pe_int (fun _ _ => rfl)) pa_nil))))) (pe_op op_mulW (pe_ix (show IxR _ (rIx K) from ix_seq) (pv 8) pe_int (fun _ _ => rfl)) (pe_c c_sign_at hr (by decide) (by rfl) (pa_cons (pv 18) (pa_cons (pe_op op_mulW (pv 3) (pv 4)) pa_nil)))) (nomark _))
          (pss_one (ps_ret pe_bl))
          pss_nil))
        pss_nil))))))))))))))))))
      (pss_one (ps_ret pe_bl)))), ?_⟩
  refine ⟨_, rfl, a, ns, rfl, hS, hlen, ?_⟩
  intro H1 d l D1 s1 _ _
  dsimp only [gName]
  refine ⟨2, rfl, by decide, by decide, for_range (lo := 0) (n := Int.toNat 2) (fun i σ H' => DeckAt H' d l ∧ ∃ o2 o3 o4 o5 o6 o7 o8 o9 o10 o11 o12 o13 o14 o15 o16 o17 o18 o19 : Option V, σ = [some (.ref a), some (.ref d), o2, o3, o4, o5, o6, o7, o8, o9, o10, o11, o12, o13, o14, o15, o16, o17, o18, o19]) ⟨D1, none, none, none, none, none, none, none, none, none, none, none, none, none, none, none, none, none, none, rfl⟩ ?_ fun σ H2 _ => q _⟩
  clear D1 s1
  rintro i σ H1 hi ⟨D1, o2, o3, o4, o5, o6, o7, o8, o9, o10, o11, o12, o13, o14, o15, o16, o17, o18, o19, rfl⟩
  dsimp only [gName]
  refine ⟨_, rfl, d, l, rfl, D1, fun H2 t m n D2 b2 ht m1 n1 mn g => ?_⟩
  refine ⟨t, _, rfl, SqT.of ht, rfl, _, _, rfl, _, _, rfl, rfl, ?_⟩
  dsimp only [gName]
  refine ⟨_, rfl, d, l, 25, rfl, D2, by decide, by decide, fun H3 r D3 b3 r0 r1 => ?_⟩
  obtain ⟨k, rfl⟩ : ∃ k : Nat, r = (k : Int) := ⟨r.toNat, by omega⟩
  have k24 : k ≤ 24 := by omega
  refine ⟨_, rfl, d, l, rfl, D3, fun H4 x0 D4 b4 hx0 => ?_⟩
  refine ⟨_, rfl, d, l, rfl, D4, fun H5 y0 D5 b5 hy0 => ?_⟩
  refine ⟨_, _, _, rfl, ?_⟩
  clear D1 D2 D3 D4 b2 b3 b4 b5 ht r0 r1
  have m5 : m ≤ 100000 := by have := Nat.mul_le_mul_left m n1; omega
  have n5 : n ≤ 100000 := by have := Nat.mul_le_mul_right n m1; omega
  have mn1 : 1 ≤ m * n := Nat.mul_pos m1 n1
  have sm : ∀ {x : Nat}, x ≤ 100000 → ((x : Nat) : Int).natAbs < 2 ^ 8000 := fun h => by rw [Int.natAbs_natCast]; exact Nat.lt_of_le_of_lt h (by decide)
  have mmn : CMulW (m : Int) (n : Int) := mul8 (sm m5) (sm n5)
  have emn : (m : Int) * (n : Int) = ((m * n : Nat) : Int) := (Int.natCast_mul m n).symm
  dsimp only
  refine tSeq_join (fun σ H' => DeckAt H' d l ∧ ∃ x y : Int, isSign x = true ∧ isSign y = true ∧ σ = [some (.ref a), some (.ref d), some (.int (0 + (i : Int))), some (.int (m : Int)), some (.int (n : Int)), some (.int (k : Int)), some (.int x), some (.int y), o8, o9, o10, o11, o12, o13, o14, o15, o16, o17, o18, o19]) (fun N hN => ?_) ?_
  · refine ⟨_, rfl, d, l, 2, rfl, D5, by decide, by decide, fun H6 r D6 b6 r0 r1 => ⟨rfl, _, rfl, ifI (fun e => ?_) fun e => hN _ _ ⟨D6, x0, y0, hx0, hy0, rfl⟩⟩⟩
    refine ⟨_, rfl, _, rfl, _, rfl, _, _, rfl, rfl, mmn, d, l, _, rfl, D6, fun H7 z D7 b7 hz => ?_⟩
    refine ⟨_, rfl, _, rfl, _, rfl, _, _, rfl, rfl, mmn, d, l, _, rfl, D7, fun H8 z2 D8 b8 hz2 => ?_⟩
    exact ⟨_, _, rfl, hN _ _ ⟨D8, z, z2, hz, hz2, rfl⟩⟩
  clear D5 hx0 hy0 x0 y0 H1 H2 H3 H4 H5
  rintro _ H1 ⟨D1, x, y, hx, hy, rfl⟩
  have sx := sm_of hx
  have sy := sm_of hy
  have ds := fun (j : Nat) (hj : 1 ≤ j) (h5 : j ≤ 100000) => dsF_le (k := k) (D := x) (E := y) hj h5 k24
  refine ⟨_, rfl, _, rfl, _, rfl, _, rfl, m, k, x, y, rfl, m1, m5, k24, hx, hy, fun H2 s2 => ?_⟩
  refine ⟨_, rfl, _, rfl, _, rfl, _, rfl, n, k, x, y, rfl, n1, n5, k24, hx, hy, fun H3 s3 => ?_⟩
  refine ⟨_, rfl, _, rfl, _, _, rfl, rfl, mmn, _, rfl, _, rfl, _, rfl, m * n, k, x, y, (by show [V.int ((m : Int) * (n : Int)), V.int (k : Int), V.int x, V.int y] = _; rw [emn]), mn1, mn, k24, hx, hy, fun H4 s4 => ?_⟩
  refine ⟨(by show (3 : Nat) ≤ sizeLine; decide), fun T hT => ?_⟩
  have s5 : Same H4 (upd H4 T (.tup [V.int (dsF k x y m), V.int (dsF k x y n), V.int (dsF k x y (m * n))])) := Same.upd_new hT
  have t5 : (upd H4 T (.tup [V.int (dsF k x y m), V.int (dsF k x y n), V.int (dsF k x y (m * n))])) T = some (.tup [V.int (dsF k x y m), V.int (dsF k x y n), V.int (dsF k x y (m * n))]) := upd_same
  generalize upd H4 T (.tup [V.int (dsF k x y m), V.int (dsF k x y n), V.int (dsF k x y (m * n))]) = H5 at s5 t5
  have D5 := D1.same (s2.trans (s3.trans (s4.trans s5)))
  clear D1 s2 s3 s4 s5 hT H2 H3 H4
  dsimp only [gName]
  refine tSeq_join (fun σ H' => DeckAt H' d l ∧ H' T = some (.tup [V.int (dsF k x y m), V.int (dsF k x y n), V.int (dsF k x y (m * n))]) ∧ ∃ o9 : Option V, σ = [some (.ref a), some (.ref d), some (.int (0 + (i : Int))), some (.int (m : Int)), some (.int (n : Int)), some (.int (k : Int)), some (.int x), some (.int y), some (.ref T), o9, o10, o11, o12, o13, o14, o15, o16, o17, o18, o19]) (fun N hN => ?_) ?_
  · refine ⟨_, rfl, T, rfl, ⟨_, SqT.of t5⟩, fun D0 hD0 => ?_⟩
    refine lc_it (walk_tup (xs := [V.int (dsF k x y m), V.int (dsF k x y n), V.int (dsF k x y (m * n))])) (fun i H' => Same H5 H' ∧ H' D0 = some (.lst [])) ⟨Same.upd_new hD0, upd_same⟩ (fun i H' _ ⟨z, _⟩ => SqT.of (z _ _ t5)) ?_ ?_
    · rintro i v H6 _ hi ⟨s6, h6⟩ ⟨rfl, hv⟩
      obtain ⟨z, rfl⟩ : ∃ z : Int, v = .int z := by
        match i, hi, hv with
        | 0, _, hv => exact ⟨_, (Option.some.inj hv).symm⟩
        | 1, _, hv => exact ⟨_, (Option.some.inj hv).symm⟩
        | 2, _, hv => exact ⟨_, (Option.some.inj hv).symm⟩
      refine ⟨rfl, _, rfl, _, _, _, _, true, rfl, .ty _, .base (.int z), kit_int_int, true, rfl, iteF ?_⟩
      refine ⟨_, rfl, _, _, _, _, false, rfl, .ty _, .base (.int z), kit_int_bool, false, rfl, iteF ?_⟩
      exact ⟨s6, h6⟩
    rintro H6 ⟨s6, h6⟩
    have t6 := s6 _ _ t5
    refine ⟨(by decide), fun p hp => ?_⟩
    have s7 : Same H6 (upd H6 p (.lst [])) := Same.upd_new hp
    have h7 : (upd H6 p (.lst [])) p = some (.lst []) := upd_same
    generalize upd H6 p (.lst []) = H7 at s7 h7
    have t7 := s7 _ _ t6
    refine ⟨_, _, .lst (SqL.of (s7 _ _ h6)) .nil, .lst (SqL.of h7) .nil, rfl, rfl, _, rfl, iteF ?_⟩
    refine ⟨_, rfl, .inr (.inl ⟨T, _, 0, _, rfl, rfl, SqT.of t7, atI_nat (j := 0) rfl, ?_⟩)⟩
    refine ⟨_, rfl, .inr (.inl ⟨T, _, 1, _, rfl, rfl, SqT.of t7, atI_nat (j := 1) rfl, ?_⟩)⟩
    have c8 : ∀ {z : Int}, z.natAbs < 2 ^ 500 → z.natAbs < 2 ^ 8000 := fun h => Nat.lt_trans h (Nat.pow_lt_pow_right (by decide) (by decide))
    refine ⟨_, _, rfl, rfl, mul8 (c8 (ds m m1 m5)) (c8 (ds n n1 n5)), ?_⟩
    refine ⟨_, rfl, .inr (.inl ⟨T, _, 2, _, rfl, rfl, SqT.of t7, atI_nat (j := 2) rfl, ?_⟩)⟩
    refine ⟨rfl, _, rfl, ifNI (fun e => absurd (dsF_mul sx sy m1 n1 g).symm e) fun _ => ?_⟩
    exact hN _ _ ⟨D5.same (s6.trans s7), t7, _, rfl⟩
  clear D5 t5 H5
  rintro _ H1 ⟨D1, t1, o9, rfl⟩
  -- the prime powers
  refine ⟨_, rfl, _, rfl, _, _, rfl, rfl, mmn, m * n, (by show [V.int ((m : Int) * (n : Int))] = _; rw [emn]), mn1, mn, fun H2 p us L s2 hp pes Fc => ?_⟩
  have D2 := D1.same s2
  have t2 := s2 _ _ t1
  clear D1 t1 s2
  refine ⟨p, rfl, ⟨_, SqL.of hp⟩, for_list (K := K) (a := p) (xs := us) (fun j σ H' => Same H2 H' ∧ ∃ o11 o12 : Option V, σ = [some (.ref a), some (.ref d), some (.int (0 + (i : Int))), some (.int (m : Int)), some (.int (n : Int)), some (.int (k : Int)), some (.int x), some (.int y), some (.ref T), o9, some (.int (prodI ((L.take j).map (sPe k x y)))), o11, o12, o13, o14, o15, o16, o17, o18, o19]) ⟨Same.refl _, o11, o12, rfl⟩ (fun j σ H' _ ⟨z, _⟩ => SqL.of (z _ _ hp)) ?_ ?_⟩
  · rintro j v σ H3 hj ⟨s3, o11, o12, rfl⟩
    obtain ⟨e, he, t, rfl, ht⟩ := pes.get hj
    have okN := Fc.ok e (List.mem_of_getElem? he)
    have ok : PeOk 100000 e := ⟨okN.1, okN.2.1, Nat.le_trans okN.2.2 mn⟩
    have jl : j < L.length := (List.getElem?_eq_some_iff.mp he).1
    obtain ⟨e16, e5⟩ := ok.le (Nat.le_refl _)
    have e1 : 1 ≤ e.1 := by have := ok.1.1; omega
    refine ⟨t, _, rfl, SqT.of (s3 _ _ ht), rfl, _, _, rfl, _, _, rfl, rfl, ?_⟩
    dsimp only [gName]
    refine ⟨_, rfl, _, rfl, _, rfl, e.1, e.2, rfl, e1, e5, by omega, _, rfl, _, rfl, _, rfl, ?_⟩
    refine ⟨e.1 ^ e.2, k, x, y, rfl, Nat.pow_pos e1, ok.2.2, k24, hx, hy, fun H4 s4 => ?_⟩
    have dl := due_lt (x := x) (y := y) Fc mn k24 jl
    have el := Nat.lt_of_le_of_lt (sPe_le (x := x) (y := y) mn k24 okN) (show 2 ^ 500 < 2 ^ 8000 by exact Nat.pow_lt_pow_right (by decide) (by decide))
    refine ⟨_, _, rfl, rfl, mul8 dl el, ?_⟩
    refine ⟨_, rfl, _, rfl, _, rfl, _, rfl, _, rfl, e.1, e.2, k, x, y, rfl, ok, k24, hx, hy, fun H5 s5 => ⟨true, rfl, iteF ?_⟩⟩
    refine ⟨s3.trans (s4.trans s5), some (.int (e.1 : Int)), some (.int (e.2 : Int)), ?_⟩
    have htk : prodI ((L.take (j + 1)).map (sPe k x y)) = prodI ((L.take j).map (sPe k x y)) * sPe k x y e := by
      rw [List.take_add_one, he, List.map_append]
      exact prodI_snoc _ _
    rw [htk]
    rfl
  rintro σ H3 ⟨s3, o11, o12, rfl⟩
  rw [pes.len, List.take_length, ← Fc.sum k x y sx sy]
  have D3 := D2.same s3
  have t3 := s3 _ _ t2
  clear D2 t2 pes hp s3 Fc H2
  dsimp only
  refine ⟨_, rfl, _, rfl, .inr (.inl ⟨T, _, 2, _, rfl, rfl, SqT.of t3, atI_nat (j := 2) rfl, ?_⟩)⟩
  refine ⟨rfl, _, rfl, ifNI (fun e => absurd rfl e) fun _ => ?_⟩
  dsimp only [tNext]
  refine ⟨_, rfl, m, rfl, m1, m5, fun H4 pN s4 hN4 => ?_⟩
  refine ⟨_, rfl, n, rfl, n1, n5, fun H5 pF s5 hF5 => ?_⟩
  refine ⟨_, _, rfl, ?_⟩
  refine ⟨by decide, fun M hM => ?_⟩
  dsimp only [gName]
  have hN5 := s5 _ _ hN4
  have D5 := D3.same (s4.trans s5)
  have t5 := s5 _ _ (s4 _ _ t3)
  clear D3 t3 s4 s5 hN4 H3 H4
  have s6 : Same H5 (upd H5 M (.lst [])) := Same.upd_new hM
  have lm := dvs_len m5
  have ln := dvs_len n5
  have mem_m : ∀ z ∈ dvs m, 1 ≤ z ∧ z ≤ 100000 := fun z hz => by have := dvs_mem m1 hz; omega
  have mem_n : ∀ z ∈ dvs n, 1 ≤ z ∧ z ≤ 100000 := fun z hz => by have := dvs_mem n1 hz; omega
  have nat_at : ∀ {l : List Nat} {j : Nat} {v : V}, (l.map fun z : Nat => V.int (z : Int))[j]? = some v → ∃ z, l[j]? = some z ∧ v = V.int (z : Int) := fun {l j v} h => by
    rw [List.getElem?_map] at h
    cases e : l[j]? with
    | none => rw [e] at h; cases h
    | some z => rw [e] at h; exact ⟨z, rfl, (Option.some.inj h).symm⟩
  refine ⟨_, rfl, pN, rfl, ⟨_, SqT.of (s6 _ _ hN5)⟩, for_it (walk_tup (K := K) (a := pN) (xs := (dvs m).map fun z : Nat => V.int (z : Int))) (fun j σ H' => Same H5 H' ∧ H' M = some (.lst ((made ((dvs m).take j) n).map V.int)) ∧ ∃ o16 o17 : Option V, σ = [some (.ref a), some (.ref d), some (.int (0 + (i : Int))), some (.int (m : Int)), some (.int (n : Int)), some (.int (k : Int)), some (.int x), some (.int y), some (.ref T), o9, some (.int (dsF k x y (m * n))), o11, o12, some (.ref pN), some (.ref pF), some (.ref M), o16, o17, o18, o19]) ⟨s6, upd_same, o16, o17, rfl⟩ (fun j σ H' _ ⟨z, _⟩ => SqT.of (z _ _ hN5)) ?_ ?_⟩
  · rintro j v σ _ H6 hj ⟨s6, h6, o16, o17, rfl⟩ ⟨rfl, hv⟩
    obtain ⟨z, hz, rfl⟩ := nat_at hv
    have z5 := mem_m z (List.mem_of_getElem? hz)
    have jl : j < (dvs m).length := (List.getElem?_eq_some_iff.mp hz).1
    have htk : (dvs m).take (j + 1) = (dvs m).take j ++ [z] := by rw [List.take_add_one, hz]; rfl
    dsimp only [gName]
    refine ⟨_, rfl, .inl ⟨rfl, _, SqL.of h6⟩, ?_⟩
    refine ⟨_, rfl, pF, rfl, ⟨_, SqT.of (s6 _ _ hF5)⟩, fun D0 hD0 => ?_⟩
    refine lc_it (walk_tup (xs := (dvs n).map fun z : Nat => V.int (z : Int))) (fun i H' => Same H6 H' ∧ H' D0 = some (.lst (((dvs n).take i).map fun e : Nat => V.int ((z : Int) * (e : Int))))) ⟨Same.upd_new hD0, upd_same⟩ (fun i H' _ ⟨q, _⟩ => SqT.of (q _ _ (s6 _ _ hF5))) ?_ ?_
    · rintro i v H7 _ hi ⟨s7, h7⟩ ⟨rfl, hv⟩
      obtain ⟨y2, hy2, rfl⟩ := nat_at hv
      have y5 := mem_n y2 (List.mem_of_getElem? hy2)
      have htk2 : (dvs n).take (i + 1) = (dvs n).take i ++ [y2] := by rw [List.take_add_one, hy2]; rfl
      refine ⟨rfl, _, rfl, _, rfl, _, _, rfl, rfl, mul8 (sm z5.2) (sm y5.2), ?_⟩
      refine ⟨_, h7, ?_, fun b o e2 => ?_, ?_⟩
      · rw [List.length_map, List.length_take]
        exact Nat.lt_of_le_of_lt (Nat.le_trans (Nat.min_le_right _ _) ln) (by decide)
      · rw [upd_ne (ne_of_none e2 hD0)]
        exact s7 _ _ e2
      · rw [upd_same, htk2, List.map_append]
        rfl
    rintro H7 ⟨s7, h7⟩
    rw [List.length_map, List.take_length] at h7
    refine ⟨M, D0, _, _, rfl, rfl, s7 _ _ h6, h7, ?_, ?_⟩
    · rw [List.length_map, List.length_map, made_len, List.length_take]
      have k1 : min j (dvs m).length ≤ 632 := Nat.le_trans (Nat.min_le_right _ _) lm
      exact Nat.le_trans (Nat.add_le_add (Nat.mul_le_mul k1 ln) ln) (by decide)
    refine ⟨fun b o e2 => ?_, ?_, some (.int (z : Int)), _, rfl⟩
    · rw [upd_ne (ne_of_none e2 hM)]
      exact s7 _ _ (s6 _ _ e2)
    · rw [upd_same, htk, made_snoc, List.map_append, List.map_map]
      rfl
  rintro σ H6 ⟨s6, h6, o16, o17, rfl⟩
  rw [List.length_map, List.take_length] at h6
  have D6 := D5.same s6
  have t6 := s6 _ _ t5
  have hN6 := s6 _ _ hN5
  clear D5 t5 hN5 hF5
  dsimp only
  refine tSeq_join (fun σ H' => DeckAt H' d l ∧ H' T = some (.tup [V.int (dsF k x y m), V.int (dsF k x y n), V.int (dsF k x y (m * n))]) ∧ H' pN = some (.tup ((dvs m).map fun z : Nat => V.int (z : Int))) ∧ σ = [some (.ref a), some (.ref d), some (.int (0 + (i : Int))), some (.int (m : Int)), some (.int (n : Int)), some (.int (k : Int)), some (.int x), some (.int y), some (.ref T), o9, some (.int (dsF k x y (m * n))), o11, o12, some (.ref pN), some (.ref pF), some (.ref M), o16, o17, o18, o19]) (fun N hN => ?_) ?_
  · refine ⟨_, rfl, _, rfl, _, _, rfl, rfl, mmn, m * n, (by show [V.int ((m : Int) * (n : Int))] = _; rw [emn]), mn1, mn, fun H7 p7 s7 h7 => ?_⟩
    have e7 : H7 p7 = some (.tup (((dvs (m * n)).map fun z : Nat => (z : Int)).map V.int)) := by rw [List.map_map]; exact h7
    have big : ∀ z ∈ (dvs (m * n)).map fun z : Nat => (z : Int), z.natAbs < 2 ^ 500 := fun z hz => by
      obtain ⟨w, hw, rfl⟩ := List.mem_map.mp hz
      rw [Int.natAbs_natCast]
      exact Nat.lt_of_le_of_lt (show w ≤ 100000 by have := dvs_mem mn1 hw; omega) (by decide)
    have lb : ((dvs (m * n)).map fun z : Nat => (z : Int)).length ≤ 2000 := by rw [List.length_map]; exact Nat.le_trans (dvs_len mn) (by decide)
    dsimp only [tNil, List.cons_append, List.nil_append]
    refine rep_tup (SqT.of e7) big lb ?_
    refine ⟨_, rfl, M, _, rfl, SqL.of (s7 _ _ h6), fun ns' p8 pm pw hp8 => ?_⟩
    have es := made_sorted m1 n1 g pm pw
    subst es
    have s8 : Same H7 (upd H7 p8 (.lst (((dvs (m * n)).map fun z : Nat => (z : Int)).map V.int))) := Same.upd_new hp8
    have h8 : (upd H7 p8 (.lst (((dvs (m * n)).map fun z : Nat => (z : Int)).map V.int))) p8 = some (.lst (((dvs (m * n)).map fun z : Nat => (z : Int)).map V.int)) := upd_same
    generalize upd H7 p8 (.lst (((dvs (m * n)).map fun z : Nat => (z : Int)).map V.int)) = H8 at s8 h8
    refine ⟨p8, _, rfl, .inl ⟨SqL.of h8, fun l9 hl9 => ?_⟩⟩
    have s9 : Same H8 (upd H8 l9 (.tup (((dvs (m * n)).map fun z : Nat => (z : Int)).map V.int))) := Same.upd_new hl9
    have h9 : (upd H8 l9 (.tup (((dvs (m * n)).map fun z : Nat => (z : Int)).map V.int))) l9 = some (.tup (((dvs (m * n)).map fun z : Nat => (z : Int)).map V.int)) := upd_same
    generalize upd H8 l9 (.tup (((dvs (m * n)).map fun z : Nat => (z : Int)).map V.int)) = H9 at s9 h9
    dsimp only [tNil, List.cons_append, List.nil_append]
    refine rep_tup (SqT.of h9) big lb ?_
    refine ⟨rfl, _, rfl, ifN (fun k => absurd rfl k) fun _ => ?_⟩
    have s69 := s7.trans (s8.trans s9)
    exact hN _ _ ⟨D6.same s69, s69 _ _ t6, s69 _ _ hN6, rfl⟩
  clear D6 t6 hN6 h6
  rintro _ H1 ⟨D1, t1, hN1, rfl⟩
  -- two signs exchanged, how many divisors
  have ones : isSign 1 = true := by decide +kernel
  refine tSeq_join (fun σ H' => DeckAt H' d l ∧ H' T = some (.tup [V.int (dsF k x y m), V.int (dsF k x y n), V.int (dsF k x y (m * n))]) ∧ σ = [some (.ref a), some (.ref d), some (.int (0 + (i : Int))), some (.int (m : Int)), some (.int (n : Int)), some (.int (k : Int)), some (.int x), some (.int y), some (.ref T), o9, some (.int (dsF k x y (m * n))), o11, o12, some (.ref pN), some (.ref pF), some (.ref M), o16, o17, o18, o19]) (fun N hN => ?_) ?_
  · refine ⟨_, rfl, _, rfl, _, _, rfl, rfl, mmn, _, rfl, _, rfl, m * n, 0, x, y, (by show [V.int ((m : Int) * (n : Int)), V.int 0, V.int x, V.int y] = _; rw [emn]; rfl), mn1, mn, Nat.zero_le _, hx, hy, fun H2 s2 => ?_⟩
    refine ⟨_, rfl, _, rfl, _, _, rfl, rfl, mmn, _, rfl, _, rfl, m * n, 0, y, x, (by show [V.int ((m : Int) * (n : Int)), V.int 0, V.int y, V.int x] = _; rw [emn]; rfl), mn1, mn, Nat.zero_le _, hy, hx, fun H3 s3 => ?_⟩
    refine ⟨rfl, _, rfl, ifNI (fun e => absurd (dsF_swap mn1) e) fun _ => ?_⟩
    refine ⟨_, rfl, m, 0, 1, 1, rfl, m1, m5, Nat.zero_le _, ones, ones, fun H4 s4 => ?_⟩
    have s14 := s2.trans (s3.trans s4)
    refine ⟨_, rfl, pN, _, rfl, .inr (SqT.of (s14 _ _ hN1)), ?_⟩
    refine ⟨rfl, _, rfl, ifNI (fun e => absurd (by rw [dsF_ones val_ones, List.length_map]) e) fun _ => ?_⟩
    exact hN _ _ ⟨D1.same s14, s14 _ _ t1, rfl⟩
  clear D1 t1 hN1
  rintro _ H1 ⟨D1, t1, rfl⟩
  -- joined signs
  refine ⟨_, rfl, _, rfl, _, rfl, _, _, rfl, rfl, mmn, d, l, _, rfl, D1, fun H2 z D2 b2 hz => ?_⟩
  have t2 : H2 T = some (.tup [V.int (dsF k x y m), V.int (dsF k x y n), V.int (dsF k x y (m * n))]) := by
    obtain ⟨mx, dr, cs, hd, hl, _⟩ := D1
    exact b2 _ _ t1 (ne_of t1 hd (by intro z; cases z)) (ne_of t1 hl (by intro z; cases z))
  clear D1 t1 b2
  dsimp only [gName]
  refine ⟨_, rfl, _, rfl, x, z, rfl, ⟨hx, hz⟩, _, rfl, _, rfl, y, z, rfl, ⟨hy, hz⟩, (by show (2 : Nat) ≤ sizeLine; decide), fun J hJ => ?_⟩
  have s3 : Same H2 (upd H2 J (.tup [V.int (anySign (x * z)), V.int (anySign (y * z))])) := Same.upd_new hJ
  have j3 : (upd H2 J (.tup [V.int (anySign (x * z)), V.int (anySign (y * z))])) J = some (.tup [V.int (anySign (x * z)), V.int (anySign (y * z))]) := upd_same
  generalize upd H2 J (.tup [V.int (anySign (x * z)), V.int (anySign (y * z))]) = H3 at s3 j3
  have D3 := D2.same s3
  have t3 := s3 _ _ t2
  clear D2 t2 s3 hJ
  dsimp only [gName]
  have s8 : ∀ {q : Int}, isSign q = true → q.natAbs < 2 ^ 8000 := fun h => Nat.lt_of_le_of_lt (isSign_le h).1 (by decide)
  have mxy : (x * y).natAbs < 2 ^ 8000 := by
    rw [Int.natAbs_mul]
    exact Nat.lt_of_le_of_lt (Nat.mul_le_mul (isSign_le hx).1 (isSign_le hy).1) (by decide)
  refine ⟨_, rfl, _, rfl, _, _, rfl, rfl, mmn, _, rfl, _, rfl, _, _, rfl, rfl, mul8 (s8 hx) (s8 hy), _, rfl, _, _, rfl, rfl, mul8 mxy (s8 hz), _, _, rfl, rfl, _, rfl, ifI (fun e => ?_) fun e => ⟨D3, _, _, _, _, _, _, _, _, _, _, _, _, _, _, _, _, _, _, rfl⟩⟩
  have hg : Nat.gcd (m * n) (x * y * z).natAbs = 1 := by
    have : Nat.gcd ((m : Int) * (n : Int)).natAbs (x * y * z).natAbs = 1 := Int.ofNat.inj e
    rw [emn, Int.natAbs_natCast] at this
    exact this
  refine ⟨_, rfl, .inr (.inl ⟨J, _, 0, _, rfl, rfl, SqT.of j3, atI_nat (j := 0) rfl, _, rfl, trivial, _, rfl, ?_⟩)⟩
  refine if_by (b := isSign (anySign (x * z))) (fun hj1 => ?_) (fun _ => ⟨D3, _, _, _, _, _, _, _, _, _, _, _, _, _, _, _, _, _, _, rfl⟩)
  refine ⟨_, rfl, .inr (.inl ⟨J, _, 1, _, rfl, rfl, SqT.of j3, atI_nat (j := 1) rfl, _, rfl, trivial, _, rfl, ?_⟩)⟩
  refine if_by (b := isSign (anySign (y * z))) (fun hj2 => ?_) (fun _ => ⟨D3, _, _, _, _, _, _, _, _, _, _, _, _, _, _, _, _, _, _, rfl⟩)
  have sz := sm_of hz
  have jn : dsF k (anySign (x * z)) (anySign (y * z)) (m * n) = dsF k x y (m * n) * valueAt z ((m : Int) * (n : Int)) := by
    rw [emn]
    refine dsF_join mn1 sz (fun q hq => ?_) fun q hq => ?_
    · exact join02 hx hz hj1 (part_gcd hq ⟨y, by rw [Int.mul_right_comm]⟩ hg)
    · exact join02 hy hz hj2 (part_gcd hq ⟨x, by rw [Int.mul_assoc, Int.mul_comm]⟩ hg)
  refine ⟨_, rfl, _, rfl, _, _, rfl, rfl, mmn, _, rfl, ?_⟩
  refine ⟨_, rfl, .inr (.inl ⟨J, _, 0, _, rfl, rfl, SqT.of j3, atI_nat (j := 0) rfl, ?_⟩)⟩
  refine ⟨_, rfl, .inr (.inl ⟨J, _, 1, _, rfl, rfl, SqT.of j3, atI_nat (j := 1) rfl, ?_⟩)⟩
  refine ⟨m * n, k, _, _, (by show [V.int ((m : Int) * (n : Int)), V.int (k : Int), V.int (anySign (x * z)), V.int (anySign (y * z))] = _; rw [emn]), mn1, mn, k24, hj1, hj2, fun H4 s4 => ?_⟩
  refine ⟨_, rfl, .inr (.inl ⟨T, _, 2, _, rfl, rfl, SqT.of (s4 _ _ t3), atI_nat (j := 2) rfl, ?_⟩)⟩
  refine ⟨_, rfl, _, rfl, _, rfl, _, _, rfl, rfl, mmn, z, _, rfl, hz, ?_⟩
  refine ⟨_, _, rfl, rfl, mul8 (Nat.lt_trans (ds (m * n) mn1 mn) (Nat.pow_lt_pow_right (by decide) (by decide))) (Nat.lt_of_le_of_lt (val_le _ _) (by decide)), ?_⟩
  refine ⟨rfl, _, rfl, ifNI (fun e => absurd jn e) fun _ => ?_⟩
  exact ⟨D3.same s4, _, _, _, _, _, _, _, _, _, _, _, _, _, _, _, _, _, _, rfl⟩
end
end Ft

set_option exponentiation.threshold 9000
namespace Ft
open PySem L2
theorem df_mk {K : PySem.W.Frag} {h : Heap} {mg : Str → Option Value} {x : Str} {st : Stmt} {ps : List Str} {f : Addr} {oc kV doc pm cdv ct : Value} {od an : Option Addr} {osl : Array (Option Value)} (X : K.In h) (G : h.Ns mainGlobals mg)
    (a : PySem.W.nsIn K mainGlobals x = some (some (.ref f))) (l : K.lookup f = some ⟨oc, od, .func (PySem.W.fnOf x x (defArgs st) (defBody st) (defScope st) .none kV doc pm an cdv ct), osl⟩) (c : PySem.W.codeIn K cdv x = true) (k : PySem.W.keepIn K (.ref f) = true)
    (hb : ∀ (kV doc pm : Value) (an : Option Addr) (cdv ct : Value) (us : List Value), us.length = ps.length → bindArgs (PySem.W.fnOf x x (defArgs st) (defBody st) (defScope st) .none kV doc pm an cdv ct) ⟨us, []⟩ = pure (ps.zip us)) : Df K mg x st ps :=
  have F := fun_mk (st := st) l c k
  ⟨f, _, F, PySem.W.mg_of X G a, F.binds hb⟩
theorem b1 {x : Str} {st : Stmt} {p0 : Str} (h : ∀ (kV doc pm : Value) (an : Option Addr) (cdv ct u0 : Value), bindArgs (PySem.W.fnOf x x (defArgs st) (defBody st) (defScope st) .none kV doc pm an cdv ct) ⟨[u0], []⟩ = pure [(p0, u0)]) :
    ∀ (kV doc pm : Value) (an : Option Addr) (cdv ct : Value) (us : List Value), us.length = [p0].length → bindArgs (PySem.W.fnOf x x (defArgs st) (defBody st) (defScope st) .none kV doc pm an cdv ct) ⟨us, []⟩ = pure ([p0].zip us) :=
  fun kV doc pm an cdv ct us hl => match us, hl with | [u0], _ => h kV doc pm an cdv ct u0
theorem b2 {x : Str} {st : Stmt} {p0 p1 : Str} (h : ∀ (kV doc pm : Value) (an : Option Addr) (cdv ct u0 u1 : Value), bindArgs (PySem.W.fnOf x x (defArgs st) (defBody st) (defScope st) .none kV doc pm an cdv ct) ⟨[u0, u1], []⟩ = pure [(p0, u0), (p1, u1)]) :
    ∀ (kV doc pm : Value) (an : Option Addr) (cdv ct : Value) (us : List Value), us.length = [p0, p1].length → bindArgs (PySem.W.fnOf x x (defArgs st) (defBody st) (defScope st) .none kV doc pm an cdv ct) ⟨us, []⟩ = pure ([p0, p1].zip us) :=
  fun kV doc pm an cdv ct us hl => match us, hl with | [u0, u1], _ => h kV doc pm an cdv ct u0 u1
theorem b3 {x : Str} {st : Stmt} {p0 p1 p2 : Str} (h : ∀ (kV doc pm : Value) (an : Option Addr) (cdv ct u0 u1 u2 : Value), bindArgs (PySem.W.fnOf x x (defArgs st) (defBody st) (defScope st) .none kV doc pm an cdv ct) ⟨[u0, u1, u2], []⟩ = pure [(p0, u0), (p1, u1), (p2, u2)]) :
    ∀ (kV doc pm : Value) (an : Option Addr) (cdv ct : Value) (us : List Value), us.length = [p0, p1, p2].length → bindArgs (PySem.W.fnOf x x (defArgs st) (defBody st) (defScope st) .none kV doc pm an cdv ct) ⟨us, []⟩ = pure ([p0, p1, p2].zip us) :=
  fun kV doc pm an cdv ct us hl => match us, hl with | [u0, u1, u2], _ => h kV doc pm an cdv ct u0 u1 u2
theorem b4 {x : Str} {st : Stmt} {p0 p1 p2 p3 : Str} (h : ∀ (kV doc pm : Value) (an : Option Addr) (cdv ct u0 u1 u2 u3 : Value), bindArgs (PySem.W.fnOf x x (defArgs st) (defBody st) (defScope st) .none kV doc pm an cdv ct) ⟨[u0, u1, u2, u3], []⟩ = pure [(p0, u0), (p1, u1), (p2, u2), (p3, u3)]) :
    ∀ (kV doc pm : Value) (an : Option Addr) (cdv ct : Value) (us : List Value), us.length = [p0, p1, p2, p3].length → bindArgs (PySem.W.fnOf x x (defArgs st) (defBody st) (defScope st) .none kV doc pm an cdv ct) ⟨us, []⟩ = pure ([p0, p1, p2, p3].zip us) :=
  fun kV doc pm an cdv ct us hl => match us, hl with | [u0, u1, u2, u3], _ => h kV doc pm an cdv ct u0 u1 u2 u3
theorem b5 {x : Str} {st : Stmt} {p0 p1 p2 p3 p4 : Str} (h : ∀ (kV doc pm : Value) (an : Option Addr) (cdv ct u0 u1 u2 u3 u4 : Value), bindArgs (PySem.W.fnOf x x (defArgs st) (defBody st) (defScope st) .none kV doc pm an cdv ct) ⟨[u0, u1, u2, u3, u4], []⟩ = pure [(p0, u0), (p1, u1), (p2, u2), (p3, u3), (p4, u4)]) :
    ∀ (kV doc pm : Value) (an : Option Addr) (cdv ct : Value) (us : List Value), us.length = [p0, p1, p2, p3, p4].length → bindArgs (PySem.W.fnOf x x (defArgs st) (defBody st) (defScope st) .none kV doc pm an cdv ct) ⟨us, []⟩ = pure ([p0, p1, p2, p3, p4].zip us) :=
  fun kV doc pm an cdv ct us hl => match us, hl with | [u0, u1, u2, u3, u4], _ => h kV doc pm an cdv ct u0 u1 u2 u3 u4
/-- the defs of the text, as the top has left them -/
structure Dfs (K : PySem.W.Frag) (mg : Str → Option Value) : Prop where
  is_integer : Df K mg "is_integer" s_is_integer ["thing"]
  is_from : Df K mg "is_from" s_is_from ["thing", "least"]
  is_between : Df K mg "is_between" s_is_between ["thing", "least", "most"]
  check_integer : Df K mg "check_integer" s_check_integer ["thing"]
  check_from : Df K mg "check_from" s_check_from ["thing", "least"]
  raised : Df K mg "raised" s_raised ["base", "exponent"]
  is_sign : Df K mg "is_sign" s_is_sign ["thing"]
  check_sign : Df K mg "check_sign" s_check_sign ["sign"]
  sign_at : Df K mg "sign_at" s_sign_at ["sign", "n"]
  value_at : Df K mg "value_at" s_value_at ["sign", "n"]
  value_at_two : Df K mg "value_at_two" s_value_at_two ["sign"]
  value_at_odd : Df K mg "value_at_odd" s_value_at_odd ["top", "bottom"]
  any_sign_of : Df K mg "any_sign_of" s_any_sign_of ["m"]
  without_squares : Df K mg "without_squares" s_without_squares ["m"]
  joined_sign : Df K mg "joined_sign" s_joined_sign ["one", "other"]
  divisors : Df K mg "divisors" s_divisors ["n"]
  divisor_sum : Df K mg "divisor_sum" s_divisor_sum ["n", "k", "one", "other"]
  ldeck : Df K mg "_law_deck" s__law_deck ["_law_script"]
  ldraw : Df K mg "_law_draw" s__law_draw ["_law_deck_here", "_law_many"]
  lpick : Df K mg "_law_pick" s__law_pick ["_law_deck_here", "_law_some"]
  lis_sign : Df K mg "_law_is_sign" s__law_is_sign ["_law_number"]
  lsign : Df K mg "_law_sign" s__law_sign ["_law_deck_here", "_law_most"]
  lpower : Df K mg "_law_power" s__law_power ["_law_x", "_law_k"]
  lprimes : Df K mg "_law_primes" s__law_primes ["_law_n"]
  lcommon : Df K mg "_law_common" s__law_common ["_law_one", "_law_other"]
  ltwo : Df K mg "_law_two" s__law_two ["_law_deck_here"]
  lapart : Df K mg "_law_apart" s__law_apart ["_law_deck_here", "_law_n"]
  lis_power_right : Df K mg "_law_is_power_right" s__law_is_power_right ["_law_p", "_law_many", "_law_k", "_law_one", "_law_other"]
  law : Df K mg "law" s_law ["_law_script"]
theorem law_all {P : Program} {w : World} {K : PySem.W.Frag} {mg : Str → Option Value} {base : Heap} {f : Addr} {fd : FuncData}  (D : Dfs K mg) (B : Bi mg) (F : Fun K "law" "law" s_law f fd) : FnG P w K mg base 7 f fd ["_law_script"] (sp_law K) := by
  have c0__law_deck : Cal P w K mg base 1 "_law_deck" (sp_deck K) := ok_deck D.ldeck B
  have c1__law_draw : Cal P w K mg base 1 "_law_draw" (sp_draw) := ok_draw D.ldraw B
  have c2__law_pick : Cal P w K mg base 2 "_law_pick" (sp_pick K) := ok_pick D.lpick B c1__law_draw
  have c1__law_two : Cal P w K mg base 3 "_law_two" (sp_two) := ok_two D.ltwo B c1__law_draw c2__law_pick
  have c4__law_is_sign : Cal P w K mg base 1 "_law_is_sign" (sp_lawSign) := ok_lawSign D.lis_sign B
  have c4__law_sign : Cal P w K mg base 3 "_law_sign" (sp_sign) := ok_sign D.lsign B c1__law_draw c2__law_pick c4__law_is_sign
  have c6__law_common : Cal P w K mg base 1 "_law_common" (sp_common) := ok_common D.lcommon B
  have c6__law_apart : Cal P w K mg base 2 "_law_apart" (sp_lapart) := ok_lapart D.lapart B c1__law_draw c6__law_common
  have c8_is_integer : Cal P w K mg base 1 "is_integer" (sp_is_integer) := ok_is_integer D.is_integer B
  have c8_is_from : Cal P w K mg base 2 "is_from" (sp_from) := ok_is_from D.is_from c8_is_integer
  have c8_check_from : Cal P w K mg base 3 "check_from" (sp_checkFrom) := ok_check_from D.check_from c8_is_from
  have c11_without_squares : Cal P w K mg base 1 "without_squares" (sp_without_squares) := ok_without_squares D.without_squares B
  have c11_any_sign_of : Cal P w K mg base 2 "any_sign_of" (sp_any_sign_of) := ok_any_sign_of D.any_sign_of c11_without_squares
  have c13_is_between : Cal P w K mg base 2 "is_between" (sp_is_between) := ok_is_between D.is_between c8_is_integer
  have c11_is_sign : Cal P w K mg base 3 "is_sign" (sp_is_sign) := ok_is_sign D.is_sign c11_any_sign_of c13_is_between
  have c11_check_sign : Cal P w K mg base 4 "check_sign" (sp_check_sign) := ok_check_sign D.check_sign c11_is_sign
  have c16_divisors : Cal P w K mg base 4 "divisors" (sp_divisors) := by
    obtain ⟨f, fd, F, m, b⟩ := D.divisors.ex
    exact ⟨f, fd, _, fn_divisors F B c8_check_from, m, F.kp, b⟩
  have c17_value_at_two : Cal P w K mg base 1 "value_at_two" (sp_value_at_two) := ok_value_at_two D.value_at_two
  have c18_value_at_odd : Cal P w K mg base 1 "value_at_odd" (sp_value_at_odd) := ok_value_at_odd D.value_at_odd
  have c17_value_at : Cal P w K mg base 2 "value_at" (sp_value_at) := ok_value_at D.value_at B c17_value_at_two c18_value_at_odd
  have c20_raised : Cal P w K mg base 1 "raised" (sp_raised) := ok_raised D.raised
  have c8_divisor_sum : Cal P w K mg base 5 "divisor_sum" (sp_dsum) := by
    obtain ⟨f, fd, F, m, b⟩ := D.divisor_sum.ex
    exact ⟨f, fd, _, fn_dsum F c8_check_from c11_check_sign c16_divisors c17_value_at c20_raised, m, F.kp, b⟩
  have k22_divisor_sum : CalK P w K mg base 5 "divisor_sum" ["n", "k", "one", "other"] idV (sp_dsum) := by
    obtain ⟨f, fd, F, m, b⟩ := D.divisor_sum.ex
    exact ⟨f, fd, _, _, fn_dsum F c8_check_from c11_check_sign c16_divisors c17_value_at c20_raised, m, F.kp, kb_divisor_sum F⟩
  have c23__law_primes : Cal P w K mg base 1 "_law_primes" (sp_primes) := ok_primes D.lprimes B
  have c24__law_power : Cal P w K mg base 1 "_law_power" (sp_pow) := ok_pow D.lpower B
  have c25_check_integer : Cal P w K mg base 2 "check_integer" (sp_check_integer) := ok_check_integer D.check_integer c8_is_integer
  have c25_sign_at : Cal P w K mg base 5 "sign_at" (sp_sign_at) := by
    obtain ⟨f, fd, F, m, b⟩ := D.sign_at.ex
    exact ⟨f, fd, _, fn_sign_at F c11_check_sign c25_check_integer c17_value_at, m, F.kp, b⟩
  have g25__law_is_power_right : CalG P w K mg base 6 "_law_is_power_right" (sp_powR) := by
    obtain ⟨f, fd, F, m, b⟩ := D.lis_power_right.ex
    exact ⟨f, fd, _, fn_powR F B c8_divisor_sum c24__law_power c25_sign_at, m, F.kp, b⟩
  have k28_divisors : CalK P w K mg base 4 "divisors" ["n"] idV (sp_divisors) := by
    obtain ⟨f, fd, F, m, b⟩ := D.divisors.ex
    exact ⟨f, fd, _, _, fn_divisors F B c8_check_from, m, F.kp, kb_divisors F⟩
  have c29_joined_sign : Cal P w K mg base 5 "joined_sign" (sp_joined_sign) := by
    obtain ⟨f, fd, F, m, b⟩ := D.joined_sign.ex
    exact ⟨f, fd, _, fn_joined_sign F c11_check_sign c11_any_sign_of, m, F.kp, b⟩
  have k30_joined_sign : CalK P w K mg base 5 "joined_sign" ["one", "other"] idV (sp_joined_sign) := by
    obtain ⟨f, fd, F, m, b⟩ := D.joined_sign.ex
    exact ⟨f, fd, _, _, fn_joined_sign F c11_check_sign c11_any_sign_of, m, F.kp, kb_joined_sign F⟩
  exact fn_law F B c0__law_deck c1__law_two c4__law_sign c1__law_draw c6__law_apart c8_divisor_sum k22_divisor_sum c23__law_primes c24__law_power g25__law_is_power_right c16_divisors k28_divisors c29_joined_sign k30_joined_sign c11_is_sign c6__law_common c25_sign_at
theorem walk {l : PySem.W.OpenLaw} {q : Program} {loose : List Str} {XP : (Str → Option Value) → Heap → Prop} {YP : World → Heap → Prop} {d : DefRec} {K : Params → PySem.W.Frag} (hn : l.most = some 63) (hdf : d.params.defaults = [])
    (hY : ∀ (w : World) (h : Heap), YP w h → (K w.params).In h)
    (F : ∀ (w : World) (mg : Str → Option Value) (fa : Addr) (h : Heap), (K w.params).In h → h.Ns mainGlobals mg → mg d.name = some (.ref fa) →
      ∃ fd : FuncData, (∀ (s : Shared) (u : Value), BindsTo s fd ⟨[u], []⟩ [("_law_script", u)]) ∧ ∀ base : Heap, (K w.params).In base → base.Ns mainGlobals mg → FnG l.prog w (K w.params) mg base 7 fa fd ["_law_script"] (sp_law (K w.params))) :
    PySem.W.WalkO q loose XP YP l.row.toRowW d [] (fun f vs => PySem.call f vs) :=
  walk_g (n := 63) (k := 7) (x := "_law_script") (sp := sp_law) hn (by decide) hdf ⟨rfl, by decide, by decide⟩ hY F (fun _ _ a ns hl hS => ⟨a, ns, rfl, hS, hl, fun _ => rfl⟩)
theorem law_at {l : PySem.W.OpenLaw} {w : World} {K : PySem.W.Frag} {mg : Str → Option Value} {h : Heap} {fa f : Addr} {oc kV doc pm cdv ct : Value} {od an : Option Addr} {osl : Array (Option Value)}  (X : K.In h) (G : h.Ns mainGlobals mg) (hfa : mg "law" = some (.ref fa))
    (a : PySem.W.nsIn K mainGlobals "law" = some (some (.ref f))) (lk : K.lookup f = some ⟨oc, od, .func (PySem.W.fnOf "law" "law" (defArgs s_law) (defBody s_law) (defScope s_law) .none kV doc pm an cdv ct), osl⟩) (c : PySem.W.codeIn K cdv "law" = true) (k : PySem.W.keepIn K (.ref f) = true)
    (D : Dfs K mg) (B : Bi mg) :
    ∃ fd : FuncData, (∀ (s : Shared) (u : Value), BindsTo s fd ⟨[u], []⟩ [("_law_script", u)]) ∧ ∀ base : Heap, K.In base → base.Ns mainGlobals mg → FnG l.prog w K mg base 7 fa fd ["_law_script"] (sp_law K) := by
  have e := hfa.symm.trans (PySem.W.mg_of X G a)
  cases e
  exact ⟨_, fun s u => .of_eq rfl, fun base _ _ => law_all  D B (fun_mk (st := s_law) lk c k)⟩
end Ft

open PySem PySem.W PyProof.Rows in
set_option maxRecDepth 100000 in
set_option maxHeartbeats 0 in
theorem PySem.Challenge.cw_firstterms_k02_whole_sums_over_divisors_holds : PySem.Challenge.rw_firstterms_k02_whole_sums_over_divisors.Holds := by
  w_on; o_law; k_head; (case hw => w_witness2)
  k_fill
  refine Ft.walk (l := PySem.Challenge.rw_firstterms_k02_whole_sums_over_divisors) rfl rfl (fun w h Y => PySem.W.kIn_of Y) ?F
  case F =>
    intro w mg fa h KX G hmg
    refine' Ft.law_at  KX G hmg ?a ?lk ?c ?k ?D ?B
    (case a => k_is); (case lk => k_is); (case c => k_is); (case k => k_is)
    case D =>
      refine ⟨?d0, ?d1, ?d2, ?d3, ?d4, ?d5, ?d6, ?d7, ?d8, ?d9, ?d10, ?d11, ?d12, ?d13, ?d14, ?d15, ?d16, ?d17, ?d18, ?d19, ?d20, ?d21, ?d22, ?d23, ?d24, ?d25, ?d26, ?d27, ?d28⟩
      (case d0 => refine' Ft.df_mk KX G ?a0 ?l0 ?c0 ?k0 (Ft.b1 fun _ _ _ _ _ _ _ => rfl); (case a0 => k_is); (case l0 => k_is); (case c0 => k_is); (case k0 => k_is))
      (case d1 => refine' Ft.df_mk KX G ?a1 ?l1 ?c1 ?k1 (Ft.b2 fun _ _ _ _ _ _ _ _ => rfl); (case a1 => k_is); (case l1 => k_is); (case c1 => k_is); (case k1 => k_is))
      (case d2 => refine' Ft.df_mk KX G ?a2 ?l2 ?c2 ?k2 (Ft.b3 fun _ _ _ _ _ _ _ _ _ => rfl); (case a2 => k_is); (case l2 => k_is); (case c2 => k_is); (case k2 => k_is))
      (case d3 => refine' Ft.df_mk KX G ?a3 ?l3 ?c3 ?k3 (Ft.b1 fun _ _ _ _ _ _ _ => rfl); (case a3 => k_is); (case l3 => k_is); (case c3 => k_is); (case k3 => k_is))
      (case d4 => refine' Ft.df_mk KX G ?a4 ?l4 ?c4 ?k4 (Ft.b2 fun _ _ _ _ _ _ _ _ => rfl); (case a4 => k_is); (case l4 => k_is); (case c4 => k_is); (case k4 => k_is))
      (case d5 => refine' Ft.df_mk KX G ?a5 ?l5 ?c5 ?k5 (Ft.b2 fun _ _ _ _ _ _ _ _ => rfl); (case a5 => k_is); (case l5 => k_is); (case c5 => k_is); (case k5 => k_is))
      (case d6 => refine' Ft.df_mk KX G ?a6 ?l6 ?c6 ?k6 (Ft.b1 fun _ _ _ _ _ _ _ => rfl); (case a6 => k_is); (case l6 => k_is); (case c6 => k_is); (case k6 => k_is))
      (case d7 => refine' Ft.df_mk KX G ?a7 ?l7 ?c7 ?k7 (Ft.b1 fun _ _ _ _ _ _ _ => rfl); (case a7 => k_is); (case l7 => k_is); (case c7 => k_is); (case k7 => k_is))
      (case d8 => refine' Ft.df_mk KX G ?a8 ?l8 ?c8 ?k8 (Ft.b2 fun _ _ _ _ _ _ _ _ => rfl); (case a8 => k_is); (case l8 => k_is); (case c8 => k_is); (case k8 => k_is))
      (case d9 => refine' Ft.df_mk KX G ?a9 ?l9 ?c9 ?k9 (Ft.b2 fun _ _ _ _ _ _ _ _ => rfl); (case a9 => k_is); (case l9 => k_is); (case c9 => k_is); (case k9 => k_is))
      (case d10 => refine' Ft.df_mk KX G ?a10 ?l10 ?c10 ?k10 (Ft.b1 fun _ _ _ _ _ _ _ => rfl); (case a10 => k_is); (case l10 => k_is); (case c10 => k_is); (case k10 => k_is))
      (case d11 => refine' Ft.df_mk KX G ?a11 ?l11 ?c11 ?k11 (Ft.b2 fun _ _ _ _ _ _ _ _ => rfl); (case a11 => k_is); (case l11 => k_is); (case c11 => k_is); (case k11 => k_is))
      (case d12 => refine' Ft.df_mk KX G ?a12 ?l12 ?c12 ?k12 (Ft.b1 fun _ _ _ _ _ _ _ => rfl); (case a12 => k_is); (case l12 => k_is); (case c12 => k_is); (case k12 => k_is))
      (case d13 => refine' Ft.df_mk KX G ?a13 ?l13 ?c13 ?k13 (Ft.b1 fun _ _ _ _ _ _ _ => rfl); (case a13 => k_is); (case l13 => k_is); (case c13 => k_is); (case k13 => k_is))
      (case d14 => refine' Ft.df_mk KX G ?a14 ?l14 ?c14 ?k14 (Ft.b2 fun _ _ _ _ _ _ _ _ => rfl); (case a14 => k_is); (case l14 => k_is); (case c14 => k_is); (case k14 => k_is))
      (case d15 => refine' Ft.df_mk KX G ?a15 ?l15 ?c15 ?k15 (Ft.b1 fun _ _ _ _ _ _ _ => rfl); (case a15 => k_is); (case l15 => k_is); (case c15 => k_is); (case k15 => k_is))
      (case d16 => refine' Ft.df_mk KX G ?a16 ?l16 ?c16 ?k16 (Ft.b4 fun _ _ _ _ _ _ _ _ _ _ => rfl); (case a16 => k_is); (case l16 => k_is); (case c16 => k_is); (case k16 => k_is))
      (case d17 => refine' Ft.df_mk KX G ?a17 ?l17 ?c17 ?k17 (Ft.b1 fun _ _ _ _ _ _ _ => rfl); (case a17 => k_is); (case l17 => k_is); (case c17 => k_is); (case k17 => k_is))
      (case d18 => refine' Ft.df_mk KX G ?a18 ?l18 ?c18 ?k18 (Ft.b2 fun _ _ _ _ _ _ _ _ => rfl); (case a18 => k_is); (case l18 => k_is); (case c18 => k_is); (case k18 => k_is))
      (case d19 => refine' Ft.df_mk KX G ?a19 ?l19 ?c19 ?k19 (Ft.b2 fun _ _ _ _ _ _ _ _ => rfl); (case a19 => k_is); (case l19 => k_is); (case c19 => k_is); (case k19 => k_is))
      (case d20 => refine' Ft.df_mk KX G ?a20 ?l20 ?c20 ?k20 (Ft.b1 fun _ _ _ _ _ _ _ => rfl); (case a20 => k_is); (case l20 => k_is); (case c20 => k_is); (case k20 => k_is))
      (case d21 => refine' Ft.df_mk KX G ?a21 ?l21 ?c21 ?k21 (Ft.b2 fun _ _ _ _ _ _ _ _ => rfl); (case a21 => k_is); (case l21 => k_is); (case c21 => k_is); (case k21 => k_is))
      (case d22 => refine' Ft.df_mk KX G ?a22 ?l22 ?c22 ?k22 (Ft.b2 fun _ _ _ _ _ _ _ _ => rfl); (case a22 => k_is); (case l22 => k_is); (case c22 => k_is); (case k22 => k_is))
      (case d23 => refine' Ft.df_mk KX G ?a23 ?l23 ?c23 ?k23 (Ft.b1 fun _ _ _ _ _ _ _ => rfl); (case a23 => k_is); (case l23 => k_is); (case c23 => k_is); (case k23 => k_is))
      (case d24 => refine' Ft.df_mk KX G ?a24 ?l24 ?c24 ?k24 (Ft.b2 fun _ _ _ _ _ _ _ _ => rfl); (case a24 => k_is); (case l24 => k_is); (case c24 => k_is); (case k24 => k_is))
      (case d25 => refine' Ft.df_mk KX G ?a25 ?l25 ?c25 ?k25 (Ft.b1 fun _ _ _ _ _ _ _ => rfl); (case a25 => k_is); (case l25 => k_is); (case c25 => k_is); (case k25 => k_is))
      (case d26 => refine' Ft.df_mk KX G ?a26 ?l26 ?c26 ?k26 (Ft.b2 fun _ _ _ _ _ _ _ _ => rfl); (case a26 => k_is); (case l26 => k_is); (case c26 => k_is); (case k26 => k_is))
      (case d27 => refine' Ft.df_mk KX G ?a27 ?l27 ?c27 ?k27 (Ft.b5 fun _ _ _ _ _ _ _ _ _ _ _ => rfl); (case a27 => k_is); (case l27 => k_is); (case c27 => k_is); (case k27 => k_is))
      (case d28 => refine' Ft.df_mk KX G ?a28 ?l28 ?c28 ?k28 (Ft.b1 fun _ _ _ _ _ _ _ => rfl); (case a28 => k_is); (case l28 => k_is); (case c28 => k_is); (case k28 => k_is))
    case B =>
      refine' ⟨PySem.W.mg_none_of KX G ?z0, PySem.W.mg_none_of KX G ?z1, PySem.W.mg_none_of KX G ?z2, PySem.W.mg_none_of KX G ?z3, PySem.W.mg_none_of KX G ?z4, PySem.W.mg_of KX G ?z5, PySem.W.mg_none_of KX G ?z6, PySem.W.mg_none_of KX G ?z7, PySem.W.mg_none_of KX G ?z8, PySem.W.mg_none_of KX G ?z9, PySem.W.mg_none_of KX G ?z10, PySem.W.mg_none_of KX G ?z11, PySem.W.mg_none_of KX G ?z12, PySem.W.mg_none_of KX G ?z13, PySem.W.mg_none_of KX G ?z14, PySem.W.mg_none_of KX G ?z15⟩
      (case z0 => k_is)
      (case z1 => k_is)
      (case z2 => k_is)
      (case z3 => k_is)
      (case z4 => k_is)
      (case z5 => k_is)
      (case z6 => k_is)
      (case z7 => k_is)
      (case z8 => k_is)
      (case z9 => k_is)
      (case z10 => k_is)
      (case z11 => k_is)
      (case z12 => k_is)
      (case z13 => k_is)
      (case z14 => k_is)
      (case z15 => k_is)

