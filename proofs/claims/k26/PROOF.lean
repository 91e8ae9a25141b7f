import PyProof.Rows.All
import Wide.All
import OpenK.AllK
import Wide.FinOn
import HandS.ForMost
import HandS.Flow
import HandS.Wide
import HandS.Gcd
import HandS.IsInst
import HandS.Zip
import HandS.Ends
import HandS.Walk
import KE.KMathGC
import HandS.Style
import Flt.RightSqrt
import PyProof.ReprBulk
import PyProof.Rows.StrJoinMade
import HandS.TupSets
import PySem.Challenge.RW_firstterms_k26_whole_edges_and_widths
set_option Elab.async false
set_option maxRecDepth 100000
namespace Ft
open PySem L2

/-! ### general: what a def may be called for -/
structure Cal (P : Program) (w : World) (K : PySem.W.Frag) (mg : Str → Option Value) (base : Heap) (k : Nat) (x : Str) (sp : Sp) : Prop where
  ex : ∃ (f : Addr) (fd : FuncData) (ps : List Str), FnOk P w K mg base CX0 k f fd ps sp ∧ mg x = some (.ref f) ∧ PySem.W.keepIn K (.ref f) = true ∧ Binds K fd ps []
/-- a def of the top: its text stands, its name leads to it, its arguments bind -/
structure Df (K : PySem.W.Frag) (mg : Str → Option Value) (x : Str) (st : Stmt) (ps : List Str) : Prop where
  ex : ∃ (f : Addr) (fd : FuncData), Fun K x x st f fd ∧ mg x = some (.ref f) ∧ Binds K fd ps []
section
variable {X : Cx} {k j : Nat} {x : Str} {sp : Sp} {p pos : Pos} {e : Expr} {es : List Expr} {t : TA}
theorem pe_c (c : Cal X.prog X.w X.K X.mg X.base k x sp) (hr : Room j X.A) (hk : k ≤ j) (hg : Gl X x) (ha : PA X (e :: es) t)
    (hdb : (x == ("__debug__" : Str)) = false := by decide) (he : starEach (e :: es) X.env = (false, eval e X.env) :: starEach es X.env := by rfl) (hpl : (backTo pos (starEach es X.env)).any (·.1) = false := by rfl) :
    PE X (.Call (.Name x p) (e :: es) [] pos) (tCall sp [] E0 t) := by
  obtain ⟨f, fd, ps, F, hm, kp, b⟩ := c.ex
  exact pe_call F (hr.mono hk) hg hm kp b .nil pass0 ha hdb he hpl
end
/-- what may be called for by keywords alone, in this order -/
structure CalK (P : Program) (w : World) (K : PySem.W.Frag) (mg : Str → Option Value) (base : Heap) (k : Nat) (x : Str) (ks : List Str) (gV : List V → List V → List V) (sp : Sp) : Prop where
  ex : ∃ (f : Addr) (fd : FuncData) (ps : List Str) (g : List Value → List Value → List Value), FnOk P w K mg base CX0 k f fd ps sp ∧ mg x = some (.ref f) ∧ PySem.W.keepIn K (.ref f) = true ∧ KBinds K fd ps ks g gV
section
variable {X : Cx} {k j : Nat} {x : Str} {ks : List Str} {gV : List V → List V → List V} {sp : Sp} {p pos : Pos} {kws : List Keyword} {tk : TA}
theorem pe_k0 (c : CalK X.prog X.w X.K X.mg X.base k x ks gV sp) (hr : Room j X.A) (hk : k ≤ j) (hg : Gl X x) (hkw : PK X kws tk)
    (hall : (backToKw pos (keywordEach kws X.env)).all (·.1.isSome) = true := by rfl) (hks : (backToKw pos (keywordEach kws X.env)).filterMap (·.1) = ks := by rfl) (hdb : (x == ("__debug__" : Str)) = false := by decide)
    (hpl : ((backTo pos (starEach [] X.env)).any (·.1) || (backToKw pos (keywordEach kws X.env)).any (·.1.isNone)) = false := by rfl) :
    PE X (.Call (.Name x p) [] kws pos) (tCallK sp gV E0 tNil tk) := by
  obtain ⟨f, fd, ps, g, F, hm, kp, b⟩ := c.ex
  refine ⟨fun pins s σ H Q I h => wpAny_Call_Name_kw (ld_glob I hg hm ?_ hdb)⟩
  refine PySem.W.callWith_KW0 (h₀ := X.base) I.ok.mod.kin kp hall (thn (hkw.run pos pins s σ H _ I h) fun ws s2 ⟨zs, H2, I2, rz, q2⟩ => ⟨I2.kIn, ?_⟩) hpl
  rw [hks]
  exact run_fnk F (hr.mono hk) b pass0 I2 .nil rz q2
end
section
variable {X : Cx}
theorem pe_ty {x : Str} {n : String} {pos : Pos} (hg : Gl X x) (hm : X.mg x = none) (hv : bootBuiltins x = some (.type n)) (hn : x ≠ "__name__" := by decide) (hd : (x == ("__debug__" : Str)) = false := by decide) : PE X (.Name x pos) (tC (.ty n)) := pe_bltn hg hm hv rfl hn hd
end
theorem kit_int_int {K : PySem.W.Frag} : PySem.W.kitOne K (.type "int") (.type "int") = some true := kit_ty (by decide +kernel)
theorem kit_int_bool {K : PySem.W.Frag} : PySem.W.kitOne K (.type "int") (.type "bool") = some false := kit_ty (by decide +kernel)
theorem ifD {c A B : Prop} [Decidable c] (h1 : c → A) (h2 : ¬ c → B) : if decide c = true then A else B := by
  by_cases h : c
  · rw [decide_eq_true h]; exact iteT (h1 h)
  · rw [decide_eq_false h]; exact iteF (h2 h)
theorem ifI {i j : Int} {A B : Prop} (h1 : i = j → A) (h2 : i ≠ j → B) : if decide (V.int i = V.int j) = true then A else B :=
  ifD (fun h => h1 (V.int.inj h)) fun h => h2 fun e => h (congrArg V.int e)
theorem ifN {c A B : Prop} [Decidable c] (h1 : ¬ c → A) (h2 : c → B) : if (!decide c) = true then A else B := by
  by_cases h : c
  · rw [decide_eq_true h]; exact iteF (h2 h)
  · rw [decide_eq_false h]; exact iteT (h1 h)
theorem ifNI {i j : Int} {A B : Prop} (h1 : i ≠ j → A) (h2 : i = j → B) : if (!decide (V.int i = V.int j)) = true then A else B :=
  ifN (fun h => h1 fun e => h (congrArg V.int e)) fun h => h2 (V.int.inj h)
/-- what follows, said once for all ways that lead there -/
theorem tSeq_join {a b : TS} {D : Ends} {σ : L2.St} {H : Hp} (J : L2.St → Hp → Prop) (h1 : ∀ N : L2.St → Hp → Prop, (∀ σ H, J σ H → N σ H) → a { D with nx := N } σ H) (h2 : ∀ σ H, J σ H → b D σ H) : tSeq a b D σ H := h1 (b D) h2
/-- while, by an invariant and a measure -/
theorem while_go {c : TT} {tb : TS} {D : Ends} {σ : L2.St} {H : Hp} (Pv : L2.St → Hp → Prop) (μ : L2.St → Hp → Nat) (h0 : Pv σ H)
    (hs : ∀ σ H, Pv σ H → c σ H fun b H1 => if b = true then ∃ N : L2.St → Hp → Prop, (∀ σ' H', N σ' H' → ∃ m', m' < μ σ H ∧ m' = μ σ' H' ∧ Pv σ' H') ∧ tb { D with nx := N, ct := N, bk := D.nx } σ H1 else D.nx σ H1) :
    tWhile c tb D σ H := by
  refine ⟨fun m σ H => m = μ σ H ∧ Pv σ H, ⟨_, rfl, h0⟩, ?_⟩
  rintro m σ H ⟨rfl, p⟩
  exact hs σ H p
/-- math.isqrt below 2 ^ 64 -/
def rIsqrt : List V → Hp → VK → Prop := fun vs H Q => ∃ a : Int, vs = [.int a] ∧ 0 ≤ a ∧ a < 2 ^ 64 ∧ Q (.int ((Float64.isqrt a.toNat : Nat) : Int)) H
theorem cr_isqrt {X : Cx} : CallR X (.builtin "math.isqrt") rIsqrt := by
  intro pins s σ H vs us Q I r h
  obtain ⟨a, rfl, h0, h1, q⟩ := h
  obtain ⟨u, rfl, t, rfl⟩ := vals1 r
  exact PySem.W.mg_isqrt h0 h1 ⟨.int _, H, I.tok _, ⟨_, rfl⟩, q⟩
/-- the built-ins of the text -/
structure Bi (mg : Str → Option Value) : Prop where
  abs : mg "abs" = none
  bool : mg "bool" = none
  gcd : mg "gcd" = some (.builtin "math.gcd")
  int : mg "int" = none
  int_ : mg "int" = none
  isinstance : mg "isinstance" = none
  isqrt : mg "isqrt" = some (.builtin "math.isqrt")
  len : mg "len" = none
  len_ : mg "len" = none
  list : mg "list" = none
  max : mg "max" = none
  max_ : mg "max" = none
  min : mg "min" = none
  min_ : mg "min" = none
  range : mg "range" = none
  repr : mg "repr" = none
  reversed : mg "reversed" = none
  sorted : mg "sorted" = none
  sum : mg "sum" = none
  tuple : mg "tuple" = none
/-- math.comb of ints from 0 to 18000 -/
def rComb : List V → Hp → VK → Prop := fun vs H Q => ∃ a b : Int, vs = [.int a, .int b] ∧ 0 ≤ a ∧ 0 ≤ b ∧ a ≤ 18000 ∧ Q (.int (PySem.W.mcComb a b)) H
theorem cr_comb {X : Cx} : CallR X (.builtin "math.comb") rComb := by
  intro pins s σ H vs us Q I r h
  obtain ⟨a, b, rfl, h0, h1, h2, q⟩ := h
  obtain ⟨t, u, rfl⟩ := Vals.int2 r
  exact PySem.W.mc_comb h0 h1 (by omega) (.inr h2) fun _ => ⟨.int _, H, I.tok _, ⟨_, rfl⟩, q⟩
end Ft

namespace Ft
open PySem L2
def top (i : Nat) : Stmt := PySem.Challenge.pw_firstterms_k26_whole_edges_and_widths.main.body.getD i (.Pass ⟨0, 0, 0, 0⟩)
abbrev s_is_integer : Stmt := top 6
abbrev N_is_integer : List Str := ["thing"]
theorem sc_is_integer : FnScope N_is_integer ["thing"] (defScope s_is_integer) := ⟨rfl, rfl, rfl, by decide +kernel, rfl, by decide +kernel, by decide +kernel⟩
abbrev s_is_from : Stmt := top 7
abbrev N_is_from : List Str := ["thing", "least"]
theorem sc_is_from : FnScope N_is_from ["thing", "least"] (defScope s_is_from) := ⟨rfl, rfl, rfl, by decide +kernel, rfl, by decide +kernel, by decide +kernel⟩
abbrev s_is_between : Stmt := top 8
abbrev N_is_between : List Str := ["thing", "least", "most"]
theorem sc_is_between : FnScope N_is_between ["thing", "least", "most"] (defScope s_is_between) := ⟨rfl, rfl, rfl, by decide +kernel, rfl, by decide +kernel, by decide +kernel⟩
abbrev s_check_from : Stmt := top 9
abbrev N_check_from : List Str := ["thing", "least"]
theorem sc_check_from : FnScope N_check_from ["thing", "least"] (defScope s_check_from) := ⟨rfl, rfl, rfl, by decide +kernel, rfl, by decide +kernel, by decide +kernel⟩
abbrev s_check_level : Stmt := top 10
abbrev N_check_level : List Str := ["level"]
theorem sc_check_level : FnScope N_check_level ["level"] (defScope s_check_level) := ⟨rfl, rfl, rfl, by decide +kernel, rfl, by decide +kernel, by decide +kernel⟩
abbrev s_divisors : Stmt := top 12
abbrev N_divisors : List Str := ["n", "d", "low", "high"]
theorem sc_divisors : FnScope N_divisors ["n"] (defScope s_divisors) := ⟨rfl, rfl, rfl, by decide +kernel, rfl, by decide +kernel, by decide +kernel⟩
abbrev s_index_of : Stmt := top 14
abbrev N_index_of : List Str := ["level", "c", "many", "width"]
theorem sc_index_of : FnScope N_index_of ["level"] (defScope s_index_of) := ⟨rfl, rfl, rfl, by decide +kernel, rfl, by decide +kernel, by decide +kernel⟩
abbrev s_edges_of : Stmt := top 15
abbrev N_edges_of : List Str := ["level", "c"]
theorem sc_edges_of : FnScope N_edges_of ["level"] (defScope s_edges_of) := ⟨rfl, rfl, rfl, by decide +kernel, rfl, by decide +kernel, by decide +kernel⟩
abbrev s_how_many_edges : Stmt := top 16
abbrev N_how_many_edges : List Str := ["level", "c", "common", "x"]
theorem sc_how_many_edges : FnScope N_how_many_edges ["level", "c"] (defScope s_how_many_edges) := ⟨rfl, rfl, rfl, by decide +kernel, rfl, by decide +kernel, by decide +kernel⟩
abbrev s__law_deck : Stmt := top 18
abbrev N__law_deck : List Str := ["_law_script", "_law_mixed", "_law_cell"]
theorem sc__law_deck : FnScope N__law_deck ["_law_script"] (defScope s__law_deck) := ⟨rfl, rfl, rfl, by decide +kernel, rfl, by decide +kernel, by decide +kernel⟩
abbrev s__law_draw : Stmt := top 19
abbrev N__law_draw : List Str := ["_law_deck_here", "_law_many", "_law_figure", "_law_cell"]
theorem sc__law_draw : FnScope N__law_draw ["_law_deck_here", "_law_many"] (defScope s__law_draw) := ⟨rfl, rfl, rfl, by decide +kernel, rfl, by decide +kernel, by decide +kernel⟩
abbrev s__law_pick : Stmt := top 20
abbrev N__law_pick : List Str := ["_law_deck_here", "_law_some"]
theorem sc__law_pick : FnScope N__law_pick ["_law_deck_here", "_law_some"] (defScope s__law_pick) := ⟨rfl, rfl, rfl, by decide +kernel, rfl, by decide +kernel, by decide +kernel⟩
abbrev s__law_same : Stmt := top 21
abbrev N__law_same : List Str := ["_law_told", "_law_due"]
theorem sc__law_same : FnScope N__law_same ["_law_told", "_law_due"] (defScope s__law_same) := ⟨rfl, rfl, rfl, by decide +kernel, rfl, by decide +kernel, by decide +kernel⟩
abbrev s__law_divisor : Stmt := top 22
abbrev N__law_divisor : List Str := ["_law_one", "_law_other"]
theorem sc__law_divisor : FnScope N__law_divisor ["_law_one", "_law_other"] (defScope s__law_divisor) := ⟨rfl, rfl, rfl, by decide +kernel, rfl, by decide +kernel, by decide +kernel⟩
abbrev s__law_divisors : Stmt := top 23
abbrev N__law_divisors : List Str := ["_law_n", "_law_d"]
theorem sc__law_divisors : FnScope N__law_divisors ["_law_n"] (defScope s__law_divisors) := ⟨rfl, rfl, rfl, by decide +kernel, rfl, by decide +kernel, by decide +kernel⟩
abbrev s__law_edges : Stmt := top 24
abbrev N__law_edges : List Str := ["_law_level", "_law_found", "_law_c", "_law_g", "_law_x", "_law_many"]
theorem sc__law_edges : FnScope N__law_edges ["_law_level"] (defScope s__law_edges) := ⟨rfl, rfl, rfl, by decide +kernel, rfl, by decide +kernel, by decide +kernel⟩
abbrev s__law_points : Stmt := top 25
abbrev N__law_points : List Str := ["_law_level", "_law_x", "_law_units", "_law_found", "_law_many", "_law_a", "_law_b", "_law_unit"]
theorem sc__law_points : FnScope N__law_points ["_law_level"] (defScope s__law_points) := ⟨rfl, rfl, rfl, by decide +kernel, rfl, by decide +kernel, by decide +kernel⟩
abbrev s__law_rounds : Stmt := top 26
abbrev N__law_rounds : List Str := ["_law_level", "_law_points_here", "_law_met", "_law_found", "_law_a", "_law_b", "_law_size", "_law_place"]
theorem sc__law_rounds : FnScope N__law_rounds ["_law_level", "_law_points_here"] (defScope s__law_rounds) := ⟨rfl, rfl, rfl, by decide +kernel, rfl, by decide +kernel, by decide +kernel⟩
abbrev s__law_is_counted_right : Stmt := top 27
abbrev N__law_is_counted_right : List Str := ["_law_level", "_law_points_here", "_law_many", "_law_rounds_here", "_law_due", "_law_c", "_law_d", "_law_size", "_law_sizes"]
theorem sc__law_is_counted_right : FnScope N__law_is_counted_right ["_law_level"] (defScope s__law_is_counted_right) := ⟨rfl, rfl, rfl, by decide +kernel, rfl, by decide +kernel, by decide +kernel⟩
abbrev s__law_is_told_right : Stmt := top 28
abbrev N__law_is_told_right : List Str := ["_law_level", "_law_due", "_law_index", "_law_rest", "_law_p", "_law_c", "_law_many", "_law_width"]
theorem sc__law_is_told_right : FnScope N__law_is_told_right ["_law_level"] (defScope s__law_is_told_right) := ⟨rfl, rfl, rfl, by decide +kernel, rfl, by decide +kernel, by decide +kernel⟩
abbrev s_law : Stmt := top 29
abbrev N_law : List Str := ["_law_script", "_law_deck_here", "_law_small", "_law_one", "_law_other", "_law_level", "_law_due", "_law_c", "_law_many", "_law_width", "_law_d", "_law_more", "_law_far", "_law_both"]
theorem sc_law : FnScope N_law ["_law_script"] (defScope s_law) := ⟨rfl, rfl, rfl, by decide +kernel, rfl, by decide +kernel, by decide +kernel⟩
end Ft

/-! Defs that are called where no repr is under way (A.guards = some []): their texts may say repr of a list or a tuple. -/
namespace Ft
open PySem L2 PySem.Spec PyProof.Rows

structure FnG (P : Program) (w : World) (K : PySem.W.Frag) (mg : Str → Option Value) (base : Heap) (k : Nat) (f : Addr) (fd : FuncData) (ps : List Str) (sp : Sp) : Prop where
  len : ∀ vs H Q E, sp vs H Q E → vs.length = ps.length
  go : ∀ (A : Around) (outer : List Env) (s : Shared) (H : Hp) (args : Args) (us : List Value) (vs : List V) (Q : VK) (E : XK), A.guards = some [] → Room k A →
    Env0 P w K mg base A outer s H → BindsTo s fd args (ps.zip us) → Vals vs us → sp vs H Q E → codeAny (model P w) A (.call (.ref f) args) (CR CX0 outer P w H s Q E) s
theorem FnG.of {P : Program} {w : World} {K : PySem.W.Frag} {mg : Str → Option Value} {base : Heap} {k : Nat} {f : Addr} {fd : FuncData} {ps : List Str} {sp : Sp} (F : FnOk P w K mg base CX0 k f fd ps sp) : FnG P w K mg base k f fd ps sp :=
  ⟨F.len, fun A outer s H args us vs Q E _ => F.run A outer s H args us vs Q E⟩
/-- what may be called for, where no repr is under way -/
structure CalG (P : Program) (w : World) (K : PySem.W.Frag) (mg : Str → Option Value) (base : Heap) (k : Nat) (x : Str) (sp : Sp) : Prop where
  ex : ∃ (f : Addr) (fd : FuncData) (ps : List Str), FnG P w K mg base k f fd ps sp ∧ mg x = some (.ref f) ∧ PySem.W.keepIn K (.ref f) = true ∧ Binds K fd ps []
section
variable {X : Cx} {k j : Nat} {x : Str} {sp : Sp} {p pos : Pos} {e : Expr} {es : List Expr} {t : TA}
theorem pe_g (c : CalG X.prog X.w X.K X.mg X.base k x sp) (hgd : X.A.guards = some []) (hr : Room j X.A) (hk : k ≤ j) (hg : Gl X x) (ha : PA X (e :: es) t)
    (hdb : (x == ("__debug__" : Str)) = false := by decide) (he : starEach (e :: es) X.env = (false, eval e X.env) :: starEach es X.env := by rfl) (hpl : (backTo pos (starEach es X.env)).any (·.1) = false := by rfl) :
    PE X (.Call (.Name x p) (e :: es) [] pos) (tCall sp [] E0 t) := by
  obtain ⟨f, fd, ps, F, hm, kp, b⟩ := c.ex
  refine ⟨fun pins s σ H Q I h => wpAny_Call_Name_kw (ld_glob I hg hm ?_ hdb)⟩
  refine PySem.W.callWith_K (h₀ := X.base) I.ok.mod.kin kp (thn (ha.run pos pins s σ H _ I h) fun us s1 ⟨vs, H1, I1, rv, q1⟩ => ⟨I1.kIn, ?_⟩) he hpl
  have rv' : Vals (vs ++ []) us := by rw [List.append_nil]; exact rv
  have hl : us.length = ps.length := by
    have z := F.len _ _ _ _ q1
    rw [rv'.length] at z
    exact z
  have bd := b s1 us I1.kIn (by rw [List.append_nil]; exact hl)
  rw [List.append_nil] at bd
  refine wpAny_call (codeAny_mono (F.go X.A X.stack s1 H1 ⟨us, []⟩ us (vs ++ []) Q E0 hgd (hr.mono hk) I1.env0 bd rv' q1) fun r s2 hq => ?_)
  match r, hq with
  | .error _, hq => exact (hq : False).elim
  | .ok (.ret _), hq => exact I1.after hq
  | .ok .next, hq => exact (hq : False).elim
  | .ok .brk, hq => exact (hq : False).elim
  | .ok .cont, hq => exact (hq : False).elim
end
/-- a def by its body, where no repr is under way -/
theorem fun_g {P : Program} {w : World} {K : PySem.W.Frag} {mg : Str → Option Value} {base : Heap} {x qual : Str} {st : Stmt} {f : Addr} {fd : FuncData} {N ps : List Str} {k : Nat} {sp : Sp} (F : Fun K x qual st f fd) (S : FnScope N ps (defScope st))
    (len : ∀ vs H Q E, sp vs H Q E → vs.length = ps.length)
    (body : ∀ (cdv : Value) (A : Around) (outer : List Env) (s : Shared) (H : Hp) (vs : List V) (Q : VK) (E : XK), (A.deeper (envOfC qual (defScope st) s.heap.objs.size f cdv)).guards = some [] →
      Room k (A.deeper (envOfC qual (defScope st) s.heap.objs.size f cdv)) → sp vs H Q E →
      ∃ t, PSs (cxOf CX0 P w K mg base N qual (defScope st) f cdv A outer s H E).nox (defBody st) t ∧ t { nx := fun _ H' => Q .non H', rt := Q } (start N vs) H) : FnG P w K mg base (k + 1) f fd ps sp := by
  obtain ⟨oc, od, kV, doc, pm, an, cdv, ct, osl, rfl, lk, hcd⟩ := F.ex
  refine ⟨len, fun A outer s H args us vs Q E hgd hr e0 hb rv hsp => ?_⟩
  have inK : K.In s.heap := e0.mod.kin.keeps fun b o e => (e0.bs b o e).1
  have noL : s.heap.NoLimit := e0.mod.nolimit.keeps fun b o e => (e0.bs b o e).1
  have kinds : ∀ y ∈ ps.zip us, (defScope st).names.lookup y.1 = some .local ∨ ((defScope st).names.lookup y.1 = some .cell ∧ ((cellsFrom (s.heap.objs.size + 1) (defScope st).names []).lookup y.1).isSome = true) := by
    intro y hy
    rcases S.par y.1 (List.of_mem_zip hy).1 with q | q
    · exact .inl q
    · exact .inr ⟨q, PySem.W.cellsFrom_some _ _ _ (.inl q)⟩
  refine codeAny_call_function hr.depth (inK _ _ lk) rfl S.co S.gen rfl (PySem.W.codeRec_of inK hcd) (hb _ _ _ _ ?_)
  refine wpAny_newFunctionEnv_cells S.kind kinds fun env he s1 made => ?_
  subst he
  refine ⟨noL.keeps made.toInCall.keep, codeAny_func ?_⟩
  obtain ⟨t, ht, hq⟩ := body cdv A outer s H vs Q E hgd (hr.deeper _) hsp
  have J0 : Inv (cxOf CX0 P w K mg base N qual (defScope st) f cdv A outer s H E) [] (start N vs) H s1 := inv_start S hr.hd e0 (len _ _ _ _ hsp) rv made
  refine wpAny_mono (ht.nox.run [] s1 (start N vs) H _ J0 hq) (fun fl s' hs => ?_) fun _ _ hs => hs
  match fl, hs with
  | .ret u, hs =>
    obtain ⟨v, σ', H', J, rv', q⟩ := hs
    exact ⟨v, H', J.os, J.bare, J.base, J.hok, rv', q⟩
  | .next, hs =>
    obtain ⟨σ', H', J, q⟩ := hs
    exact ⟨V.non, H', J.os, J.bare, J.base, J.hok, rfl, q⟩
  | .brk, hs => exact (hs.choose_spec.choose_spec.2 : False).elim
  | .cont, hs => exact (hs.choose_spec.choose_spec.2 : False).elim
end Ft

/-! The law's call, from a promise that holds where no repr is under way. -/
namespace Ft
open PySem L2 PySem.Spec PyProof.Rows

/-- the heap behind the top, seen with the script tracked (or nothing) -/
theorem call_of {P : Program} {w : World} {K : PySem.W.Frag} {mg mb : Str → Option Value} {k : Nat} {fa a : Addr} {fd : FuncData} {x : Str} {sp : Sp} {s1 : Shared} {vs : List Value} {H : Hp}
    (inK : K.In s1.heap) (hns : s1.heap.Ns mainGlobals mg) (hb : s1.heap.Ns builtinsNs mb) (hbb : ∀ x : Str, x ≠ "__name__" → mb x = bootBuiltins x) (hlim : s1.heap.NoLimit) (hg : s1.gens = #[])
    (ha : s1.heap.get? a = some { cls := .type "list", data := .seq vs.toArray }) (hr : Room k callerA)
    (F : ∀ base : Heap, K.In base → base.Ns mainGlobals mg → FnG P w K mg base k fa fd [x] sp) (hbind : ∀ (s : Shared) (u : Value), BindsTo s fd ⟨[u], []⟩ [(x, u)])
    (hO : Only H) (hp : sp [.ref a] H (fun v _ => v = .bl true) fun _ _ _ => False) (hok : HOk P w H s1.heap) (only : ∀ b, H b ≠ none → b = a) (notK : H a ≠ none → K.lookup a = none) :
    codeAny (model P w) callerA (.call (.ref fa) ⟨[.ref a], []⟩) (fun r s2 => r = .ok (.ret (.bool true)) ∧ OldK s1.heap s2.heap ∧ s2.os = s1.os ∧ AllBare s2.gens) s1 := by
  have below : ∀ {b : Addr} {o : Obj}, s1.heap.get? b = some o → H b = none → (hidT s1.heap H).get? b = some o := fun e n => hidT_get e n
  have dictFree : ∀ {b : Addr} {o : Obj} {es : Array DictEntry} {ep : Nat}, s1.heap.get? b = some o → o.data = .dict es ep → H b = none := by
    intro b o es ep e d
    cases q : H b with
    | none => rfl
    | some z =>
      obtain rfl : b = a := only b (fun n => by rw [n] at q; cases q)
      rw [ha] at e
      cases e
      exact absurd (show Data.seq vs.toArray _ = Data.dict es ep from d) (fun z => by cases z)
  have spaces : ∀ {b : Addr} {m : Str → Option Value}, s1.heap.Ns b m → (hidT s1.heap H).Ns b m := fun {b m} ⟨o, es, ep, e, d, r⟩ => ⟨o, es, ep, below e (dictFree e d), d, r⟩
  have inB : K.In (hidT s1.heap H) := by
    intro b o e
    refine below (inK b o e) ?_
    cases q : H b with
    | none => rfl
    | some z =>
      have nz : H b ≠ none := fun n => by rw [n] at q; cases q
      obtain rfl : b = a := only b nz
      rw [notK nz] at e
      cases e
  have hM : Mod K mg (hidT s1.heap H) := ⟨inB, spaces hns, ⟨mb, spaces hb, hbb⟩, hlim.elim fun mc z => ⟨mc, spaces z.1, z.2⟩⟩
  have noFr : ∀ b ∈ frs ([] : List Env), H b = none := fun b z => absurd (show b ∈ ([] : List Addr) from z) List.not_mem_nil
  have e0 : Env0 P w K mg (hidT s1.heap H) callerA [] s1 H := ⟨rfl, hM, fun b o e => of_hidT e, Nat.le_of_eq (hidT_size _ _), trivial, noFr, hok, .of_eq hg⟩
  refine codeAny_mono ((F _ inB (spaces hns)).go callerA [] s1 H ⟨[.ref a], []⟩ [.ref a] [.ref a] _ _ rfl hr e0 (hbind s1 (.ref a)) (.cons rfl .nil) hp) fun r s2 h => ?_
  match r, h with
  | .error _, h => exact (h : False).elim
  | .ok .next, h => exact (h : False).elim
  | .ok .brk, h => exact (h : False).elim
  | .ok .cont, h => exact (h : False).elim
  | .ok (.ret u), h =>
    obtain ⟨v, H2, os, bare, un, hok2, rv, q⟩ := h
    obtain rfl : v = .bl true := q
    obtain rfl : u = Value.bool true := rv
    refine ⟨rfl, OldK.of_keep fun b o e => ?_, os, bare⟩
    cases q : H b with
    | none => exact un.keep b o e q (fun z => absurd (show b ∈ ([] : List Addr) from z) List.not_mem_nil) List.not_mem_nil
    | some z =>
      rcases hO b with n | ⟨ob, xs, y⟩
      · rw [q] at n; cases n
      · have k1 := (hok b _ y).1
        have k2 := (hok2 b _ (un.frzs b ob _ y)).1
        rw [e] at k1
        cases k1
        exact k2
/-- what k_head leaves, from the law's promise -/
theorem walk_g {l : PySem.W.OpenLaw} {n k : Nat} {q : Program} {loose : List Str} {XP : (Str → Option Value) → Heap → Prop} {YP : World → Heap → Prop} {d : DefRec} {K : Params → PySem.W.Frag} {sp : PySem.W.Frag → Sp} {x : Str}
    (hn : l.most = some n) (hn2 : n ≤ sizeLine) (hdf : d.params.defaults = []) (hr : Room k callerA)
    (hY : ∀ (w : World) (h : Heap), YP w h → (K w.params).In h)
    (F : ∀ (w : World) (mg : Str → Option Value) (fa : Addr) (h : Heap), (K w.params).In h → h.Ns mainGlobals mg → mg d.name = some (.ref fa) →
      ∃ fd : FuncData, (∀ (s : Shared) (u : Value), BindsTo s fd ⟨[u], []⟩ [(x, u)]) ∧
        ∀ base : Heap, (K w.params).In base → base.Ns mainGlobals mg → FnG l.prog w (K w.params) mg base k fa fd [x] (sp (K w.params)))
    (hsp : ∀ (K : PySem.W.Frag) (H : Hp) (a : Addr) (ns : List Int), ns.length ≤ n → SqL K H a (ns.map V.int) → sp K [.ref a] H (fun v _ => v = .bl true) fun _ _ _ => False) :
    PySem.W.WalkO q loose XP YP l.row.toRowW d [] (fun f vs => PySem.call f vs) := by
  refine Att.attach_call hn hdf fun w s0 s1 mg mb fa o pm cd doc a vs ns G Y ho hd hcd hmg hobj hints hlen hg => ?_
  have inK := hY w _ Y
  obtain ⟨fd, hb, hF⟩ := F w mg fa _ inK G.T.g hmg
  have rv := vals_ints hints
  have lv := hints.length
  have main := fun (H : Hp) (hO : Only H) (hS : SqL (K w.params) H a (ns.map V.int)) => call_of (H := H) inK G.T.g G.T.b G.T.builtins G.T.nolimit hg hobj hr hF hb hO (hsp (K w.params) H a ns hlen hS)
  cases hk : (K w.params).lookup a with
  | some ob =>
    have e := inK a ob hk
    rw [hobj] at e
    cases e
    have none_ : ∀ {b : Addr} {z : HO}, (fun _ => none : Hp) b = some z → False := fun z => by cases z
    exact main (fun _ => none) (fun _ => .inl rfl) (.inr ⟨_, vs.toArray, _, hk, rfl, rfl, rfl, by rw [List.size_toArray, lv]; exact Nat.le_trans hlen hn2, by simpa using rv⟩) (fun b z y => (none_ (b := b) y).elim) (fun b z => absurd rfl z) fun z => absurd rfl z
  | none =>
    let ob : Obj := { cls := .type "list", data := .seq vs.toArray }
    have at_a : ∀ {b : Addr}, b = a → (fun b => if b = a then some (HO.frz ob (.lst (ns.map V.int))) else none : Hp) b = some (.frz ob (.lst (ns.map V.int))) := fun h => if_pos h
    have off_a : ∀ {b : Addr}, ¬ b = a → (fun b => if b = a then some (HO.frz ob (.lst (ns.map V.int))) else none : Hp) b = none := fun h => if_neg h
    refine main (fun b => if b = a then some (.frz ob (.lst (ns.map V.int))) else none) (fun b => ?_) (.inl (.inr ⟨ob, at_a rfl⟩)) (fun b u z => ?_) (fun b z => ?_) fun _ => hk
    · exact (Decidable.em (b = a)).elim (fun h => .inr ⟨_, _, at_a h⟩) fun h => .inl (off_a h)
    · by_cases h : b = a
      · have y := (at_a h).symm.trans z
        cases y
        subst h
        exact ⟨hobj, by rw [List.length_map]; exact Nat.le_trans hlen hn2, vs, _, rv, hobj⟩
      · exact absurd ((off_a h).symm.trans z) (fun y => by cases y)
    · exact (Decidable.em (b = a)).elim id fun h => absurd (off_a h) z
end Ft

/-! repr of data; the deck of draws -/
namespace Ft
open PySem L2 PySem.Spec PyProof.Rows

def rRepr (K : PySem.W.Frag) : List V → Hp → VK → Prop := fun xs H Q => ∃ a d, xs = [.ref a] ∧ Dp K H (.ref a) d ∧ d.showable = true ∧ d.hasDict = false ∧ d.depth ≤ 64 ∧ d.shown.length ≤ sizeLine ∧ Q (.str d.shown) H
theorem call_repr {X : Cx} {k : Nat} (hgd : X.A.guards = some []) (hr : Room k X.A) : CallR X (.builtin "repr") (rRepr X.K) := by
  intro pins s σ H xs us Q I r h
  obtain ⟨a, d, rfl, hd, h1, h2, h3, h4, q⟩ := h
  obtain ⟨u, rfl, rx⟩ := vals1 r
  obtain ⟨as, rd⟩ := Dp.reads I d (.ref a) u hd rx
  obtain rfl : u = Value.ref a := rx
  exact repr_of_reads' rd h1 (fun z => by rw [h2] at z; cases z) hgd (by have := hr.un; omega) (fun _ _ e => e) (fun h' u tk kept => ⟨.str d.shown, H, I.kept kept, ⟨_, rfl⟩, q⟩) h4

/-! ### the deck -/
def kCells : Key := .inr "left"
def kMixed : Key := .inr "mixed"
def kDraws : Key := .inr "draws"
theorem ncm : ¬ kCells = kMixed := by decide +kernel
theorem ncd : ¬ kCells = kDraws := by decide +kernel
theorem nmd : ¬ kMixed = kDraws := by decide +kernel
theorem nmc : ¬ kMixed = kCells := by decide +kernel
theorem ndc : ¬ kDraws = kCells := by decide +kernel
def deckL (l : Addr) (mx dr : Int) : List (Key × V) := [(kCells, .ref l), (kMixed, .int mx), (kDraws, .int dr)]
theorem deck_cells {l : Addr} {mx dr : Int} : valV (deckL l mx dr) kCells = some (.ref l) := valV_pos rfl
theorem deck_mixed {l : Addr} {mx dr : Int} : valV (deckL l mx dr) kMixed = some (.int mx) := by
  unfold deckL
  rw [valV_neg ncm]
  exact valV_pos rfl
theorem deck_draws {l : Addr} {mx dr : Int} : valV (deckL l mx dr) kDraws = some (.int dr) := by
  unfold deckL
  rw [valV_neg ncd, valV_neg nmd]
  exact valV_pos rfl
theorem deck_put {l : Addr} {mx dr z : Int} : putK (deckL l mx dr) kDraws (.int z) = deckL l mx z := by
  unfold putK deckL
  rw [if_pos (by simp)]
  simp only [List.map_cons, List.map_nil, if_neg ncd, if_neg nmd, if_true]
/-- a deck at d, its list at l -/
def DeckAt (H : Hp) (d l : Addr) : Prop := ∃ (mx dr : Int) (cs : List Int), H d = some (.dK (deckL l mx dr)) ∧ H l = some (.lst (cs.map V.int)) ∧ cs.length ≤ 63
/-- all that was tracked is as it was, but at d and l -/
def But (d l : Addr) (H H' : Hp) : Prop := ∀ b o, H b = some o → b ≠ d → b ≠ l → H' b = some o
theorem But.refl {d l : Addr} {H : Hp} : But d l H H := fun _ _ h _ _ => h
theorem But.trans {d l : Addr} {H H1 H2 : Hp} (a : But d l H H1) (b : But d l H1 H2) : But d l H H2 := fun c o h h1 h2 => b c o (a c o h h1 h2) h1 h2
theorem But.of {d l : Addr} {H H' : Hp} (s : Same H H') : But d l H H' := fun b o h _ _ => s b o h
theorem Same.upd_new {H : Hp} {p : Addr} {o : HO} (h : H p = none) : Same H (upd H p o) := fun b u e => by rw [upd_ne (ne_of_none e h)]; exact e
theorem DeckAt.same {H H' : Hp} {d l : Addr} (D : DeckAt H d l) (s : Same H H') : DeckAt H' d l := by
  obtain ⟨mx, dr, cs, h1, h2, h3⟩ := D
  exact ⟨mx, dr, cs, s _ _ h1, s _ _ h2, h3⟩
theorem DeckAt.ne {H : Hp} {d l : Addr} (D : DeckAt H d l) : d ≠ l := by
  obtain ⟨mx, dr, cs, h1, h2, h3⟩ := D
  exact ne_of h1 h2 (by intro z; cases z)
/-- a new address is neither -/
theorem DeckAt.new {H : Hp} {d l p : Addr} (D : DeckAt H d l) (h : H p = none) : p ≠ d ∧ p ≠ l := by
  obtain ⟨mx, dr, cs, h1, h2, h3⟩ := D
  exact ⟨fun e => (by rw [e, h1] at h; cases h), fun e => (by rw [e, h2] at h; cases h)⟩
/-- draws: from 0 to below many; the deck stays a deck, all else stays -/
def sp_draw : Sp := fun vs H Q _ => ∃ (d l : Addr) (n : Int), vs = [.ref d, .int n] ∧ DeckAt H d l ∧ 0 < n ∧ n < 2 ^ 64 ∧ ∀ (H' : Hp) (r : Int), DeckAt H' d l → But d l H H' → 0 ≤ r → r < n → Q (.int r) H'
theorem sp_draw_len : ∀ vs H Q E, sp_draw vs H Q E → vs.length = 2 := fun _ _ _ _ ⟨_, _, _, e, _⟩ => by rw [e]; rfl
theorem dp_ints {K : PySem.W.Frag} {H : Hp} : ∀ ns : List Int, DpAll K H (ns.map V.int) (ns.map PyData.int)
  | [] => .nil
  | n :: ns => .cons (.int n) (dp_ints ns)
theorem eqv_nil : ∀ ds : List PyData, PyData.eqv (.list ds) (.list []) = ds.isEmpty
  | [] => rfl
  | _ :: _ => rfl
theorem deck_merge {l : Addr} {mx dr : Int} : mergeK [] (deckL l mx dr) = deckL l mx dr := by
  unfold mergeK deckL
  simp only [List.foldl_cons, List.foldl_nil]
  have h1 : putK ([] : List (Key × V)) kCells (.ref l) = [(kCells, V.ref l)] := rfl
  rw [h1]
  have h2 : putK [(kCells, V.ref l)] kMixed (.int mx) = [(kCells, V.ref l), (kMixed, V.int mx)] := putK_new _ (by rw [valV_neg ncm]; rfl)
  rw [h2]
  exact putK_new _ (by rw [valV_neg ncd, valV_neg nmd]; rfl)
/-- a slice of ints is one -/
theorem cut_ints (ns : List Int) (lo hi : Option Int) : ∃ ms : List Int, cutV (ns.map V.int) lo hi = ms.map V.int ∧ ms.length ≤ ns.length := by
  have hl := cutV_length (ns.map V.int) lo hi
  rw [List.length_map] at hl
  have h : cutV (ns.map V.int) lo hi = ((ns.drop (HT.sIx (ns.map V.int).length 0 lo)).take (HT.sIx (ns.map V.int).length (ns.map V.int).length hi - HT.sIx (ns.map V.int).length 0 lo)).map V.int := by
    unfold cutV
    rw [List.map_take, List.map_drop]
  refine ⟨_, h, ?_⟩
  rw [h, List.length_map] at hl
  exact hl
theorem int_at {ns : List Int} {i : Nat} {v : V} (h : (ns.map V.int)[i]? = some v) : ∃ z, v = .int z ∧ ns[i]? = some z := by
  rw [List.getElem?_map] at h
  cases e : ns[i]? with
  | none => rw [e] at h; cases h
  | some z => rw [e] at h; exact ⟨z, (Option.some.inj h).symm, rfl⟩
def sp_deck (K : PySem.W.Frag) : Sp := fun vs H Q _ => ∃ (a : Addr) (ns : List Int), vs = [.ref a] ∧ SqL K H a (ns.map V.int) ∧ ns.length ≤ 63 ∧ ∀ (H' : Hp) (d l : Addr), DeckAt H' d l → Same H H' → H d = none → H l = none → Q (.ref d) H'
theorem sp_deck_len {K : PySem.W.Frag} : ∀ vs H Q E, sp_deck K vs H Q E → vs.length = 1 := fun _ _ _ _ ⟨_, _, e, _⟩ => by rw [e]; rfl
/-- an item of a list that stands -/
def sp_pick (K : PySem.W.Frag) : Sp := fun vs H Q _ => ∃ (d l p : Addr) (xs : List V), vs = [.ref d, .ref p] ∧ DeckAt H d l ∧ (H p = some (.lst xs) ∧ p ≠ l ∨ H p = some (.tup xs)) ∧ 0 < xs.length ∧ xs.length < 2 ^ 64 ∧
  ∀ (H' : Hp) (v : V), DeckAt H' d l → But d l H H' → v ∈ xs → Q v H'
theorem sp_pick_len {K : PySem.W.Frag} : ∀ vs H Q E, sp_pick K vs H Q E → vs.length = 2 := fun _ _ _ _ ⟨_, _, _, _, e, _⟩ => by rw [e]; rfl
end Ft

namespace Ft
open PySem L2

/-! ### the mirror of the program's defs -/
def valueTwo (s : Int) : Int := if s % 2 = 0 then 0 else if s % 8 = 1 then 1 else -1
/-- a sign as an int: true is 1 -/
def sg (v : Bool) : Int := if v = true then 1 else -1
def halve (b : Nat) : Nat → Nat → Bool → Nat × Bool
  | 0, t, v => (t, v)
  | f + 1, t, v => if t % 2 = 0 then halve b f (t / 2) (if b % 8 = 3 ∨ b % 8 = 5 then !v else v) else (t, v)
def jac : Nat → Nat → Nat → Bool → Nat × Bool
  | 0, _, b, v => (b, v)
  | f + 1, t, b, v => if t = 0 then (b, v) else
    let r := halve b t t v
    jac f (b % r.1) r.1 (if r.1 % 4 = 3 ∧ b % 4 = 3 then !r.2 else r.2)
def valueOdd (top : Int) (b : Nat) : Int :=
  let r := jac b (top % (b : Int)).toNat b true
  if r.1 = 1 then sg r.2 else 0
def twos (z : Int) : Nat → Nat → Int → Nat × Int
  | 0, r, v => (r, v)
  | f + 1, r, v => if r % 2 = 0 then twos z f (r / 2) (v * z) else (r, v)
def valueRest (s : Int) (r : Nat) : Int :=
  if r = 0 then (if s = 1 then 1 else 0) else
    let q := twos (valueTwo s) r r 1
    q.2 * valueOdd s q.1
def valueAt (s n : Int) : Int := valueRest s (n % (s.natAbs : Int)).toNat
def sqs (p : Nat) : Nat → Nat → Nat
  | 0, r => r
  | f + 1, r => if r % (p * p) = 0 then sqs p f (r / (p * p)) else r
def wsq : Nat → Nat → Int → Nat → Nat × Int
  | 0, r, b, _ => (r, b)
  | f + 1, r, b, p => if p * p * p ≤ r then
      let r1 := sqs p r r
      if r1 % p = 0 then wsq f (r1 / p) (b * p) (p + 1) else wsq f r1 b (p + 1)
    else (r, b)
def without (m : Int) : Int :=
  let q := wsq m.natAbs m.natAbs (if 0 < m then 1 else -1) 2
  if Float64.isqrt q.1 * Float64.isqrt q.1 = q.1 then q.2 else q.2 * q.1
def anySign (m : Int) : Int := if without m % 4 = 1 then without m else 4 * without m
def isSign (n : Int) : Bool := decide (-400 ≤ n) && (decide (n ≤ 400) && (decide (n ≠ 0) && decide (anySign n = n)))

/-! ### promises -/
def sp1 (C : Int → Prop) (g : Int → V) : Sp := fun vs H Q _ => ∃ n, vs = [.int n] ∧ C n ∧ Q (g n) H
def sp2 (C : Int → Int → Prop) (g : Int → Int → V) : Sp := fun vs H Q _ => ∃ m n, vs = [.int m, .int n] ∧ C m n ∧ Q (g m n) H
def sp3 (C : Int → Int → Int → Prop) (g : Int → Int → Int → V) : Sp := fun vs H Q _ => ∃ l m n, vs = [.int l, .int m, .int n] ∧ C l m n ∧ Q (g l m n) H
theorem sp1_len {C g} : ∀ vs H Q E, sp1 C g vs H Q E → vs.length = 1 := fun _ _ _ _ ⟨_, e, _⟩ => by rw [e]; rfl
theorem sp2_len {C g} : ∀ vs H Q E, sp2 C g vs H Q E → vs.length = 2 := fun _ _ _ _ ⟨_, _, e, _⟩ => by rw [e]; rfl
theorem sp3_len {C g} : ∀ vs H Q E, sp3 C g vs H Q E → vs.length = 3 := fun _ _ _ _ ⟨_, _, _, e, _⟩ => by rw [e]; rfl
def sp_is_integer : Sp := sp1 (fun _ => True) fun _ => .bl true
def sp_is_between : Sp := sp3 (fun _ _ _ => True) fun n a b => .bl (decide (a ≤ n) && decide (n ≤ b))
def sp_check_integer : Sp := sp1 (fun _ => True) fun _ => .non
def sp_is_sign : Sp := sp1 (fun _ => True) fun n => .bl (isSign n)
def sp_check_sign : Sp := sp1 (fun n => isSign n = true) fun _ => .non
def sp_value_at_two : Sp := sp1 (fun _ => True) fun n => .int (valueTwo n)
def sp_value_at_odd : Sp := sp2 (fun _ b => 0 < b) fun t b => .int (valueOdd t b.toNat)
def sp_value_at : Sp := sp2 (fun s _ => s ≠ 0) fun s n => .int (valueAt s n)
def sp_sign_at : Sp := sp2 (fun s _ => isSign s = true) fun s n => .int (valueAt s n)
def sp_without_squares : Sp := sp1 (fun m => m ≠ 0 ∧ m.natAbs ≤ 160000) fun m => .int (without m)
def sp_any_sign_of : Sp := sp1 (fun m => m ≠ 0 ∧ m.natAbs ≤ 160000) fun m => .int (anySign m)
def sp_joined_sign : Sp := sp2 (fun a b => isSign a = true ∧ isSign b = true) fun a b => .int (anySign (a * b))

section
variable {P : Program} {w : World} {K : PySem.W.Frag} {mg : Str → Option Value} {base : Heap}
theorem ok_is_integer (D : Df K mg "is_integer" s_is_integer ["thing"]) (B : Bi mg)  : Cal P w K mg base 1 "is_integer" sp_is_integer := by
  obtain ⟨f, fd, F, m, b⟩ := D.ex
  have sc := sc_is_integer
  refine ⟨f, fd, _, F.ok sc sp1_len (fun cdv A outer s H vs Q E hr h => ?_), m, F.kp, b⟩
  obtain ⟨n, rfl, _, q⟩ := h
  have hu := hu_of hr
  refine ⟨_, (pss_one (ps_ret (pe_and (pe_callB call_isi (by rfl) B.isinstance (by decide +kernel) (pa_cons (pv 0) (pa_cons (pe_ty (n := "int") (by rfl) B.int_ (by decide +kernel)) pa_nil))) (pe_one (pe_not (pe_callB call_isi (by rfl) B.isinstance (by decide +kernel) (pa_cons (pv 0) (pa_cons (pe_ty (n := "bool") (by rfl) B.bool (by decide +kernel)) pa_nil)))))))), ?_⟩
  refine ⟨_, rfl, _, _, _, _, true, rfl, .ty _, .base (.int n), kit_int_int, true, rfl, iteT ?_⟩
  refine ⟨_, rfl, _, _, _, _, false, rfl, .ty _, .base (.int n), kit_int_bool, false, rfl, ?_⟩
  exact q
theorem ok_is_between (D : Df K mg "is_between" s_is_between ["thing", "least", "most"]) (c_is_integer : Cal P w K mg base 1 "is_integer" sp_is_integer) : Cal P w K mg base 2 "is_between" sp_is_between := by
  obtain ⟨f, fd, F, m, b⟩ := D.ex
  have sc := sc_is_between
  refine ⟨f, fd, _, F.ok sc sp3_len (fun cdv A outer s H vs Q E hr h => ?_), m, F.kp, b⟩
  obtain ⟨n, lo, hi, rfl, _, q⟩ := h
  have hu := hu_of hr
  refine ⟨_, (pss_one (ps_ret (pe_and (pe_c c_is_integer hr (by decide) (by rfl) (pa_cons (pv 0) pa_nil)) (pe_one (pe_chain op_le op_le (pv 1) (pv 0) (pv 2)))))), ?_⟩
  refine ⟨_, rfl, n, rfl, trivial, true, rfl, iteT ?_⟩
  refine ⟨_, rfl, _, rfl, lo, n, rfl, rfl, _, rfl, ?_⟩
  refine ifD (fun h => ?_) fun h => ?_
  · refine ⟨_, rfl, n, hi, rfl, rfl, ?_⟩
    simp only [decide_eq_true h, Bool.true_and] at q
    exact q
  · simp only [decide_eq_false h, Bool.false_and] at q
    exact q
end
end Ft

namespace Ft
open PySem L2
theorem sg_not (v : Bool) : -(sg v) = sg (!v) := by cases v <;> decide
theorem sg_true : sg true = 1 := by decide
/-- the int in slot i, as a measure -/
def m0 (i : Nat) (σ : L2.St) : Nat := match σ[i]? with
  | some (some (.int z)) => z.toNat
  | _ => 0
theorem st3 {a b c a' b' c' : Int} (h1 : a = a') (h2 : b = b') (h3 : c = c') : [some (V.int a), some (V.int b), some (V.int c)] = [some (V.int a'), some (V.int b'), some (V.int c')] := by rw [h1, h2, h3]
theorem halve_go {b f t : Nat} {v : Bool} (h : t % 2 = 0) : halve b (f + 1) t v = halve b f (t / 2) (if b % 8 = 3 ∨ b % 8 = 5 then !v else v) := by
  show (if t % 2 = 0 then _ else _) = _
  rw [if_pos h]
theorem halve_stop {b f t : Nat} {v : Bool} (h : ¬ t % 2 = 0) : halve b f t v = (t, v) := by
  cases f with
  | zero => rfl
  | succ f => show (if t % 2 = 0 then _ else _) = _; rw [if_neg h]
theorem jac_stop {b f : Nat} {v : Bool} : jac f 0 b v = (b, v) := by
  cases f with
  | zero => rfl
  | succ f => show (if (0:Nat) = 0 then _ else _) = _; rw [if_pos rfl]
theorem jac_go {b f t t' : Nat} {v v' : Bool} (h : t ≠ 0) (e : halve b t t v = (t', v')) : jac (f + 1) t b v = jac f (b % t') t' (if t' % 4 = 3 ∧ b % 4 = 3 then !v' else v') := by
  show (if t = 0 then _ else _) = _
  rw [if_neg h]
  dsimp only
  rw [e]

section
variable {P : Program} {w : World} {K : PySem.W.Frag} {mg : Str → Option Value} {base : Heap}
end
end Ft

namespace Ft
open PySem L2
theorem st4 {a b c d a' b' c' d' : Int} (h1 : a = a') (h2 : b = b') (h3 : c = c') (h4 : d = d') : [some (V.int a), some (V.int b), some (V.int c), some (V.int d)] = [some (V.int a'), some (V.int b'), some (V.int c'), some (V.int d')] := by rw [h1, h2, h3, h4]
theorem cdivN {i : Int} {n : Nat} (h0 : 0 < n) (h : n < 2 ^ 64) : CDivW i (n : Int) := wide_div (b := 64) (by omega) (by omega) (by decide) (by decide)
theorem cmulL {i : Int} {n : Nat} (h : n < 2 ^ 64) : CMul (n : Int) i := .inl ⟨by omega, by omega⟩
theorem cmulR {i : Int} {n : Nat} (h : n < 2 ^ 64) : CMul i (n : Int) := .inr ⟨by omega, by omega⟩
theorem twos_go {z : Int} {f r : Nat} {v : Int} (h : r % 2 = 0) : twos z (f + 1) r v = twos z f (r / 2) (v * z) := by
  show (if r % 2 = 0 then _ else _) = _
  rw [if_pos h]
theorem twos_stop {z : Int} {f r : Nat} {v : Int} (h : ¬ r % 2 = 0) : twos z f r v = (r, v) := by
  cases f with
  | zero => rfl
  | succ f => show (if r % 2 = 0 then _ else _) = _; rw [if_neg h]
theorem valueTwo_le (s : Int) : -1 ≤ valueTwo s ∧ valueTwo s ≤ 1 := by
  unfold valueTwo
  split
  · omega
  · split <;> omega
theorem sqs_go {p f r : Nat} (h : r % (p * p) = 0) : sqs p (f + 1) r = sqs p f (r / (p * p)) := by
  show (if r % (p * p) = 0 then _ else _) = _
  rw [if_pos h]
theorem sqs_stop {p f r : Nat} (h : ¬ r % (p * p) = 0) : sqs p f r = r := by
  cases f with
  | zero => rfl
  | succ f => show (if r % (p * p) = 0 then _ else _) = _; rw [if_neg h]
theorem wsq_stop {f r p : Nat} {b : Int} (h : ¬ p * p * p ≤ r) : wsq f r b p = (r, b) := by
  cases f with
  | zero => rfl
  | succ f => show (if p * p * p ≤ r then _ else _) = _; rw [if_neg h]
theorem wsq_go1 {f r p r1 : Nat} {b : Int} (h : p * p * p ≤ r) (e : sqs p r r = r1) (h1 : r1 % p = 0) : wsq (f + 1) r b p = wsq f (r1 / p) (b * p) (p + 1) := by
  show (if p * p * p ≤ r then _ else _) = _
  rw [if_pos h]
  dsimp only
  rw [e, if_pos h1]
theorem wsq_go2 {f r p r1 : Nat} {b : Int} (h : p * p * p ≤ r) (e : sqs p r r = r1) (h1 : ¬ r1 % p = 0) : wsq (f + 1) r b p = wsq f r1 b (p + 1) := by
  show (if p * p * p ≤ r then _ else _) = _
  rw [if_pos h]
  dsimp only
  rw [e, if_neg h1]
theorem cube_le {p r : Nat} (h : p * p * p ≤ r) (hp : 2 ≤ p) : p < r := by
  have h1 : 2 * p ≤ p * p := Nat.mul_le_mul_right p hp
  have h2 : p * p * 2 ≤ p * p * p := Nat.mul_le_mul_left (p * p) hp
  omega
theorem div_small {r q : Nat} (h : r % q = 0) (hr : 0 < r) (hq : 2 ≤ q) : 0 < r / q ∧ r / q < r := by
  refine ⟨?_, Nat.div_lt_self hr hq⟩
  have e := Nat.div_add_mod r q
  rw [h, Nat.add_zero] at e
  refine Nat.pos_of_ne_zero fun z => ?_
  rw [z, Nat.mul_zero] at e
  omega
theorem sq_small {p : Nat} (h : p ≤ 160001) : p * p < 2 ^ 64 := Nat.lt_of_le_of_lt (Nat.mul_le_mul h h) (by decide)
theorem isqrt_le (n : Nat) : Float64.isqrt n ≤ n := by
  have h := (Float64.isqrt_spec n).1
  rcases Nat.eq_zero_or_pos (Float64.isqrt n) with z | z
  · omega
  · exact Nat.le_trans (Nat.le_mul_of_pos_left _ z) h

section
variable {P : Program} {w : World} {K : PySem.W.Frag} {mg : Str → Option Value} {base : Heap}
theorem isSign_le {z : Int} (h : isSign z = true) : z.natAbs ≤ 400 ∧ z ≠ 0 ∧ anySign z = z := by
  unfold isSign at h
  simp only [Bool.and_eq_true, decide_eq_true_eq] at h
  omega
theorem mul_le_160000 {a b : Int} (ha : a.natAbs ≤ 400) (hb : b.natAbs ≤ 400) : (a * b).natAbs ≤ 160000 := by
  rw [Int.natAbs_mul]
  exact Nat.mul_le_mul ha hb
end
end Ft

namespace Ft
open PySem L2
theorem canLay_ints : ∀ ns : List Int, PyData.canLayAll0 (ns.map PyData.int) = true
  | [] => rfl
  | n :: ns => by
    show (true && PyData.canLayAll0 (ns.map PyData.int)) = true
    rw [canLay_ints ns]
    rfl
theorem depth_ints : ∀ ns : List Int, PyData.depthAll (ns.map PyData.int) = 0
  | [] => rfl
  | n :: ns => by
    show max 0 (PyData.depthAll (ns.map PyData.int)) = 0
    rw [depth_ints ns]
    rfl
theorem shaped_ints (ns : List Int) : SeqAt.shaped (.list (ns.map PyData.int)) = true := by
  unfold SeqAt.shaped
  rw [show PyData.canLay0 (.list (ns.map PyData.int)) = true from canLay_ints ns, show PyData.depth (.list (ns.map PyData.int)) = 0 + 1 from by rw [← depth_ints ns]; rfl]
  rfl
section
variable {P : Program} {w : World} {K : PySem.W.Frag} {mg : Str → Option Value} {base : Heap}
theorem ok_draw (D : Df K mg "_law_draw" s__law_draw ["_law_deck_here", "_law_many"]) (B : Bi mg) : Cal P w K mg base 1 "_law_draw" sp_draw := by
  obtain ⟨f, fd, F, m, b⟩ := D.ex
  have sc := sc__law_draw
  refine ⟨f, fd, _, F.ok sc sp_draw_len (fun cdv A outer s H vs Q E hr h => ?_), m, F.kp, b⟩
  obtain ⟨d, l, n, rfl, DK, hn0, hn1, q⟩ := h
  have hu := hu_of hr
  have h64 : (A.deeper (PyProof.Rows.envOfC "_law_draw" (defScope s__law_draw) s.heap.objs.size f cdv)).units + 64 < cLine := by have := hr.un; omega
  refine ⟨_, (pss_cons (ps_dput hu (pv 0) pe_str (pe_op op_add (pe_dget hu (pv 0) pe_str (fun _ _ => rfl)) pe_int) rfl)
      (pss_cons (ps_set (i := 2) sc.nd rfl (Or.inl rfl) (pe_op op_add (pe_dget hu (pv 0) pe_str (fun _ _ => rfl)) (pe_op op_mul pe_int (pe_dget hu (pv 0) pe_str (fun _ _ => rfl)))))
      (pss_cons (ps_if (pt_cmpR (op_neD h64) (pe_dget hu (pv 0) pe_str (fun _ _ => rfl)) (pe_lst pa_nil) (nomark _))
      (pss_cons (ps_set (i := 3) sc.nd rfl (Or.inl rfl) (pe_bm0 PySem.F.plainAttrs_list PySem.F.slot_list_pop PySem.F.type_list_pop mt_pop (pe_dget hu (pv 0) pe_str (fun _ _ => rfl))))
        (pss_cons (ps_if (pt_cmpR op_ge (pv 3) (pe_op op_pow pe_int pe_int) (nomark _))
        (pss_cons (ps_expr (pe_bm PySem.F.plainAttrs_list PySem.F.slot_list_append PySem.F.type_list_append mt_append (pe_dget hu (pv 0) pe_str (fun _ _ => rfl)) (pa_cons (pe_op op_fdivW (pv 3) (pe_callB (call_max2 rfl) (by rfl) B.max_ (by decide +kernel) (pa_cons pe_int (pa_cons (pv 1) pa_nil)))) pa_nil)))
          (pss_one (ps_ret (pe_op op_mod (pe_callTy call_int1 (by rfl) B.int_ (by decide +kernel) (pa_cons (pv 3) pa_nil)) (pv 1)))))
        pss_nil)
        (pss_one (ps_set (i := 2) sc.nd rfl (Or.inl rfl) (pe_op op_add (pv 2) (pe_op op_mod (pe_callTy call_int1 (by rfl) B.int_ (by decide +kernel) (pa_cons (pv 3) pa_nil)) pe_int))))))
      pss_nil)
      (pss_cons (ps_set (i := 2) sc.nd rfl (Or.inl rfl) (pe_op op_mod (pe_callTy call_int1 (by rfl) B.int_ (by decide +kernel) (pa_cons (pe_op op_add (pe_op op_mul (pv 2) pe_int) pe_int) pa_nil)) pe_int))
      (pss_cons (ps_set (i := 2) sc.nd rfl (Or.inl rfl) (pe_op op_mod (pe_callTy call_int1 (by rfl) B.int_ (by decide +kernel) (pa_cons (pe_op op_add (pe_op op_add (pe_op op_mul (pv 2) (pv 2)) (pe_op op_mul pe_int (pe_dget hu (pv 0) pe_str (fun _ _ => rfl)))) pe_int) pa_nil)) pe_int))
      (pss_cons (ps_set (i := 2) sc.nd rfl (Or.inl rfl) (pe_op op_mod (pe_callTy call_int1 (by rfl) B.int_ (by decide +kernel) (pa_cons (pe_op op_mul (pv 2) pe_int) pa_nil)) pe_int))
      (pss_one (ps_ret (pe_op op_mod (pe_callTy call_int1 (by rfl) B.int_ (by decide +kernel) (pa_cons (pe_op op_fdivW (pv 2) pe_int) pa_nil)) (pv 1)))))))))), ?_⟩
  have dl := DK.ne
  obtain ⟨mx, dr, cs, hd, hl, hcs⟩ := DK
  -- draws + 1
  have gd := DGet.k (k := kDraws) hd
  rw [deck_draws] at gd
  have pd := DPut.k (k := kDraws) (v := .int (dr + 1)) hd (Nat.lt_of_le_of_lt (Nat.le_of_eq rfl : (deckL l mx dr).length ≤ 3) (by decide))
  rw [deck_put] at pd
  refine ⟨_, rfl, d, _, rfl, gd, _, _, rfl, rfl, _, rfl, d, _, rfl, pd, ?_⟩
  generalize hH1 : upd H d (.dK (deckL l mx (dr + 1))) = H1
  have hd1 : H1 d = some (.dK (deckL l mx (dr + 1))) := by rw [← hH1]; exact upd_same
  have hl1 : H1 l = some (.lst (cs.map V.int)) := by rw [← hH1, upd_ne dl.symm]; exact hl
  have b1 : But d l H H1 := fun b o e h1 h2 => by rw [← hH1, upd_ne h1]; exact e
  have gd1 := DGet.k (k := kDraws) hd1
  rw [deck_draws] at gd1
  have gm1 := DGet.k (k := kMixed) hd1
  rw [deck_mixed] at gm1
  have gc1 := DGet.k (k := kCells) hd1
  rw [deck_cells] at gc1
  refine ⟨_, rfl, d, _, rfl, gm1, _, rfl, d, _, rfl, gd1, _, _, rfl, rfl, .inl ⟨by decide, by decide⟩, _, _, rfl, rfl, ?_⟩
  dsimp only [gName]
  refine tSeq_join (fun σ H2 => ∃ (z : Int) (o : Option V), σ = [some (.ref d), some (.int n), some (.int z), o] ∧ DeckAt H2 d l ∧ But d l H H2) (fun N hN => ?_) ?_
  · -- if cells != []
    refine ⟨_, rfl, d, _, rfl, gc1, Nat.zero_le _, fun p hp => ?_⟩
    have s2 : Same H1 (upd H1 p (.lst [])) := Same.upd_new hp
    generalize hH2 : upd H1 p (.lst []) = H2 at s2
    have hd2 := s2 _ _ hd1
    have hl2 := s2 _ _ hl1
    have hp2 : H2 p = some (.lst []) := by rw [← hH2]; exact upd_same
    have b2 : But d l H H2 := b1.trans (But.of s2)
    have gc2 := DGet.k (k := kCells) hd2
    rw [deck_cells] at gc2
    refine ⟨_, _, .lst (SqL.of hl2) (dp_ints cs), .lst (SqL.of hp2) .nil, shaped_ints cs, by decide, _, rfl, ?_⟩
    rw [eqv_nil]
    cases hcc : cs with
    | nil =>
      refine iteF ?_
      exact hN _ _ ⟨_, none, rfl, ⟨mx, dr + 1, [], hd2, by rw [hcc] at hl2; exact hl2, by decide⟩, b2⟩
    | cons c0 cr =>
      refine iteT ?_
      -- cell = cells.pop()
      have hlast : ∃ c, (cs.map V.int)[(cs.map V.int).length - 1]? = some (V.int c) := by
        have hn : cs.length - 1 < cs.length := by rw [hcc]; exact Nat.sub_lt (Nat.succ_pos _) (by decide)
        exact ⟨cs[cs.length - 1], by rw [List.length_map, List.getElem?_map, List.getElem?_eq_getElem hn]; rfl⟩
      obtain ⟨c, hlast⟩ := hlast
      have hdrop : (cs.map V.int).dropLast = cs.dropLast.map V.int := by rw [List.map_dropLast]
      have ldrop : cs.dropLast.length ≤ 62 := by rw [List.length_dropLast]; omega
      have hne : l ≠ d := dl.symm
      refine ⟨_, rfl, d, _, rfl, gc2, .inl ⟨rfl, _, SqL.of hl2⟩, l, _, _, rfl, rfl, hl2, hlast, ?_⟩
      rw [hdrop]
      generalize hH3 : upd H2 l (.lst (cs.dropLast.map V.int)) = H3
      have hl3 : H3 l = some (.lst (cs.dropLast.map V.int)) := by rw [← hH3]; exact upd_same
      have hd3 : H3 d = some (.dK (deckL l mx (dr + 1))) := by rw [← hH3, upd_ne dl]; exact hd2
      have b3 : But d l H H3 := b2.trans fun b o e _ h2 => by rw [← hH3, upd_ne h2]; exact e
      have gc3 := DGet.k (k := kCells) hd3
      rw [deck_cells] at gc3
      refine ⟨_, rfl, _, _, rfl, rfl, ⟨by decide, by decide, by decide⟩, _, _, rfl, rfl, _, rfl, ifD (fun hbig => ?_) fun hbig => ?_⟩
      · -- cells.append(cell // max(2, many)); return int(cell) % many
        have hmx : (if n > 2 then n else 2) = max 2 n := by by_cases h : n > 2 <;> simp only [h, if_true, if_false] <;> omega
        refine ⟨_, rfl, d, _, rfl, gc3, .inl ⟨rfl, _, SqL.of hl3⟩, _, rfl, _, rfl, 2, n, rfl, _, _, rfl, rfl, ?_, ?_⟩
        · show CDivW c (if n > 2 then n else 2)
          exact wide_div (b := 64) (by split <;> omega) (by split <;> omega) (by decide) (by decide)
        refine ⟨l, _, _, rfl, rfl, hl3, Nat.lt_of_le_of_lt (by rw [List.length_map]; exact ldrop) (by decide : (62 : Nat) < sizeLine), ?_⟩
        have happ : cs.dropLast.map V.int ++ [V.int (c / (if n > 2 then n else 2))] = (cs.dropLast ++ [c / (if n > 2 then n else 2)]).map V.int := by rw [List.map_append]; rfl
        refine ⟨_, rfl, .inl ⟨c, rfl, ?_⟩⟩
        refine ⟨_, rfl, _, _, rfl, rfl, hn0, ?_⟩
        refine q _ _ ⟨mx, dr + 1, cs.dropLast ++ [c / (if n > 2 then n else 2)], by rw [upd_ne dl]; exact hd3, by rw [upd_same]; exact congrArg (fun z => some (HO.lst z)) happ, by rw [List.length_append]; exact Nat.add_le_add ldrop (Nat.le_refl 1)⟩ (b3.trans fun b o e _ h2 => by rw [upd_ne h2]; exact e) (Int.emod_nonneg _ (by omega)) (Int.emod_lt_of_pos _ hn0)
      · refine ⟨_, rfl, _, rfl, .inl ⟨c, rfl, ?_⟩⟩
        refine ⟨_, _, rfl, rfl, (by show (0 : Int) < 2147483629; decide), _, _, rfl, rfl, ?_⟩
        exact hN _ _ ⟨_, _, rfl, ⟨mx, dr + 1, cs.dropLast, hd3, hl3, Nat.le_trans ldrop (by decide)⟩, b3⟩
  · rintro _ H4 ⟨z, o, rfl, DK4, b4⟩
    obtain ⟨mx, dr, cs, hd4, hl4, hcs4⟩ := id DK4
    have gd4 := DGet.k (k := kDraws) hd4
    rw [deck_draws] at gd4
    refine ⟨_, rfl, _, _, rfl, rfl, .inr ⟨by decide, by decide⟩, _, _, rfl, rfl, .inl ⟨_, rfl, _, _, rfl, rfl, (by show (0 : Int) < 2147483563; decide), ?_⟩⟩
    have y0 := Int.emod_nonneg (z * 40014 + 91) (b := 2147483563) (by decide)
    have y1 := Int.emod_lt_of_pos (z * 40014 + 91) (b := 2147483563) (by decide)
    refine ⟨_, rfl, _, rfl, _, _, rfl, rfl, .inl ⟨by omega, by omega⟩, _, rfl, d, _, rfl, gd4, _, _, rfl, rfl, .inl ⟨by decide, by decide⟩, _, _, rfl, rfl, _, _, rfl, rfl, .inl ⟨_, rfl, _, _, rfl, rfl, (by show (0 : Int) < 2147483399; decide), ?_⟩⟩
    refine ⟨_, rfl, _, _, rfl, rfl, .inr ⟨by decide, by decide⟩, .inl ⟨_, rfl, _, _, rfl, rfl, (by show (0 : Int) < 2147483647; decide), ?_⟩⟩
    refine ⟨_, rfl, _, _, rfl, rfl, ⟨by decide, by decide⟩, .inl ⟨_, rfl, _, rfl, _, _, rfl, rfl, hn0, ?_⟩⟩
    exact q _ _ DK4 b4 (Int.emod_nonneg _ (by omega)) (Int.emod_lt_of_pos _ hn0)
end
end Ft

namespace Ft
open PySem L2
section
variable {P : Program} {w : World} {K : PySem.W.Frag} {mg : Str → Option Value} {base : Heap}
theorem ok_pick (D : Df K mg "_law_pick" s__law_pick ["_law_deck_here", "_law_some"]) (B : Bi mg) (c__law_draw : Cal P w K mg base 1 "_law_draw" sp_draw) : Cal P w K mg base 2 "_law_pick" (sp_pick K) := by
  obtain ⟨f, fd, F, m, b⟩ := D.ex
  have sc := sc__law_pick
  refine ⟨f, fd, _, F.ok sc sp_pick_len (fun cdv A outer s H vs Q E hr h => ?_), m, F.kp, b⟩
  obtain ⟨d, l, p, xs, rfl, DK, hp, h0, h1, q⟩ := h
  refine ⟨_, (pss_one (ps_ret (pe_ix ix_seq (pv 1) (pe_c c__law_draw hr (by decide) (by rfl) (pa_cons (pv 0) (pa_cons (pe_callB call_len_seq (by rfl) B.len_ (by decide +kernel) (pa_cons (pv 1) pa_nil)) pa_nil))) (fun _ _ => rfl)))), ?_⟩
  have hs : SqL K H p xs ∨ SqT K H p xs := hp.imp (fun z => SqL.of z.1) SqT.of
  refine ⟨_, rfl, _, rfl, _, rfl, p, xs, rfl, hs, d, l, _, rfl, DK, by omega, by omega, fun H1 r DK1 b1 r0 r1 => ?_⟩
  obtain ⟨n, rfl⟩ : ∃ n : Nat, r = n := ⟨r.toNat, by omega⟩
  have hn : n < xs.length := by omega
  obtain ⟨mx, dr, cs, hd, hl, _⟩ := DK
  rcases hp with ⟨hp, hpl⟩ | hp
  · have hp1 := b1 _ _ hp (ne_of hp hd (by intro z; cases z)) hpl
    exact .inl ⟨p, xs, _, _, rfl, rfl, SqL.of hp1, atI_nat (List.getElem?_eq_getElem hn), q _ _ DK1 b1 (List.getElem_mem hn)⟩
  · have hp1 := b1 _ _ hp (ne_of hp hd (by intro z; cases z)) (ne_of hp hl (by intro z; cases z))
    exact .inr (.inl ⟨p, xs, _, _, rfl, rfl, SqT.of hp1, atI_nat (List.getElem?_eq_getElem hn), q _ _ DK1 b1 (List.getElem_mem hn)⟩)
theorem ok_deck (D : Df K mg "_law_deck" s__law_deck ["_law_script"]) (B : Bi mg)  : Cal P w K mg base 1 "_law_deck" (sp_deck K) := by
  obtain ⟨f, fd, F, m, b⟩ := D.ex
  have sc := sc__law_deck
  refine ⟨f, fd, _, F.ok sc sp_deck_len (fun cdv A outer s H vs Q E hr h => ?_), m, F.kp, b⟩
  obtain ⟨a, ns, rfl, hS, hlen, q⟩ := h
  have hu := hu_of hr
  refine ⟨_, (pss_cons (ps_set (i := 1) sc.nd rfl (Or.inl rfl) pe_int)
      (pss_cons (ps_for PassesOwn.never rfl (pi_list (pe_slice sl_list (pv 0) po_none (po_some pe_int))) (pg_name (i := 2) sc.nd rfl (Or.inl rfl))
      (pss_one (ps_set (i := 1) sc.nd rfl (Or.inl rfl) (pe_op op_mod (pe_callTy call_int1 (by rfl) B.int_ (by decide +kernel) (pa_cons (pe_op op_add (pe_op op_add (pe_op op_mul (pv 1) pe_int) (pe_op op_mod (pe_callTy call_int1 (by rfl) B.int_ (by decide +kernel) (pa_cons (pv 2) pa_nil)) pe_int)) pe_int) pa_nil)) pe_int))))
      (pss_one (ps_ret (pe_disp (pps_cons pe_str (pe_revL (pe_callTy call_list_of (by rfl) B.list (by decide +kernel) (pa_cons (pe_slice sl_list (pv 0) po_none (po_some pe_int)) pa_nil))) (pps_cons pe_str (pv 1) (pps_cons pe_str pe_int pps_nil))) (by rfl) (by rfl) (fun z => by cases z) (by decide)))))), ?_⟩
  refine ⟨_, rfl, _, rfl, a, _, rfl, hS, fun p hp => ?_⟩
  obtain ⟨ms, hms, lms⟩ := cut_ints ns none (some 63)
  rw [hms]
  have s1 : Same H (upd H p (.lst (ms.map V.int))) := Same.upd_new hp
  generalize hH1 : upd H p (.lst (ms.map V.int)) = H1 at s1
  have hp1 : H1 p = some (.lst (ms.map V.int)) := by rw [← hH1]; exact upd_same
  refine ⟨p, rfl, ⟨_, SqL.of hp1⟩, for_list (K := K) (a := p) (xs := ms.map V.int) (fun i σ H2 => H1 = H2 ∧ ∃ (z : Int) (o : Option V), σ = [some (.ref a), some (.int z), o]) ⟨rfl, _, none, rfl⟩ (fun i σ H2 _ ⟨e, _⟩ => by rw [← e]; exact SqL.of hp1) ?_ ?_⟩
  · rintro i x σ _ hi ⟨rfl, z, o, rfl⟩
    obtain ⟨c, rfl, _⟩ := int_at hi
    refine ⟨_, rfl, _, _, rfl, rfl, .inr ⟨by decide, by decide⟩, _, rfl, .inl ⟨c, rfl, _, _, rfl, rfl, (by show (0 : Int) < 2147483629; decide), _, _, rfl, rfl, _, _, rfl, rfl, .inl ⟨_, rfl, _, _, rfl, rfl, (by show (0 : Int) < 2147483587; decide), ?_⟩⟩⟩
    exact ⟨rfl, _, _, rfl⟩
  · rintro σ _ ⟨rfl, z, o, rfl⟩
    intro d hd
    have s2 : Same H1 (upd H1 d (.dK [])) := Same.upd_new hd
    generalize hH2 : upd H1 d (.dK []) = H2 at s2
    have hd2 : H2 d = some (.dK []) := by rw [← hH2]; exact upd_same
    refine ⟨_, rfl, _, rfl, a, _, rfl, s2.seq (s1.seq hS), fun p2 hp2 => ?_⟩
    rw [hms]
    have s3 : Same H2 (upd H2 p2 (.lst (ms.map V.int))) := Same.upd_new hp2
    generalize hH3 : upd H2 p2 (.lst (ms.map V.int)) = H3 at s3
    have h3 : H3 p2 = some (.lst (ms.map V.int)) := by rw [← hH3]; exact upd_same
    refine ⟨p2, _, rfl, .inl (SqL.of h3), fun p3 hp3 => ?_⟩
    have s4 : Same H3 (upd H3 p3 (.lst (ms.map V.int))) := Same.upd_new hp3
    generalize hH4 : upd H3 p3 (.lst (ms.map V.int)) = H4 at s4
    have h4 : H4 p3 = some (.lst (ms.map V.int)) := by rw [← hH4]; exact upd_same
    refine ⟨p3, _, rfl, SqL.of h4, fun l hl => ?_⟩
    have s5 : Same H4 (upd H4 l (.lst (ms.map V.int).reverse)) := Same.upd_new hl
    generalize hH5 : upd H4 l (.lst (ms.map V.int).reverse) = H5 at s5
    have h5 : H5 l = some (.lst (ms.reverse.map V.int)) := by rw [← hH5, List.map_reverse]; exact upd_same
    have sA := s1.trans (s2.trans (s3.trans (s4.trans s5)))
    have hd5 : H5 d = some (.dK []) := s5 _ _ (s4 _ _ (s3 _ _ hd2))
    have dl : d ≠ l := ne_of hd5 h5 (by intro z; cases z)
    refine ⟨_, rfl, hd5, deckL l z 0, rfl, (by show (3 : Nat) ≤ 15; decide), ?_⟩
    rw [deck_merge]
    have hd0 : H d = none := s1.free hd
    have hl0 : H l = none := s1.free (s2.free (s3.free (s4.free hl)))
    refine q _ d l ⟨z, 0, ms.reverse, upd_same, by rw [upd_ne dl.symm]; exact h5, by rw [List.length_reverse]; omega⟩ (fun b u e => ?_) hd0 hl0
    rw [upd_ne (ne_of_none e hd0)]
    exact sA _ _ e
end
end Ft

namespace Ft
open PySem L2
/-- two keywords, in the other order -/
def swapV : List V → List V → List V := fun us zs => match us, zs with
  | [], [a, b] => [b, a]
  | _, _ => []
def swapU : List Value → List Value → List Value := fun us zs => match us, zs with
  | [], [a, b] => [b, a]
  | _, _ => []
theorem swap_rel : ∀ {vs : List V} {us : List Value} {zs : List V} {ws : List Value}, Vals vs us → Vals zs ws → Vals (swapV vs zs) (swapU us ws)
  | _, _, _, _, .nil, .nil => .nil
  | _, _, _, _, .nil, .cons _ .nil => .nil
  | _, _, _, _, .nil, .cons a (.cons b .nil) => .cons b (.cons a .nil)
  | _, _, _, _, .nil, .cons _ (.cons _ (.cons _ _)) => .nil
  | _, _, _, _, .cons _ _, _ => .nil
end Ft

namespace Ft
/-! the numbers of k26 -/
def divL (n : Nat) : List Nat := ((List.range n).filter fun i => decide (n % (i + 1) = 0)).map fun i => i + 1
def manyOf (N c : Nat) : Nat := ((List.range (Nat.gcd c (N / c))).filter fun i => decide (Nat.gcd (i + 1) (Nat.gcd c (N / c)) = 1)).length
abbrev Tri := Nat × Nat × Nat
def edgeOf (N c : Nat) : Tri := (c, manyOf N c, N / Nat.gcd (c * c) N)
def edges (N : Nat) : List Tri := (divL N).map (edgeOf N)
def sumE (l : List Tri) : Nat := l.foldl (fun s e => s + e.2.1 * e.2.2) 0
/-- the program's way to the divisors -/
def lowL (n r : Nat) : List Nat := ((List.range r).filter fun i => decide (n % (i + 1) = 0)).map fun i => i + 1
def divP (n r : Nat) : List Nat := lowL n r ++ (((lowL n r).reverse.filter fun d => decide (d * d ≠ n)).map fun d => n / d)
/-- Bool checks -/
def eqL : List Nat → List Nat → Bool
  | [], [] => true
  | a :: l, b :: m => Nat.beq a b && eqL l m
  | _, _ => false
def divF (n : Nat) : Nat → List Nat → List Nat
  | 0, acc => acc
  | i + 1, acc => divF n i (bif Nat.beq (n % (i + 1)) 0 then (i + 1) :: acc else acc)
end Ft

namespace Ft
/-! points and rounds of a level, as the law counts them -/
abbrev Pt := Nat × Nat
abbrev Tab := List (Pt × Nat)
def ptEq (p q : Pt) : Bool := Nat.beq p.1 q.1 && Nat.beq p.2 q.2
def tget : Tab → Pt → Option Nat
  | [], _ => none
  | e :: l, p => bif ptEq e.1 p then some e.2 else tget l p
def unitsL (N : Nat) : List Nat := (List.range N).filter fun x => decide (Nat.gcd x N = 1)
def pointOf (N a b u : Nat) : Pt := ((u * a) % N, (u * b) % N)
def fresh (v : Nat) : Tab → List Pt → Bool
  | _, [] => true
  | t, p :: ps => (tget t p).isNone && fresh v (t ++ [(p, v)]) ps
def stepO (N : Nat) (us : List Nat) (s : Tab × Nat) (a b : Nat) : Option (Tab × Nat) :=
  if (tget s.1 (a, b)).isNone && decide (Nat.gcd (Nat.gcd a b) N = 1) then
    if fresh s.2 s.1 (us.map (pointOf N a b)) && decide (s.1.length + us.length ≤ 1000) then some (s.1 ++ (us.map (pointOf N a b)).map fun p => (p, s.2), s.2 + 1) else none
  else some s
def rowO (N : Nat) (us : List Nat) (a : Nat) : Nat → Tab × Nat → Option (Tab × Nat)
  | 0, s => some s
  | j + 1, s => (rowO N us a j s).bind fun s => stepO N us s a j
def allO (N : Nat) (us : List Nat) : Nat → Option (Tab × Nat)
  | 0 => some ([], 0)
  | i + 1 => (allO N us i).bind fun s => rowO N us i N s
theorem fresh_at {v : Nat} : ∀ {ps : List Pt} {t : Tab}, fresh v t ps = true → ∀ {j : Nat} {p : Pt}, ps[j]? = some p → tget (t ++ (ps.take j).map fun p => (p, v)) p = none
  | [], _, _, j, p, h => by simp at h
  | q :: ps, t, hf, 0, p, h => by
    have h1 : (tget t q).isNone = true := by
      unfold fresh at hf
      exact (Bool.and_eq_true _ _ ▸ hf).1
    cases h
    simpa using h1
  | q :: ps, t, hf, j + 1, p, h => by
    have h2 : fresh v (t ++ [(q, v)]) ps = true := by
      unfold fresh at hf
      exact (Bool.and_eq_true _ _ ▸ hf).2
    have := fresh_at h2 (j := j) (p := p) h
    rw [List.append_assoc] at this
    exact this
theorem rowO_some {N : Nat} {us : List Nat} {a : Nat} {s r : Tab × Nat} : ∀ {j k : Nat}, rowO N us a (j + k) s = some r → ∃ r', rowO N us a j s = some r'
  | j, 0, h => ⟨r, h⟩
  | j, k + 1, h => by
    have h' : (rowO N us a (j + k) s).bind (fun s => stepO N us s a (j + k)) = some r := h
    cases e : rowO N us a (j + k) s with
    | none => rw [e] at h'; cases h'
    | some s' => exact rowO_some (k := k) (r := s') e
theorem allO_some {N : Nat} {us : List Nat} {r : Tab × Nat} : ∀ {i k : Nat}, allO N us (i + k) = some r → ∃ r', allO N us i = some r'
  | i, 0, h => ⟨r, h⟩
  | i, k + 1, h => by
    have h' : (allO N us (i + k)).bind (fun s => rowO N us (i + k) N s) = some r := h
    cases e : allO N us (i + k) with
    | none => rw [e] at h'; cases h'
    | some s' => exact allO_some (k := k) (r := s') e
/-- one round: from a place, as long as the class is new -/
def goR (T : Tab) (N a : Nat) : Nat → Nat → List Nat → Nat → Option (Nat × List Nat)
  | 0, _, _, _ => none
  | f + 1, place, met, size => match tget T (a, place) with
    | none => none
    | some c => if c ∈ met then some (size, met) else if met.length < 1000 then goR T N a f ((place + a) % N) (met ++ [c]) (size + 1) else none
def stepR (T : Tab) (N : Nat) (s : List Nat × List (Nat × Nat)) (p : Pt) : Option (List Nat × List (Nat × Nat)) :=
  match goR T N p.1 (N + 1) p.2 s.1 0 with
  | none => none
  | some (size, met) => some (met, if 0 < size then s.2 ++ [(Nat.gcd p.1 N, size)] else s.2)
def roundsO (T : Tab) (N : Nat) : Nat → Option (List Nat × List (Nat × Nat))
  | 0 => some ([], [])
  | i + 1 => (roundsO T N i).bind fun s => match T[i]? with
    | none => none
    | some e => stepR T N s e.1
theorem roundsO_some {T : Tab} {N : Nat} {r : List Nat × List (Nat × Nat)} : ∀ {i k : Nat}, roundsO T N (i + k) = some r → ∃ r', roundsO T N i = some r'
  | i, 0, h => ⟨r, h⟩
  | i, k + 1, h => by
    cases e : roundsO T N (i + k) with
    | none =>
      have h' : (roundsO T N (i + k)).bind _ = some r := h
      rw [e] at h'; cases h'
    | some s' => exact roundsO_some (k := k) (r := s') e
theorem rounds_len {T : Tab} {N : Nat} : ∀ {i : Nat} {st : List Nat × List (Nat × Nat)}, roundsO T N i = some st → st.2.length ≤ i
  | 0, st, h => by cases h; exact Nat.le_refl _
  | i + 1, st, h => by
    cases e : roundsO T N i with
    | none =>
      have h' : (roundsO T N i).bind _ = some st := h
      rw [e] at h'; cases h'
    | some s =>
      have h' : (roundsO T N i).bind (fun s => match T[i]? with | none => none | some e => stepR T N s e.1) = some st := h
      rw [e] at h'
      have ih := rounds_len e
      simp only [Option.bind_some] at h'
      cases ht : T[i]? with
      | none => rw [ht] at h'; cases h'
      | some x =>
        rw [ht] at h'
        simp only [stepR] at h'
        cases hg : goR T N x.1.1 (N + 1) x.1.2 s.1 0 with
        | none => rw [hg] at h'; cases h'
        | some y =>
          rw [hg] at h'
          obtain ⟨sz, mt⟩ := y
          simp only at h'
          cases h'
          simp only
          split
          · rw [List.length_append]; exact Nat.add_le_add ih (Nat.le_refl 1)
          · omega
def sizesOf (r : List (Nat × Nat)) (c : Nat) : List Nat := (r.filter fun e => decide (e.1 = c)).map (·.2)
/-- all is as the edges say -/
structure Counted (N : Nat) : Prop where
  ex : ∃ T m met R, allO N (unitsL N) N = some (T, m) ∧ T.length ≤ 1000 ∧ roundsO T N T.length = some (met, R) ∧ m = sumE (edges N) ∧
    ∀ c ∈ divL N, ∃ l, sizesOf R c = (N / Nat.gcd (c * c) N) :: l ∧ (∀ y ∈ l, y = N / Nat.gcd (c * c) N) ∧ l.length + 1 = manyOf N c
end Ft

namespace Ft
def stripGo : Nat → Nat → Nat → Option Nat
  | 0, _, _ => none
  | f + 1, r, p => if r % p = 0 then stripGo f (r / p) p else some r
def psiGo : Nat → Nat → Nat → Nat → Option Nat
  | 0, _, _, _ => none
  | f + 1, x, r, p => if 1 < r then (if r % p = 0 then (if x < 2 ^ 40 then (match stripGo 500 r p with | none => none | some r' => psiGo f (x / p * (p + 1)) r' (p + 1)) else none) else psiGo f x r (p + 1)) else some x
def okPsi (N : Nat) : Bool := match psiGo 500 N N 2 with | none => false | some x => Nat.beq x (sumE (edges N))
end Ft

namespace Ft
def prods (a b : Nat) : List Tri := (edges a).flatMap fun e => (edges b).map fun f => (e.1 * f.1, e.2.1 * f.2.1, e.2.2 * f.2.2)
def okPair (a b : Nat) : Bool := if Nat.gcd a b = 1 then (prods a b).isPerm (edges (a * b)) && Nat.beq (sumE (edges a) * sumE (edges b)) (sumE (edges (a * b))) && Nat.ble (prods a b).length 60 else true
structure PairOk : Prop where
  ex : ∀ a b : Nat, 1 ≤ a → a ≤ 20 → 1 ≤ b → b ≤ 20 → Nat.gcd a b = 1 → (prods a b).Perm (edges (a * b)) ∧ sumE (edges a) * sumE (edges b) = sumE (edges (a * b)) ∧ (prods a b).length ≤ 60
theorem sorted_unique {α : Type} (k : α → Int) : ∀ l1 l2 : List α, l1.Perm l2 → l1.Pairwise (fun x y => k x ≤ k y) → l2.Pairwise (fun x y => k x < k y) → l1 = l2
  | l1, [], h, _, _ => h.eq_nil
  | [], b :: l2, h, _, _ => absurd h.length_eq (by simp)
  | a :: l1, b :: l2, h, h1, h2 => by
    have hab : a = b := by
      rcases List.mem_cons.mp (h.mem_iff.mp List.mem_cons_self) with e | m
      · exact e
      · have k1 := (List.pairwise_cons.mp h2).1 a m
        rcases List.mem_cons.mp (h.mem_iff.mpr (List.mem_cons_self : b ∈ b :: l2)) with e | m'
        · exact e.symm
        · have k2 := (List.pairwise_cons.mp h1).1 b m'
          omega
    subst hab
    rw [sorted_unique k l1 l2 h.cons_inv (List.pairwise_cons.mp h1).2 (List.pairwise_cons.mp h2).2]
theorem divL_asc (n : Nat) : (divL n).Pairwise (· < ·) := by
  unfold divL
  rw [List.pairwise_map]
  refine List.Pairwise.imp (fun h => Nat.add_lt_add_right h 1) ?_
  exact List.Pairwise.filter _ List.pairwise_lt_range
theorem edges_asc (n : Nat) : (edges n).Pairwise fun e f => e.1 < f.1 := by
  unfold edges
  rw [List.pairwise_map]
  exact divL_asc n
end Ft

namespace Ft
/-! the counting, by digits of one number (for the kernel) -/
def dig (β D k : Nat) : Nat := D / β ^ k % β
theorem dig_put {β D k w : Nat} (hβ : 1 < β) (h0 : dig β D k = 0) (hw : w < β) (j : Nat) : dig β (D + w * β ^ k) j = if j = k then w else dig β D j := by
  have bp : 0 < β := by omega
  unfold dig at h0 ⊢
  rcases Nat.lt_trichotomy j k with h | h | h
  · rw [if_neg (by omega)]
    have e : β ^ k = β ^ (k - j - 1) * β * β ^ j := by rw [← Nat.pow_succ, ← Nat.pow_add]; congr 1; omega
    rw [e, ← Nat.mul_assoc, Nat.add_mul_div_right _ _ (Nat.pow_pos bp), ← Nat.mul_assoc, Nat.add_mul_mod_self_right]
  · subst h
    rw [if_pos rfl, Nat.add_mul_div_right _ _ (Nat.pow_pos bp), Nat.add_mod, h0, Nat.zero_add, Nat.mod_mod, Nat.mod_eq_of_lt hw]
  · rw [if_neg (by omega)]
    have e : β ^ j = β ^ k * β * β ^ (j - k - 1) := by rw [← Nat.pow_succ, ← Nat.pow_add]; congr 1; omega
    rw [e, ← Nat.div_div_eq_div_mul, ← Nat.div_div_eq_div_mul, ← Nat.div_div_eq_div_mul, ← Nat.div_div_eq_div_mul, Nat.add_mul_div_right _ _ (Nat.pow_pos bp)]
    have q : (D / β ^ k + w) / β = D / β ^ k / β := by
      have d := Nat.div_add_mod (D / β ^ k) β
      rw [h0, Nat.add_zero] at d
      rw [← d, Nat.mul_add_div bp, Nat.div_eq_of_lt hw, Nat.mul_div_cancel_left _ bp, Nat.add_zero]
    rw [q]
def Rep (N D : Nat) (t : Tab) : Prop := ∀ a b : Nat, a < N → b < N → tget t (a, b) = if dig 128 D (a * N + b) = 0 then none else some (dig 128 D (a * N + b) - 1)
theorem ptEq_eq {p q : Pt} : ptEq p q = true ↔ p = q := by
  obtain ⟨a, b⟩ := p
  obtain ⟨c, d⟩ := q
  unfold ptEq
  rw [Bool.and_eq_true, Nat.beq_eq, Nat.beq_eq, Prod.mk.injEq]
theorem tget_snoc (q : Pt) (v : Nat) (p : Pt) : ∀ t : Tab, tget t p = none → tget (t ++ [(q, v)]) p = if q = p then some v else none
  | [], _ => by
    show (bif ptEq q p then some v else none) = _
    by_cases h : q = p
    · rw [if_pos h, ptEq_eq.mpr h]; rfl
    · rw [if_neg h, show ptEq q p = false from Bool.eq_false_iff.mpr fun k => h (ptEq_eq.mp k)]; rfl
  | e :: t, h => by
    have h' : (bif ptEq e.1 p then some e.2 else tget t p) = none := h
    cases he : ptEq e.1 p with
    | true => rw [he] at h'; cases h'
    | false =>
      rw [he] at h'
      show (bif ptEq e.1 p then some e.2 else tget (t ++ [(q, v)]) p) = _
      rw [he]
      exact tget_snoc q v p t h'
theorem tget_snoc_some (q : Pt) (v : Nat) (p : Pt) {x : Nat} : ∀ t : Tab, tget t p = some x → tget (t ++ [(q, v)]) p = some x
  | [], h => by cases h
  | e :: t, h => by
    have h' : (bif ptEq e.1 p then some e.2 else tget t p) = some x := h
    show (bif ptEq e.1 p then some e.2 else tget (t ++ [(q, v)]) p) = _
    cases he : ptEq e.1 p with
    | true => rw [he] at h'; exact h'
    | false => rw [he] at h'; exact tget_snoc_some q v p t h'
theorem code_inj {N a b c d : Nat} (hb : b < N) (hd : d < N) (h : a * N + b = c * N + d) : a = c ∧ b = d := by
  have hN : 0 < N := by omega
  have h1 : (a * N + b) / N = a := by rw [Nat.add_comm, Nat.add_mul_div_right _ _ hN, Nat.div_eq_of_lt hb, Nat.zero_add]
  have h2 : (c * N + d) / N = c := by rw [Nat.add_comm, Nat.add_mul_div_right _ _ hN, Nat.div_eq_of_lt hd, Nat.zero_add]
  have h3 : a = c := by rw [← h1, h, h2]
  subst h3
  exact ⟨rfl, by omega⟩
def freshF (N v : Nat) : List Pt → Nat → Option Nat
  | [], D => some D
  | p :: ps, D => bif Nat.beq (dig 128 D (p.1 * N + p.2)) 0 then freshF N v ps (D + (v + 1) * 128 ^ (p.1 * N + p.2)) else none
theorem freshF_sim {N v : Nat} (hv : v + 1 < 128) : ∀ (ps : List Pt) (D : Nat) (t : Tab) (D' : Nat), Rep N D t → (∀ p ∈ ps, p.1 < N ∧ p.2 < N) → freshF N v ps D = some D' → fresh v t ps = true ∧ Rep N D' (t ++ ps.map fun p => (p, v))
  | [], D, t, D', r, _, h => by
    cases h
    exact ⟨rfl, by rw [List.map_nil, List.append_nil]; exact r⟩
  | p :: ps, D, t, D', r, hp, h => by
    unfold freshF at h
    have hp0 := hp p List.mem_cons_self
    cases hd : Nat.beq (dig 128 D (p.1 * N + p.2)) 0 with
    | false => rw [hd] at h; cases h
    | true =>
      rw [hd] at h
      have hd := Nat.eq_of_beq_eq_true hd
      have g0 : tget t p = none := by
        have := r p.1 p.2 hp0.1 hp0.2
        rw [if_pos hd] at this
        exact this
      have r2 : Rep N (D + (v + 1) * 128 ^ (p.1 * N + p.2)) (t ++ [(p, v)]) := fun a b ha hb => by
        rw [dig_put (by decide) hd hv]
        by_cases hc : a * N + b = p.1 * N + p.2
        · obtain ⟨h1, h2⟩ := code_inj hb hp0.2 hc
          have e : (a, b) = p := by rw [h1, h2]
          rw [if_pos hc, if_neg (by omega), e, tget_snoc p v p t g0, if_pos rfl, Nat.add_sub_cancel]
        · rw [if_neg hc]
          have hr := r a b ha hb
          by_cases hz : dig 128 D (a * N + b) = 0
          · rw [if_pos hz] at hr ⊢
            rw [tget_snoc p v (a, b) t hr, if_neg (fun e => hc (by rw [e]))]
          · rw [if_neg hz] at hr ⊢
            exact tget_snoc_some p v (a, b) t hr
      obtain ⟨f1, f2⟩ := freshF_sim hv ps _ _ D' r2 (fun q hq => hp q (List.mem_cons_of_mem _ hq)) h
      refine ⟨?_, ?_⟩
      · unfold fresh
        rw [g0, f1]
        rfl
      · rw [List.append_assoc] at f2
        exact f2
structure FS where
  D : Nat
  m : Nat
  L : Nat
  ls : List (Nat × Nat × Nat)
def tabOf (N : Nat) (us : List Nat) (ls : List (Nat × Nat × Nat)) : Tab := ls.reverse.flatMap fun x => (us.map (pointOf N x.1 x.2.1)).map fun p => (p, x.2.2)
theorem tabOf_cons (N : Nat) (us : List Nat) (a b v : Nat) (ls : List (Nat × Nat × Nat)) : tabOf N us ((a, b, v) :: ls) = tabOf N us ls ++ (us.map (pointOf N a b)).map fun p => (p, v) := by
  unfold tabOf
  rw [List.reverse_cons, List.flatMap_append, List.flatMap_cons, List.flatMap_nil, List.append_nil]
structure SimF (N : Nat) (us : List Nat) (s : FS) (t : Tab × Nat) : Prop where
  rep : Rep N s.D t.1
  m : s.m = t.2
  tab : t.1 = tabOf N us s.ls
  len : t.1.length = s.L
def stepF (N : Nat) (us : List Nat) (nu : Nat) (s : FS) (a b : Nat) : Option FS :=
  bif Nat.beq (dig 128 s.D (a * N + b)) 0 && Nat.beq (Nat.gcd (Nat.gcd a b) N) 1 then
    (bif Nat.ble (s.L + nu) 1000 && Nat.ble s.m 100 then
      (match freshF N s.m (us.map (pointOf N a b)) s.D with
        | none => none
        | some D' => some ⟨D', s.m + 1, s.L + nu, (a, b, s.m) :: s.ls⟩)
    else none)
  else some s
theorem stepF_sim {N : Nat} {us : List Nat} {s s' : FS} {t : Tab × Nat} {a b : Nat} (hN : 0 < N) (ha : a < N) (hb : b < N) (h : SimF N us s t) (k : stepF N us us.length s a b = some s') : ∃ t', stepO N us t a b = some t' ∧ SimF N us s' t' := by
  have r := h.rep a b ha hb
  unfold stepF at k
  unfold stepO
  cases hc : (Nat.beq (dig 128 s.D (a * N + b)) 0 && Nat.beq (Nat.gcd (Nat.gcd a b) N) 1) with
  | false =>
    rw [hc] at k
    cases k
    refine ⟨t, ?_, h⟩
    rw [if_neg]
    intro z
    rw [Bool.and_eq_true] at z
    have z2 := of_decide_eq_true z.2
    have z1 : dig 128 s.D (a * N + b) = 0 := by
      by_cases hz : dig 128 s.D (a * N + b) = 0
      · exact hz
      · rw [if_neg hz] at r
        rw [r] at z
        cases z.1
    rw [z1, z2] at hc
    cases hc
  | true =>
    rw [hc] at k
    rw [Bool.and_eq_true, Nat.beq_eq, Nat.beq_eq] at hc
    rw [if_pos hc.1] at r
    rw [r, if_pos (by rw [decide_eq_true hc.2]; rfl)]
    simp only [cond_true] at k
    cases hl : (Nat.ble (s.L + us.length) 1000 && Nat.ble s.m 100) with
    | false => rw [hl] at k; cases k
    | true =>
      rw [hl] at k
      rw [Bool.and_eq_true, Nat.ble_eq, Nat.ble_eq] at hl
      simp only [cond_true] at k
      cases hf : freshF N s.m (us.map (pointOf N a b)) s.D with
      | none => rw [hf] at k; cases k
      | some D' =>
        rw [hf] at k
        cases k
        obtain ⟨f1, f2⟩ := freshF_sim (show s.m + 1 < 128 by omega) _ _ t.1 D' h.rep (fun p hp => by
          obtain ⟨u, _, rfl⟩ := List.mem_map.mp hp
          exact ⟨Nat.mod_lt _ hN, Nat.mod_lt _ hN⟩) hf
        rw [h.m] at f1 f2
        rw [f1, if_pos (by rw [h.len]; simp; exact hl.1)]
        refine ⟨_, rfl, f2, by rw [← h.m], ?_, ?_⟩
        · rw [tabOf_cons, ← h.tab, h.m]
        · show (t.1 ++ _).length = s.L + us.length
          rw [List.length_append, List.length_map, List.length_map, h.len]
def rowF (N : Nat) (us : List Nat) (nu a : Nat) : Nat → FS → Option FS
  | 0, s => some s
  | j + 1, s => match rowF N us nu a j s with
    | none => none
    | some s' => stepF N us nu s' a j
def allF (N : Nat) (us : List Nat) (nu : Nat) : Nat → Option FS
  | 0 => some ⟨0, 0, 0, []⟩
  | i + 1 => match allF N us nu i with
    | none => none
    | some s' => rowF N us nu i N s'
theorem rowF_sim {N : Nat} {us : List Nat} {a : Nat} (hN : 0 < N) (ha : a < N) : ∀ {j : Nat} {s s' : FS} {t : Tab × Nat}, j ≤ N → SimF N us s t → rowF N us us.length a j s = some s' → ∃ t', rowO N us a j t = some t' ∧ SimF N us s' t'
  | 0, s, s', t, _, h, k => by cases k; exact ⟨t, rfl, h⟩
  | j + 1, s, s', t, hj, h, k => by
    unfold rowF at k
    cases e : rowF N us us.length a j s with
    | none => rw [e] at k; cases k
    | some s1 =>
      rw [e] at k
      obtain ⟨t1, h1, h2⟩ := rowF_sim hN ha (by omega) h e
      obtain ⟨t2, h3, h4⟩ := stepF_sim hN ha (show j < N by omega) h2 k
      refine ⟨t2, ?_, h4⟩
      show (rowO N us a j t).bind _ = _
      rw [h1]
      exact h3
theorem allF_sim {N : Nat} {us : List Nat} (hN : 0 < N) : ∀ {i : Nat} {s' : FS}, i ≤ N → allF N us us.length i = some s' → ∃ t', allO N us i = some t' ∧ SimF N us s' t'
  | 0, s', _, k => by
    cases k
    refine ⟨([], 0), rfl, fun a b _ _ => ?_, rfl, rfl, rfl⟩
    have : dig 128 0 (a * N + b) = 0 := by unfold dig; rw [Nat.zero_div, Nat.zero_mod]
    rw [if_pos this]
    rfl
  | i + 1, s', hi, k => by
    unfold allF at k
    cases e : allF N us us.length i with
    | none => rw [e] at k; cases k
    | some s1 =>
      rw [e] at k
      obtain ⟨t1, h1, h2⟩ := allF_sim hN (by omega) e
      obtain ⟨t2, h3, h4⟩ := rowF_sim hN (show i < N by omega) (Nat.le_refl N) h2 k
      refine ⟨t2, ?_, h4⟩
      show (allO N us i).bind _ = _
      rw [h1]
      exact h3
end Ft

namespace Ft
structure RepM (M cnt : Nat) (met : List Nat) : Prop where
  mem : ∀ c, c ∈ met ↔ dig 2 M c = 1
  len : met.length = cnt
def goF (N D a : Nat) : Nat → Nat → Nat → Nat → Nat → Option (Nat × Nat × Nat)
  | 0, _, _, _, _ => none
  | f + 1, place, M, cnt, size =>
    bif Nat.beq (dig 128 D (a * N + place)) 0 then none
    else bif Nat.beq (dig 2 M (dig 128 D (a * N + place) - 1)) 1 then some (size, M, cnt)
    else bif Nat.blt cnt 1000 then goF N D a f ((place + a) % N) (M + 2 ^ (dig 128 D (a * N + place) - 1)) (cnt + 1) (size + 1)
    else none
theorem dig2 (M c : Nat) : dig 2 M c = 0 ∨ dig 2 M c = 1 := by
  unfold dig
  omega
theorem goF_sim {N D a : Nat} {T : Tab} (hN : 0 < N) (ha : a < N) (r : Rep N D T) : ∀ (f place M cnt size : Nat) (met : List Nat) (size' M' cnt' : Nat), place < N → RepM M cnt met → goF N D a f place M cnt size = some (size', M', cnt') →
    ∃ met', goR T N a f place met size = some (size', met') ∧ RepM M' cnt' met'
  | 0, _, _, _, _, _, _, _, _, _, _, h => by cases h
  | f + 1, place, M, cnt, size, met, size', M', cnt', hp, rm, h => by
    have hr := r a place ha hp
    unfold goF at h
    unfold goR
    cases h0 : Nat.beq (dig 128 D (a * N + place)) 0 with
    | true => rw [h0] at h; cases h
    | false =>
      rw [h0] at h
      have h0 : dig 128 D (a * N + place) ≠ 0 := fun z => by rw [z] at h0; cases h0
      rw [if_neg h0] at hr
      rw [hr]
      generalize dig 128 D (a * N + place) - 1 = c at h
      simp only [cond_false] at h ⊢
      cases h1 : Nat.beq (dig 2 M c) 1 with
      | true =>
        rw [h1] at h
        cases h
        rw [if_pos ((rm.mem c).mpr (Nat.eq_of_beq_eq_true h1))]
        exact ⟨met, rfl, rm⟩
      | false =>
        rw [h1] at h
        have h1 : dig 2 M c ≠ 1 := fun z => by rw [z] at h1; cases h1
        have h2 : dig 2 M c = 0 := by have := dig2 M c; omega
        rw [if_neg (fun z => h1 ((rm.mem c).mp z))]
        simp only [cond_false] at h
        cases h3 : Nat.blt cnt 1000 with
        | false => rw [h3] at h; cases h
        | true =>
          rw [h3] at h
          rw [Nat.blt_eq] at h3
          rw [if_pos (by rw [rm.len]; exact h3)]
          refine goF_sim hN ha r f _ _ _ _ (met ++ [c]) _ _ _ (Nat.mod_lt _ hN) ⟨fun x => ?_, by rw [List.length_append, rm.len]; rfl⟩ h
          have e := dig_put (β := 2) (D := M) (k := c) (w := 1) (by decide) h2 (by decide) x
          rw [Nat.one_mul] at e
          rw [e, List.mem_append, List.mem_singleton]
          by_cases hx : x = c
          · rw [if_pos hx]
            exact ⟨fun _ => rfl, fun _ => .inr hx⟩
          · rw [if_neg hx]
            constructor
            · rintro (k | k)
              · exact (rm.mem x).mp k
              · exact absurd k hx
            · exact fun k => .inl ((rm.mem x).mpr k)
theorem roundsO_le {T : Tab} {N : Nat} {st : List Nat × List (Nat × Nat)} : ∀ {i : Nat}, roundsO T N i = some st → T.length ≤ i → i = T.length
  | 0, _, h => by omega
  | i + 1, hi, h => by
    rcases Nat.lt_or_ge i T.length with k | k
    · omega
    · exfalso
      cases e : roundsO T N i with
      | none =>
        have h' : (roundsO T N i).bind _ = some st := hi
        rw [e] at h'; cases h'
      | some s =>
        have h' : (roundsO T N i).bind (fun s => match T[i]? with | none => none | some e => stepR T N s e.1) = some st := hi
        rw [e, List.getElem?_eq_none k] at h'
        cases h'
structure RS where
  M : Nat
  cnt : Nat
  R : List (Nat × Nat)
def rsF (N D : Nat) : List Pt → RS → Option RS
  | [], s => some s
  | p :: ps, s => match goF N D p.1 (N + 1) p.2 s.M s.cnt 0 with
    | none => none
    | some (size, M, cnt) => rsF N D ps ⟨M, cnt, bif Nat.blt 0 size then s.R ++ [(Nat.gcd p.1 N, size)] else s.R⟩
theorem rsF_sim {N D : Nat} {T : Tab} (hN : 0 < N) (r : Rep N D T) (hT : ∀ e ∈ T, e.1.1 < N ∧ e.1.2 < N) : ∀ (l : Tab) (i : Nat) (s s' : RS) (st : List Nat × List (Nat × Nat)), T.drop i = l → roundsO T N i = some st → RepM s.M s.cnt st.1 → s.R = st.2 → rsF N D (l.map (·.1)) s = some s' →
    ∃ st', roundsO T N T.length = some st' ∧ s'.R = st'.2
  | [], i, s, s', st, hd, hi, rm, hR, h => by
    cases h
    have hl : T.length ≤ i := List.drop_eq_nil_iff.mp hd
    have e := roundsO_le hi hl
    exact ⟨st, by rw [← e]; exact hi, hR⟩
  | e :: l, i, s, s', st, hd, hi, rm, hR, h => by
    have hTi : T[i]? = some e := by
      have := congrArg List.head? hd
      rw [List.head?_drop] at this
      exact this
    have hem := hT e (List.mem_of_getElem? hTi)
    have hd2 : T.drop (i + 1) = l := by rw [← List.tail_drop, hd]; rfl
    rw [List.map_cons] at h
    unfold rsF at h
    cases hg : goF N D e.1.1 (N + 1) e.1.2 s.M s.cnt 0 with
    | none => rw [hg] at h; cases h
    | some y =>
      obtain ⟨size, M, cnt⟩ := y
      rw [hg] at h
      obtain ⟨met', g1, g2⟩ := goF_sim hN hem.1 r _ _ _ _ _ st.1 _ _ _ hem.2 rm hg
      have hs : roundsO T N (i + 1) = some (met', if 0 < size then st.2 ++ [(Nat.gcd e.1.1 N, size)] else st.2) := by
        show (roundsO T N i).bind _ = _
        rw [hi]
        show (match T[i]? with | none => none | some e => stepR T N st e.1) = _
        rw [hTi]
        show stepR T N st e.1 = _
        unfold stepR
        rw [g1]
      refine rsF_sim hN r hT l (i + 1) _ s' _ hd2 hs g2 ?_ h
      show (bif Nat.blt 0 size then s.R ++ [(Nat.gcd e.1.1 N, size)] else s.R) = _
      rw [hR]
      by_cases hz : 0 < size
      · rw [if_pos hz, Nat.blt_eq.mpr hz]; rfl
      · rw [if_neg hz, show Nat.blt 0 size = false from Bool.eq_false_iff.mpr fun k => hz (Nat.blt_eq.mp k)]; rfl
def eqAll (z : Nat) : List Nat → Bool
  | [] => true
  | y :: l => Nat.beq y z && eqAll z l
theorem eqAll_of {z : Nat} : ∀ {l : List Nat}, eqAll z l = true → ∀ y ∈ l, y = z
  | [], _, y, hy => by cases hy
  | x :: l, h, y, hy => by
    unfold eqAll at h
    rw [Bool.and_eq_true] at h
    rcases List.mem_cons.mp hy with rfl | hy
    · exact Nat.eq_of_beq_eq_true h.1
    · exact eqAll_of h.2 y hy
def okS (N : Nat) (R : List (Nat × Nat)) (c : Nat) : Bool := match sizesOf R c with
  | [] => false
  | z :: l => Nat.beq z (N / Nat.gcd (c * c) N) && eqAll z l && Nat.beq (l.length + 1) (manyOf N c)
def okCount (N : Nat) : Bool := match allF N (unitsL N) (unitsL N).length N with
  | none => false
  | some s => Nat.beq s.m (sumE (edges N)) && Nat.ble s.L 1000 && (match rsF N s.D ((tabOf N (unitsL N) s.ls).map (·.1)) ⟨0, 0, []⟩ with
    | none => false
    | some q => (divL N).all (okS N q.R))
theorem counted_of {N : Nat} (h1 : 1 ≤ N) (h : okCount N = true) : Counted N := by
  unfold okCount at h
  cases ha : allF N (unitsL N) (unitsL N).length N with
  | none => rw [ha] at h; cases h
  | some s =>
    rw [ha] at h
    simp only [Bool.and_eq_true] at h
    obtain ⟨⟨hm, hL⟩, hr⟩ := h
    obtain ⟨t, ht, sim⟩ := allF_sim (show 0 < N by omega) (Nat.le_refl N) ha
    cases hq : rsF N s.D ((tabOf N (unitsL N) s.ls).map (·.1)) ⟨0, 0, []⟩ with
    | none => rw [hq] at hr; cases hr
    | some q =>
      rw [hq] at hr
      simp only at hr
      rw [← sim.tab] at hq
      have hT : ∀ e ∈ t.1, e.1.1 < N ∧ e.1.2 < N := fun e he => by
        rw [sim.tab] at he
        unfold tabOf at he
        obtain ⟨x, _, hx⟩ := List.mem_flatMap.mp he
        obtain ⟨p, hp, rfl⟩ := List.mem_map.mp hx
        obtain ⟨u, _, rfl⟩ := List.mem_map.mp hp
        exact ⟨Nat.mod_lt _ (by omega), Nat.mod_lt _ (by omega)⟩
      obtain ⟨st', e1, e2⟩ := rsF_sim (show 0 < N by omega) sim.rep hT t.1 0 ⟨0, 0, []⟩ q ([], []) rfl rfl ⟨fun c => ⟨fun k => (by cases k), fun k => by unfold dig at k; rw [Nat.zero_div] at k; cases k⟩, rfl⟩ rfl hq
      refine ⟨t.1, t.2, st'.1, st'.2, ht, ?_, e1, ?_, fun c hc => ?_⟩
      · rw [sim.len]; exact Nat.le_of_ble_eq_true hL
      · rw [← sim.m]; exact Nat.eq_of_beq_eq_true hm
      · have := List.all_eq_true.mp hr c hc
        unfold okS at this
        rw [e2] at this
        cases hz : sizesOf st'.2 c with
        | nil => rw [hz] at this; cases this
        | cons z l =>
          rw [hz] at this
          simp only [Bool.and_eq_true] at this
          have z1 := Nat.eq_of_beq_eq_true this.1.1
          refine ⟨l, by rw [z1], fun y hy => ?_, Nat.eq_of_beq_eq_true this.2⟩
          rw [← z1]
          exact eqAll_of this.1.2 y hy
end Ft

namespace Ft
open PySem L2
/-- a tuple of three integers -/
def TriAt (H : Hp) (v : V) (e : Tri) : Prop := ∃ t, v = .ref t ∧ H t = some (.tup [.int (e.1 : Int), .int (e.2.1 : Int), .int (e.2.2 : Int)])
theorem TriAt.same {H H' : Hp} {v : V} {e : Tri} (h : TriAt H v e) (s : Same H H') : TriAt H' v e := by
  obtain ⟨t, a, b⟩ := h
  exact ⟨t, a, s _ _ b⟩
structure TrisAt (H : Hp) (us : List V) (l : List Tri) : Prop where
  len : us.length = l.length
  at_ : ∀ (i : Nat) (u : V) (e : Tri), us[i]? = some u → l[i]? = some e → TriAt H u e
theorem TrisAt.same {H H' : Hp} {us : List V} {l : List Tri} (h : TrisAt H us l) (s : Same H H') : TrisAt H' us l := ⟨h.len, fun i u e a b => (h.at_ i u e a b).same s⟩
theorem TrisAt.snoc {H : Hp} {us : List V} {l : List Tri} {u : V} {e : Tri} (h : TrisAt H us l) (k : TriAt H u e) : TrisAt H (us ++ [u]) (l ++ [e]) := by
  refine ⟨by rw [List.length_append, List.length_append, h.len]; rfl, fun i v f a b => ?_⟩
  rcases Nat.lt_or_ge i us.length with hi | hi
  · rw [List.getElem?_append_left hi] at a
    rw [List.getElem?_append_left (by rw [← h.len]; exact hi)] at b
    exact h.at_ i v f a b
  · rw [List.getElem?_append_right hi] at a
    rw [List.getElem?_append_right (by rw [← h.len]; exact hi), ← h.len] at b
    cases hk : i - us.length with
    | zero => rw [hk] at a b; cases a; cases b; exact k
    | succ n => rw [hk] at a; cases a
theorem TriAt.upd {H : Hp} {p : Addr} {xs : List V} {o : HO} {v : V} {e : Tri} (hp : H p = some (.lst xs)) (h : TriAt H v e) : TriAt (upd H p o) v e := by
  obtain ⟨t, a, b⟩ := h
  exact ⟨t, a, by rw [upd_ne (ne_of b hp (by intro z; cases z))]; exact b⟩
theorem TrisAt.upd {H : Hp} {p : Addr} {xs : List V} {o : HO} {us : List V} {l : List Tri} (hp : H p = some (.lst xs)) (h : TrisAt H us l) : TrisAt (upd H p o) us l := ⟨h.len, fun i u e a b => (h.at_ i u e a b).upd hp⟩
theorem TrisAt.get {H : Hp} {us : List V} {l : List Tri} (h : TrisAt H us l) {i : Nat} {u : V} (hu : us[i]? = some u) : ∃ e, l[i]? = some e ∧ TriAt H u e := by
  have hi : i < l.length := by rw [← h.len]; exact (List.getElem?_eq_some_iff.mp hu).1
  exact ⟨l[i], List.getElem?_eq_getElem hi, h.at_ i u _ hu (List.getElem?_eq_getElem hi)⟩
def sp_from : Sp := fun vs H Q _ => ∃ n a : Int, vs = [.int n, .int a] ∧ Q (.bl (decide (a ≤ n))) H
def sp_checkFrom : Sp := fun vs H Q _ => ∃ n a : Int, vs = [.int n, .int a] ∧ a ≤ n ∧ Q .non H
def sp_level : Sp := fun vs H Q _ => ∃ n : Nat, vs = [.int (n : Int)] ∧ 1 ≤ n ∧ n ≤ 400 ∧ Q .non H
def sp_divisors : Sp := fun vs H Q _ => ∃ n : Nat, vs = [.int (n : Int)] ∧ 1 ≤ n ∧ n ≤ 400 ∧ ∀ H' p, Same H H' → H' p = some (.tup ((divP n (Float64.isqrt n)).map fun d : Nat => V.int (d : Int))) → Q (.ref p) H'
def sp_many : Sp := fun vs H Q _ => ∃ n c : Nat, vs = [.int (n : Int), .int (c : Int)] ∧ 1 ≤ n ∧ n ≤ 400 ∧ 1 ≤ c ∧ c ≤ 400 ∧ ∀ H', Same H H' → Q (.int (manyOf n c : Int)) H'
theorem filter_succ (f : Nat → Bool) (j : Nat) : (List.range (j + 1)).filter f = (List.range j).filter f ++ if f j = true then [j] else [] := by
  rw [List.range_succ, List.filter_append]
  cases h : f j
  · rw [List.filter_cons_of_neg (by rw [h]; decide)]; rfl
  · rw [List.filter_cons_of_pos h]; rfl
theorem filter_len (f : Nat → Bool) (j : Nat) : ((List.range j).filter f).length ≤ j := by
  have := List.length_filter_le f (List.range j)
  rwa [List.length_range] at this
/-- a comprehension with a test takes one in, or not -/
theorem lc_pos {H H2 : Hp} {D : Addr} {f : Nat → Bool} {g : Nat → V} {i : Nat} (hD : H D = none) (s2 : Same H H2) (h2 : H2 D = some (.lst (((List.range i).filter f).map g))) (hf : f i = true) (hi : i ≤ 1000) :
    ∃ acc, H2 D = some (.lst acc) ∧ acc.length < sizeLine ∧ Same H (upd H2 D (.lst (acc ++ [g i]))) ∧ upd H2 D (.lst (acc ++ [g i])) D = some (.lst (((List.range (i + 1)).filter f).map g)) := by
  refine ⟨_, h2, ?_, fun b o e => ?_, ?_⟩
  · rw [List.length_map]
    exact Nat.lt_of_le_of_lt (Nat.le_trans (filter_len _ _) hi) (by decide)
  · rw [upd_ne (ne_of_none e hD)]
    exact s2 _ _ e
  · rw [upd_same, filter_succ, if_pos hf, List.map_append]
    rfl
theorem lc_neg {H H2 : Hp} {D : Addr} {f : Nat → Bool} {g : Nat → V} {i : Nat} (s2 : Same H H2) (h2 : H2 D = some (.lst (((List.range i).filter f).map g))) (hf : f i = false) :
    Same H H2 ∧ H2 D = some (.lst (((List.range (i + 1)).filter f).map g)) := by
  refine ⟨s2, ?_⟩
  rw [h2, filter_succ, if_neg (by rw [hf]; decide), List.append_nil]
section
variable {P : Program} {w : World} {K : PySem.W.Frag} {mg : Str → Option Value} {base : Heap}
theorem ok_is_from (D : Df K mg "is_from" s_is_from ["thing", "least"]) (c_is_integer : Cal P w K mg base 1 "is_integer" sp_is_integer) : Cal P w K mg base 2 "is_from" sp_from := by
  obtain ⟨f, fd, F, m, b⟩ := D.ex
  have sc := sc_is_from
  refine ⟨f, fd, _, F.ok sc (fun _ _ _ _ ⟨_, _, e, _⟩ => by rw [e]; rfl) (fun cdv A outer s H vs Q E hr h => ?_), m, F.kp, b⟩
  obtain ⟨n, a, rfl, q⟩ := h
  refine ⟨_, (pss_one (ps_ret (pe_and (pe_c c_is_integer hr (by decide) (by rfl) (pa_cons (pv 0) pa_nil)) (pe_one (pe_cmpR op_ge (pv 0) (pv 1) (nomark _)))))), ?_⟩
  refine ⟨_, rfl, n, rfl, trivial, true, rfl, iteT ?_⟩
  exact ⟨_, rfl, _, rfl, _, _, rfl, rfl, q⟩
theorem ok_check_from (D : Df K mg "check_from" s_check_from ["thing", "least"]) (c_is_from : Cal P w K mg base 2 "is_from" sp_from) : Cal P w K mg base 3 "check_from" sp_checkFrom := by
  obtain ⟨f, fd, F, m, b⟩ := D.ex
  have sc := sc_check_from
  refine ⟨f, fd, _, F.ok sc (fun _ _ _ _ ⟨_, _, e, _⟩ => by rw [e]; rfl) (fun cdv A outer s H vs Q E hr h => ?_), m, F.kp, b⟩
  obtain ⟨n, a, rfl, ha, q⟩ := h
  refine ⟨_, (pss_one (ps_if (pt_not (pt_val (pe_c c_is_from hr (by decide) (by rfl) (pa_cons (pv 0) (pa_cons (pv 1) pa_nil)))))
      (pss_one ps_never)
      pss_nil)), ?_⟩
  refine ⟨_, rfl, _, rfl, n, a, rfl, _, rfl, ?_⟩
  rw [decide_eq_true ha]
  exact iteF q
theorem ok_check_level (D : Df K mg "check_level" s_check_level ["level"]) (c_is_between : Cal P w K mg base 2 "is_between" sp_is_between) : Cal P w K mg base 3 "check_level" sp_level := by
  obtain ⟨f, fd, F, m, b⟩ := D.ex
  have sc := sc_check_level
  refine ⟨f, fd, _, F.ok sc (fun _ _ _ _ ⟨_, e, _⟩ => by rw [e]; rfl) (fun cdv A outer s H vs Q E hr h => ?_), m, F.kp, b⟩
  obtain ⟨n, rfl, h1, h2, q⟩ := h
  refine ⟨_, (pss_one (ps_if (pt_not (pt_val (pe_c c_is_between hr (by decide) (by rfl) (pa_cons (pv 0) (pa_cons pe_int (pa_cons pe_int pa_nil))))))
      (pss_one ps_never)
      pss_nil)), ?_⟩
  refine ⟨_, rfl, (n : Int), 1, 400, rfl, trivial, _, rfl, ?_⟩
  rw [decide_eq_true (show (1 : Int) ≤ (n : Int) by omega), decide_eq_true (show (n : Int) ≤ 400 by omega)]
  exact iteF q
theorem ok_divisors (D : Df K mg "divisors" s_divisors ["n"]) (B : Bi mg) (c_check_from : Cal P w K mg base 3 "check_from" sp_checkFrom) : Cal P w K mg base 4 "divisors" sp_divisors := by
  obtain ⟨f, fd, F, m, b⟩ := D.ex
  have sc := sc_divisors
  refine ⟨f, fd, _, F.ok sc (fun _ _ _ _ ⟨_, e, _⟩ => by rw [e]; rfl) (fun cdv A outer s H vs Q E hr h => ?_), m, F.kp, b⟩
  obtain ⟨n, rfl, h1, h2, q⟩ := h
  refine ⟨_, (pss_cons (ps_expr (pe_c c_check_from hr (by decide) (by rfl) (pa_cons (pv 0) (pa_cons pe_int pa_nil))))
      (pss_cons (ps_setLc (i := 2) (own := [("d", 1)]) (g := gName 1)  (by rfl) sc.nd rfl rfl (sw_true rfl rfl rfl (by decide +kernel)) (pi_range2 (by rfl) B.range (pa_cons pe_int (pa_cons (pe_op op_add (pe_callBfun cr_isqrt (by rfl) B.isqrt (pa_cons (pv 0) pa_nil)) pe_int) pa_nil))) (blkOk_by (own := [("d", 1)]) (N := N_divisors) (sc := defScope s_divisors) (by decide +kernel)) (fun _ _ _ _ _ => (pg_name (i := 1) sc.nd rfl (Or.inl rfl))) (fun _ _ _ _ _ => (pts_one (pt_cmpR op_eq (pe_op op_mod (pv 0) (pv 1)) pe_int (nomark _)))) (fun _ _ _ _ _ => (pv 1)))
      (pss_cons (ps_setLc (i := 3) (own := [("d", 1)]) (g := gName 1)  (by rfl) sc.nd rfl rfl (sw_true rfl rfl rfl (by decide +kernel)) (pi_reversed (by rfl) B.reversed (pa_cons (pv 2) pa_nil)) (blkOk_by (own := [("d", 1)]) (N := N_divisors) (sc := defScope s_divisors) (by decide +kernel)) (fun _ _ _ _ _ => (pg_name (i := 1) sc.nd rfl (Or.inl rfl))) (fun _ _ _ _ _ => (pts_one (pt_cmpR op_ne (pe_op op_mul (pv 1) (pv 1)) (pv 0) (nomark _)))) (fun _ _ _ _ _ => (pe_op op_fdivW (pv 0) (pv 1))))
      (pss_one (ps_ret (pe_callTy call_tuple_of (by rfl) B.tuple (by decide +kernel) (pa_cons (pe_op op_cat (pv 2) (pv 3)) pa_nil))))))), ?_⟩
  refine ⟨_, rfl, (n : Int), 1, rfl, by omega, ?_⟩
  generalize hr0 : Float64.isqrt n = r at q
  have rle : r ≤ n := by rw [← hr0]; exact isqrt_le n
  refine ⟨_, rfl, (n : Int), rfl, by omega, by omega, ?_⟩
  rw [Int.toNat_natCast, hr0]
  refine ⟨_, _, rfl, rfl, 1, (r : Int) + 1, rfl, ⟨by decide, by decide, by omega, by omega⟩, fun D1 hD1 => ?_⟩
  rw [show ((r : Int) + 1 - 1).toNat = r by omega]
  refine lc_range (fun i H' => Same H H' ∧ H' D1 = some (.lst (((List.range i).filter fun i => decide (n % (i + 1) = 0)).map fun i : Nat => V.int ((i + 1 : Nat) : Int)))) ⟨Same.upd_new hD1, upd_same⟩ ?_ ?_
  · rintro i H2 hi ⟨s2, h2⟩
    have ei : (1 : Int) + (i : Int) = ((i + 1 : Nat) : Int) := by omega
    dsimp only [gName]
    rw [ei]
    refine ⟨rfl, _, rfl, _, rfl, _, _, rfl, rfl, (by omega : (0 : Int) < ((i + 1 : Nat) : Int)), rfl, _, rfl, ifI (fun e => ?_) fun e => ?_⟩
    · have e' : n % (i + 1) = 0 := Int.ofNat.inj e
      refine ⟨_, rfl, _, h2, ?_, fun b o e => ?_, ?_⟩
      · rw [List.length_map]
        exact Nat.lt_of_le_of_lt (Nat.le_trans (filter_len _ _) (by omega : i ≤ 400)) (by decide)
      · rw [upd_ne (ne_of_none e hD1)]
        exact s2 _ _ e
      · rw [upd_same, filter_succ, if_pos (decide_eq_true e'), List.map_append]
        rfl
    · have e' : ¬ n % (i + 1) = 0 := fun z => e (congrArg Int.ofNat z)
      refine ⟨s2, ?_⟩
      rw [h2, filter_succ, if_neg (by rw [decide_eq_false e']; decide), List.append_nil]
  rintro H2 ⟨s2, h2⟩
  have h2' : H2 D1 = some (.lst ((lowL n r).map fun d : Nat => V.int (d : Int))) := by rw [h2]; unfold lowL; rw [List.map_map]; rfl
  have llow : (lowL n r).length ≤ 400 := by unfold lowL; rw [List.length_map]; exact Nat.le_trans (filter_len _ _) (by omega)
  have lowm : ∀ d ∈ lowL n r, 1 ≤ d ∧ d ≤ 400 := fun d hd => by
    unfold lowL at hd
    obtain ⟨j, hj, rfl⟩ := List.mem_map.mp hd
    have := List.mem_range.mp (List.mem_filter.mp hj).1
    omega
  have hdP : divP n r = lowL n r ++ (((lowL n r).reverse.filter fun d => decide (d * d ≠ n)).map fun d => n / d) := rfl
  rw [hdP] at q
  generalize lowL n r = low at h2' llow lowm q
  dsimp only [gName]
  refine ⟨_, rfl, D1, _, rfl, SqL.of h2', fun D2 hD2 => ?_⟩
  refine lc_it (walk_rev (xs := low.map fun d : Nat => V.int (d : Int))) (fun i H' => Same H2 H' ∧ H' D2 = some (.lst (((low.reverse.take i).filter fun d => decide (d * d ≠ n)).map fun d : Nat => V.int ((n / d : Nat) : Int)))) ⟨Same.upd_new hD2, upd_same⟩ (fun i H' _ ⟨s3, _⟩ => SqL.of (s3 _ _ h2')) ?_ ?_
  · rintro i x H3 _ hi ⟨s3, h3⟩ ⟨rfl, hx⟩
    rw [List.length_map] at hi hx
    obtain ⟨z, hz, rfl⟩ : ∃ z, low.reverse[i]? = some z ∧ x = V.int (z : Int) := by
      rw [List.getElem?_reverse hi]
      rw [List.getElem?_map] at hx
      cases e : low[low.length - 1 - i]? with
      | none => rw [e] at hx; cases hx
      | some z => rw [e] at hx; exact ⟨z, rfl, (Option.some.inj hx).symm⟩
    have hzm := lowm z (List.mem_reverse.mp (List.mem_of_getElem? hz))
    have htk : low.reverse.take (i + 1) = low.reverse.take i ++ [z] := by rw [List.take_add_one, hz]; rfl
    have hmul : (z : Int) * (z : Int) = ((z * z : Nat) : Int) := (Int.natCast_mul z z).symm
    have zz : z * z ≤ 400 * 400 := Nat.mul_le_mul hzm.2 hzm.2
    refine ⟨rfl, _, rfl, _, rfl, _, _, rfl, rfl, .inl ⟨by omega, by omega⟩, _, rfl, rfl, _, rfl, ifNI (fun e => ?_) fun e => ?_⟩
    · have e' : z * z ≠ n := fun k => e (hmul.trans (congrArg Nat.cast k))
      refine ⟨_, rfl, _, rfl, _, _, rfl, rfl, cdivN (by omega) (by omega), _, h3, ?_, fun b o e => ?_, ?_⟩
      · rw [List.length_map]
        exact Nat.lt_of_le_of_lt (Nat.le_trans (List.length_filter_le _ _) (by rw [List.length_take]; omega : _ ≤ 400)) (by decide)
      · rw [upd_ne (ne_of_none e hD2)]
        exact s3 _ _ e
      · rw [upd_same, htk, List.filter_append, show [z].filter (fun d => decide (d * d ≠ n)) = [z] by simp [e'], List.map_append]
        rfl
    · have e' : z * z = n := Int.ofNat.inj (hmul.symm.trans e)
      refine ⟨s3, ?_⟩
      rw [h3, htk, List.filter_append, show [z].filter (fun d => decide (d * d ≠ n)) = [] by simp [e'], List.append_nil]
  · rintro H3 ⟨s3, h3⟩
    rw [List.length_map, ← List.length_reverse, List.take_length] at h3
    have s03 := s2.trans s3
    dsimp only [gName]
    have lh : ((low.reverse.filter fun d => decide (d * d ≠ n)).map fun d : Nat => V.int ((n / d : Nat) : Int)).length ≤ 400 := by
      rw [List.length_map]
      exact Nat.le_trans (List.length_filter_le _ _) (by rw [List.length_reverse]; exact llow)
    refine ⟨_, rfl, _, rfl, D1, D2, _, _, rfl, rfl, s3 _ _ h2', h3, ?_, fun p hp => ?_⟩
    · rw [List.length_map]
      exact Nat.le_trans (Nat.add_le_add llow lh) (by decide)
    refine ⟨p, _, rfl, .inl ⟨SqL.of upd_same, fun l hl => ?_⟩⟩
    refine q _ _ (s03.trans ((Same.upd_new hp).trans (Same.upd_new hl))) ?_
    rw [upd_same, List.map_append, List.map_map]
    rfl
theorem ok_many (D : Df K mg "how_many_edges" s_how_many_edges ["level", "c"]) (B : Bi mg) : Cal P w K mg base 1 "how_many_edges" sp_many := by
  obtain ⟨f, fd, F, m, b⟩ := D.ex
  have sc := sc_how_many_edges
  refine ⟨f, fd, _, F.ok sc (fun _ _ _ _ ⟨_, _, e, _⟩ => by rw [e]; rfl) (fun cdv A outer s H vs Q E hr h => ?_), m, F.kp, b⟩
  obtain ⟨n, c, rfl, h1, h2, c1, c2, q⟩ := h
  refine ⟨_, (pss_cons (ps_set (i := 2) sc.nd rfl (Or.inr rfl) (pe_callBfun cr_gcd (by rfl) B.gcd (pa_cons (pv 1) (pa_cons (pe_op op_fdivW (pv 0) (pv 1)) pa_nil))))
      (pss_one (ps_ret (pe_callB call_len_seq (by rfl) B.len_ (by decide +kernel) (pa_cons (pe_lc (own := [("x", 3)]) (g := gName 3)  (by rfl) sc.nd (pi_range2 (by rfl) B.range (pa_cons pe_int (pa_cons (pe_op op_add (pv 2) pe_int) pa_nil))) (blkOk_by (own := [("x", 3)]) (N := N_how_many_edges) (sc := defScope s_how_many_edges) (by decide +kernel)) (fun _ _ _ _ _ => (pg_name (i := 3) sc.nd rfl (Or.inl rfl))) (fun _ _ _ _ _ => (pts_one (pt_cmpR op_eq (pe_callBfun cr_gcd (by rfl) B.gcd (pa_cons (pv 3) (pa_cons (pv 2) pa_nil))) pe_int (nomark _)))) (fun _ _ _ _ _ => (pv 3))) pa_nil))))), ?_⟩
  have g1 : Nat.gcd c (n / c) ≤ c := Nat.le_of_dvd (by omega) (Nat.gcd_dvd_left _ _)
  refine ⟨_, rfl, _, rfl, _, rfl, _, _, rfl, rfl, cdivN (by omega) (by omega), (c : Int), ((n / c : Nat) : Int), rfl, ?_⟩
  have e0 : Nat.gcd ((c : Int)).natAbs (((n / c : Nat) : Int)).natAbs = Nat.gcd c (n / c) := rfl
  rw [e0]
  have mo : manyOf n c = ((List.range (Nat.gcd c (n / c))).filter fun i => decide (Nat.gcd (i + 1) (Nat.gcd c (n / c)) = 1)).length := rfl
  rw [mo] at q
  generalize Nat.gcd c (n / c) = g at q g1
  dsimp only [gName]
  refine ⟨_, rfl, _, _, rfl, rfl, 1, (g : Int) + 1, rfl, ⟨by decide, by decide, by omega, by omega⟩, fun D1 hD1 => ?_⟩
  rw [show ((g : Int) + 1 - 1).toNat = g by omega]
  refine lc_range (fun i H' => Same H H' ∧ H' D1 = some (.lst (((List.range i).filter fun i => decide (Nat.gcd (i + 1) g = 1)).map fun i : Nat => V.int ((i + 1 : Nat) : Int)))) ⟨Same.upd_new hD1, upd_same⟩ ?_ ?_
  · rintro i H2 hi ⟨s2, h2⟩
    have ei : (1 : Int) + (i : Int) = ((i + 1 : Nat) : Int) := by omega
    dsimp only [gName]
    rw [ei]
    refine ⟨rfl, _, rfl, _, rfl, _, _, rfl, rfl, _, rfl, ifI (fun e => ?_) fun e => ?_⟩
    · refine ⟨_, rfl, lc_pos hD1 s2 h2 (decide_eq_true (Int.ofNat.inj e)) (by omega)⟩
    · exact lc_neg s2 h2 (decide_eq_false fun z => e (congrArg Int.ofNat z))
  rintro H2 ⟨s2, h2⟩
  refine ⟨D1, _, rfl, .inl (SqL.of h2), ?_⟩
  rw [List.length_map]
  exact q _ s2
end
end Ft

namespace Ft
open PySem L2
/-- the divisors of a level are at most 24, and the program's way to them -/
structure DivOk : Prop where
  eq : ∀ n : Nat, 1 ≤ n → n ≤ 400 → divP n (Float64.isqrt n) = divL n
  len : ∀ n : Nat, 1 ≤ n → n ≤ 400 → (divL n).length ≤ 24
theorem divL_mem {n d : Nat} (h : d ∈ divL n) : 1 ≤ d ∧ d ≤ n ∧ n % d = 0 := by
  unfold divL at h
  obtain ⟨j, hj, rfl⟩ := List.mem_map.mp h
  have h1 := List.mem_range.mp (List.mem_filter.mp hj).1
  have h2 := of_decide_eq_true (List.mem_filter.mp hj).2
  exact ⟨by omega, by omega, h2⟩
theorem edge_bound {n : Nat} {e : Tri} (h : e ∈ edges n) : 1 ≤ e.1 ∧ e.1 ≤ n ∧ e.2.1 ≤ n ∧ e.2.2 ≤ n := by
  obtain ⟨c, hc, rfl⟩ := List.mem_map.mp h
  have hm := divL_mem hc
  refine ⟨hm.1, hm.2.1, ?_, Nat.div_le_self _ _⟩
  have g1 : Nat.gcd c (n / c) ≤ c := Nat.le_of_dvd (by omega) (Nat.gcd_dvd_left _ _)
  exact Nat.le_trans (filter_len _ _) (by omega)
theorem sumE_go (l : List Tri) : ∀ s : Nat, (l.foldl (fun s e => s + e.2.1 * e.2.2) s : Nat) = s + (l.map fun e => e.2.1 * e.2.2).sum := by
  induction l with
  | nil => intro s; rfl
  | cons e l ih => intro s; rw [List.foldl_cons, ih, List.map_cons, List.sum_cons]; omega
theorem sumE_ints (l : List Tri) : (l.map fun e => ((e.2.1 * e.2.2 : Nat) : Int)).sum = ((sumE l : Nat) : Int) := by
  have h := sumE_go l 0
  unfold sumE
  rw [h, Nat.zero_add]
  clear h
  induction l with
  | nil => rfl
  | cons e l ih => rw [List.map_cons, List.map_cons, List.sum_cons, List.sum_cons, ih]; rfl
def sp_edges : Sp := fun vs H Q _ => ∃ n : Nat, vs = [.int (n : Int)] ∧ 1 ≤ n ∧ n ≤ 400 ∧ ∀ H' p us, Same H H' → H' p = some (.tup us) → TrisAt H' us (edges n) → Q (.ref p) H'
def sp_index : Sp := fun vs H Q _ => ∃ n : Nat, vs = [.int (n : Int)] ∧ 1 ≤ n ∧ n ≤ 400 ∧ ∀ H', Same H H' → Q (.int (sumE (edges n) : Int)) H'
section
variable {P : Program} {w : World} {K : PySem.W.Frag} {mg : Str → Option Value} {base : Heap}
theorem fn_edges {f : Addr} {fd : FuncData} (F : Fun K "edges_of" "edges_of" s_edges_of f fd) (O : DivOk) (B : Bi mg) (c_check_level : Cal P w K mg base 3 "check_level" sp_level) (c_divisors : Cal P w K mg base 4 "divisors" sp_divisors) (c_how_many_edges : Cal P w K mg base 1 "how_many_edges" sp_many) : FnOk P w K mg base CX0 5 f fd ["level"] sp_edges := by
  have sc := sc_edges_of
  refine F.ok sc (fun _ _ _ _ ⟨_, e, _⟩ => by rw [e]; rfl) (fun cdv A outer s H vs Q E hr h => ?_)
  obtain ⟨n, rfl, h1, h2, q⟩ := h
  refine ⟨_, (pss_cons (ps_expr (pe_c c_check_level hr (by decide) (by rfl) (pa_cons (pv 0) pa_nil)))
      (pss_one (ps_ret (pe_callTy call_tuple_of (by rfl) B.tuple (by decide +kernel) (pa_cons (pe_lc (own := [("c", 1)]) (g := gName 1) (tt := tYes) (by rfl) sc.nd (pi_tup (pe_c c_divisors hr (by decide) (by rfl) (pa_cons (pv 0) pa_nil))) (blkOk_by (own := [("c", 1)]) (N := N_edges_of) (sc := defScope s_edges_of) (by decide +kernel)) (fun _ _ _ _ _ => (pg_name (i := 1) sc.nd rfl (Or.inl rfl))) (fun _ _ _ _ _ => pts_nil) (fun _ _ _ _ _ => (pe_tup (pa_cons (pv 1) (pa_cons (pe_c c_how_many_edges hr (by decide) (by rfl) (pa_cons (pv 0) (pa_cons (pv 1) pa_nil))) (pa_cons (pe_op op_fdivW (pv 0) (pe_callBfun cr_gcd (by rfl) B.gcd (pa_cons (pe_op op_mul (pv 1) (pv 1)) (pa_cons (pv 0) pa_nil)))) pa_nil)))))) pa_nil))))), ?_⟩
  refine ⟨_, rfl, n, rfl, h1, h2, ?_⟩
  refine ⟨_, rfl, n, rfl, h1, h2, fun H1 p s1 hp => ?_⟩
  rw [O.eq n h1 h2] at hp
  have hlen := O.len n h1 h2
  have hmem : ∀ d ∈ divL n, 1 ≤ d ∧ d ≤ n ∧ n % d = 0 := fun d hd => divL_mem hd
  have he : edges n = (divL n).map (edgeOf n) := rfl
  rw [he] at q
  generalize divL n = ds at hp hlen hmem q
  refine ⟨p, rfl, ⟨_, SqT.of hp⟩, fun D1 hD1 => ?_⟩
  refine lc_tup (K := K) (a := p) (xs := ds.map fun d : Nat => V.int (d : Int)) (fun i H' => Same H1 H' ∧ ∃ us : List V, H' D1 = some (.lst us) ∧ TrisAt H' us ((ds.take i).map (edgeOf n))) ⟨Same.upd_new hD1, [], upd_same, rfl, fun i u e a => by cases a⟩ (fun i H' _ ⟨s2, _⟩ => SqT.of (s2 _ _ hp)) ?_ ?_
  · rintro i x H2 hx ⟨s2, us, hus, tus⟩
    obtain ⟨c, hc, rfl⟩ : ∃ c, ds[i]? = some c ∧ x = V.int (c : Int) := by
      rw [List.getElem?_map] at hx
      cases e : ds[i]? with
      | none => rw [e] at hx; cases hx
      | some z => rw [e] at hx; exact ⟨z, rfl, (Option.some.inj hx).symm⟩
    have hcm := hmem c (List.mem_of_getElem? hc)
    have htk : ds.take (i + 1) = ds.take i ++ [c] := by rw [List.take_add_one, hc]; rfl
    have cc : c * c ≤ 400 * 400 := Nat.mul_le_mul (by omega) (by omega)
    have hmul : (c : Int) * (c : Int) = ((c * c : Nat) : Int) := (Int.natCast_mul c c).symm
    refine ⟨rfl, _, rfl, _, rfl, _, rfl, n, c, rfl, h1, h2, hcm.1, by omega, fun H3 s3 => ?_⟩
    have hg : 0 < Nat.gcd (c * c) n := Nat.gcd_pos_of_pos_right _ (by omega)
    refine ⟨_, rfl, _, rfl, _, rfl, _, _, rfl, rfl, .inl ⟨by omega, by omega⟩, _, rfl, ((c * c : Nat) : Int), (n : Int), ?_, ?_⟩
    · show [V.int ((c : Int) * (c : Int)), V.int (n : Int)] = _
      rw [hmul]
    have e0 : Nat.gcd (((c * c : Nat) : Int)).natAbs ((n : Int)).natAbs = Nat.gcd (c * c) n := rfl
    rw [e0]
    have hgle : Nat.gcd (c * c) n ≤ n := Nat.le_of_dvd (by omega) (Nat.gcd_dvd_right _ _)
    refine ⟨_, _, rfl, rfl, cdivN (by omega) (by omega), (by show (3 : Nat) ≤ sizeLine; decide), fun t ht => ?_⟩
    have hd3 := s3 _ _ hus
    have s4 : Same H3 (upd H3 t (.tup [V.int (c : Int), V.int (manyOf n c : Int), V.int ((n / Nat.gcd (c * c) n : Nat) : Int)])) := Same.upd_new ht
    have hd4 := s4 _ _ hd3
    have lus : us.length ≤ 24 := by rw [tus.len, List.length_map, List.length_take]; omega
    refine ⟨us, hd4, Nat.lt_of_le_of_lt lus (by decide), fun b o e => ?_, _, upd_same, ?_⟩
    · rw [upd_ne (ne_of_none e hD1)]
      exact s4 _ _ (s3 _ _ (s2 _ _ e))
    · rw [htk, List.map_append]
      exact TrisAt.snoc (((tus.same s3).same s4).upd hd4) (TriAt.upd hd4 ⟨t, rfl, upd_same⟩)
  · rintro H2 ⟨s2, us, hus, tus⟩
    rw [List.length_map, List.take_length] at tus
    refine ⟨D1, us, rfl, .inl ⟨SqL.of hus, fun l hl => ?_⟩⟩
    exact q _ _ us (s1.trans (s2.trans (Same.upd_new hl))) upd_same (tus.same (Same.upd_new hl))
theorem fn_index {f : Addr} {fd : FuncData} (F : Fun K "index_of" "index_of" s_index_of f fd) (O : DivOk) (B : Bi mg) (c_edges_of : Cal P w K mg base 5 "edges_of" sp_edges) : FnOk P w K mg base CX0 6 f fd ["level"] sp_index := by
  have sc := sc_index_of
  refine F.ok sc (fun _ _ _ _ ⟨_, e, _⟩ => by rw [e]; rfl) (fun cdv A outer s H vs Q E hr h => ?_)
  obtain ⟨n, rfl, h1, h2, q⟩ := h
  refine ⟨_, (pss_one (ps_ret (pe_callB (cr_sum rfl) (by rfl) B.sum (by decide +kernel) (pa_cons (pe_lc (own := [("c", 1), ("many", 2), ("width", 3)]) (g := gTup K 3 (gCons (gName 1) (gCons (gName 2) (gCons (gName 3) gNil)))) (tt := tYes) (by rfl) sc.nd (pi_tup (pe_c c_edges_of hr (by decide) (by rfl) (pa_cons (pv 0) pa_nil))) (blkOk_by (own := [("c", 1), ("many", 2), ("width", 3)]) (N := N_index_of) (sc := defScope s_index_of) (by decide +kernel)) (fun _ _ _ _ _ => (pg_tup rfl (pgs_cons (pg_name (i := 1) sc.nd rfl (Or.inl rfl) (Or.inr rfl)) (pgs_cons (pg_name (i := 2) sc.nd rfl (Or.inl rfl) (Or.inr rfl)) (pgs_cons (pg_name (i := 3) sc.nd rfl (Or.inl rfl) (Or.inr rfl)) pgs_nil))))) (fun _ _ _ _ _ => pts_nil) (fun _ _ _ _ _ => (pe_op op_mul (pv 2) (pv 3)))) pa_nil)))), ?_⟩
  refine ⟨_, rfl, n, rfl, h1, h2, fun H1 p us s1 hp tu => ?_⟩
  have hb : ∀ e ∈ edges n, e.2.1 ≤ 400 ∧ e.2.2 ≤ 400 := fun e he => by
    have := edge_bound he
    omega
  have hel : (edges n).length ≤ 24 := by rw [show edges n = (divL n).map (edgeOf n) from rfl, List.length_map]; exact O.len n h1 h2
  have hsum := sumE_ints (edges n)
  generalize edges n = es at tu q hb hel hsum
  refine ⟨p, rfl, ⟨_, SqT.of hp⟩, fun D1 hD1 => ?_⟩
  refine lc_tup (K := K) (a := p) (xs := us) (fun i H' => Same H1 H' ∧ H' D1 = some (.lst (((es.take i).map fun e => ((e.2.1 * e.2.2 : Nat) : Int)).map V.int))) ⟨Same.upd_new hD1, upd_same⟩ (fun i H' _ ⟨s2, _⟩ => SqT.of (s2 _ _ hp)) ?_ ?_
  · rintro i x H2 hx ⟨s2, h2⟩
    obtain ⟨e, he, t, rfl, ht⟩ := tu.get hx
    have htk : es.take (i + 1) = es.take i ++ [e] := by rw [List.take_add_one, he]; rfl
    refine ⟨t, _, rfl, SqT.of (s2 _ _ ht), rfl, ?_⟩
    have hb2 := hb e (List.mem_of_getElem? he)
    have pb : e.2.1 * e.2.2 ≤ 400 * 400 := Nat.mul_le_mul hb2.1 hb2.2
    have hmul : (e.2.1 : Int) * (e.2.2 : Int) = ((e.2.1 * e.2.2 : Nat) : Int) := (Int.natCast_mul _ _).symm
    refine ⟨_, _, rfl, _, _, rfl, _, _, rfl, rfl, rfl, ?_⟩
    refine ⟨_, rfl, _, rfl, _, _, rfl, rfl, .inl ⟨by omega, by omega⟩, _, h2, ?_, fun b o e => ?_, ?_⟩
    · rw [List.length_map, List.length_map, List.length_take]
      exact Nat.lt_of_le_of_lt (Nat.le_trans (Nat.min_le_right _ _) hel) (by decide)
    · rw [upd_ne (ne_of_none e hD1)]
      exact s2 _ _ e
    · rw [upd_same, htk, List.map_append, List.map_append]
      show some (HO.lst (_ ++ [V.int ((e.2.1 : Int) * (e.2.2 : Int))])) = _
      rw [hmul]
      rfl
  · rintro H2 ⟨s2, h2⟩
    rw [tu.len, List.take_length] at h2
    refine ⟨D1, _, rfl, SqL.of h2, ?_⟩
    rw [hsum]
    exact q _ (s1.trans s2)
end
end Ft

namespace Ft
open PySem L2
/-- what repr asks of a datum -/
structure RepOk (d : PyData) : Prop where
  show_ : d.showable = true
  dict : d.hasDict = false
  depth : d.depth ≤ 64
  len : d.shown.length ≤ sizeLine
def sp_gcd : Sp := fun vs H Q _ => ∃ a b : Nat, vs = [.int (a : Int), .int (b : Int)] ∧ Q (.int ((Nat.gcd a b : Nat) : Int)) H
def sp_ldiv : Sp := fun vs H Q _ => ∃ n : Nat, vs = [.int (n : Int)] ∧ n ≤ 400 ∧ ∀ H' p, Same H H' → H p = none → H' p = some (.lst ((divL n).map fun d : Nat => V.int (d : Int))) → Q (.ref p) H'
def sp_ledges : Sp := fun vs H Q _ => ∃ n : Nat, vs = [.int (n : Int)] ∧ 1 ≤ n ∧ n ≤ 400 ∧ ∀ H' p us, Same H H' → H' p = some (.lst us) → TrisAt H' us (edges n) → Q (.ref p) H'
def sp_same (K : PySem.W.Frag) : Sp := fun vs H Q _ => ∃ (a b : Addr) (d : PyData), vs = [.ref a, .ref b] ∧ Dp K H (.ref a) d ∧ Dp K H (.ref b) d ∧ RepOk d ∧ Q (.bl true) H
section
variable {P : Program} {w : World} {K : PySem.W.Frag} {mg : Str → Option Value} {base : Heap}
theorem fn_same {f : Addr} {fd : FuncData} (F : Fun K "_law_same" "_law_same" s__law_same f fd) (B : Bi mg) : FnG P w K mg base 1 f fd ["_law_told", "_law_due"] (sp_same K) := by
  have sc := sc__law_same
  refine fun_g F sc (fun _ _ _ _ ⟨_, _, _, e, _⟩ => by rw [e]; rfl) (fun cdv A outer s H vs Q E hgd hr h => ?_)
  obtain ⟨a, b, d, rfl, ha, hb, R, q⟩ := h
  refine ⟨_, (pss_one (ps_ret (pe_cmpR op_eq (pe_callB (call_repr hgd hr) (by rfl) B.repr (by decide +kernel) (pa_cons (pv 0) pa_nil)) (pe_callB (call_repr hgd hr) (by rfl) B.repr (by decide +kernel) (pa_cons (pv 1) pa_nil)) (nomark _)))), ?_⟩
  refine ⟨_, rfl, a, d, rfl, ha, R.show_, R.dict, R.depth, R.len, ?_⟩
  refine ⟨_, rfl, b, d, rfl, hb, R.show_, R.dict, R.depth, R.len, ?_⟩
  refine ⟨rfl, ?_⟩
  have e : decide (V.str d.shown = V.str d.shown) = true := decide_eq_true rfl
  rw [e]
  exact q
theorem ok_gcd (D : Df K mg "_law_divisor" s__law_divisor ["_law_one", "_law_other"]) (B : Bi mg) : Cal P w K mg base 1 "_law_divisor" sp_gcd := by
  obtain ⟨f, fd, F, m, b⟩ := D.ex
  have sc := sc__law_divisor
  refine ⟨f, fd, _, F.ok sc (fun _ _ _ _ ⟨_, _, e, _⟩ => by rw [e]; rfl) (fun cdv A outer s H vs Q E hr h => ?_), m, F.kp, b⟩
  obtain ⟨a, b, rfl, q⟩ := h
  refine ⟨_, (pss_cons (ps_par (i := 0) (j := 1) (by rfl) sc.nd rfl rfl (by decide) rfl rfl (pa_cons (pe_callB call_abs (by rfl) B.abs (by decide +kernel) (pa_cons (pv 0) pa_nil)) (pa_cons (pe_callB call_abs (by rfl) B.abs (by decide +kernel) (pa_cons (pv 1) pa_nil)) pa_nil)) (by rfl))
      (pss_cons (ps_while PassesOwn.never (pt_cmpR op_gt (pv 1) pe_int (nomark _))
      (pss_one (ps_par (i := 0) (j := 1) (by rfl) sc.nd rfl rfl (by decide) rfl rfl (pa_cons (pv 1) (pa_cons (pe_op op_mod (pe_callTy call_int1 (by rfl) B.int_ (by decide +kernel) (pa_cons (pv 0) pa_nil)) (pv 1)) pa_nil)) (by rfl))))
      (pss_one (ps_ret (pv 0))))), ?_⟩
  have ea : ∀ n : Nat, (if (n : Int) < 0 then -(n : Int) else (n : Int)) = (n : Int) := fun n => by rw [if_neg (by omega)]
  refine ⟨_, rfl, _, rfl, _, rfl, _, rfl, _, _, rfl, ?_⟩
  rw [ea, ea]
  refine while_go (fun σ H' => H = H' ∧ ∃ (c e : Nat), σ = [some (.int (c : Nat)), some (.int (e : Nat))] ∧ Nat.gcd c e = Nat.gcd a b) (fun σ _ => m0 1 σ) ⟨rfl, a, b, rfl, rfl⟩ ?_
  rintro σ _ ⟨rfl, c, e, rfl, hce⟩
  refine ⟨_, rfl, _, _, rfl, rfl, _, rfl, ifD (fun hne => ?_) fun he => ?_⟩
  · have e0 : 0 < e := by omega
    refine ⟨fun σ' H' => H = H' ∧ ∃ (c' e' : Nat), σ' = [some (.int (c' : Nat)), some (.int (e' : Nat))] ∧ Nat.gcd c' e' = Nat.gcd a b ∧ e' < e, ?_, ?_⟩
    · rintro σ' _ ⟨rfl, c', e', rfl, h1, h2⟩
      exact ⟨_, (by show ((e' : Int)).toNat < ((e : Int)).toNat; omega), rfl, rfl, c', e', rfl, h1⟩
    refine ⟨_, rfl, _, rfl, .inl ⟨_, rfl, _, rfl, _, _, rfl, rfl, (by show (0 : Int) < (e : Int); omega), _, _, rfl, ?_⟩⟩
    refine ⟨rfl, e, c % e, rfl, ?_, Nat.mod_lt _ e0⟩
    rw [← hce, Nat.gcd_comm e, ← Nat.gcd_rec, Nat.gcd_comm]
  · have e0 : e = 0 := by omega
    subst e0
    rw [Nat.gcd_zero_right] at hce
    subst hce
    exact ⟨_, rfl, q⟩
theorem ok_ldiv (D : Df K mg "_law_divisors" s__law_divisors ["_law_n"]) (B : Bi mg) : Cal P w K mg base 1 "_law_divisors" sp_ldiv := by
  obtain ⟨f, fd, F, m, b⟩ := D.ex
  have sc := sc__law_divisors
  refine ⟨f, fd, _, F.ok sc (fun _ _ _ _ ⟨_, e, _⟩ => by rw [e]; rfl) (fun cdv A outer s H vs Q E hr h => ?_), m, F.kp, b⟩
  obtain ⟨n, rfl, h2, q⟩ := h
  refine ⟨_, (pss_one (ps_ret (pe_lc (own := [("_law_d", 1)]) (g := gName 1)  (by rfl) sc.nd (pi_range2 (by rfl) B.range (pa_cons pe_int (pa_cons (pe_op op_add (pv 0) pe_int) pa_nil))) (blkOk_by (own := [("_law_d", 1)]) (N := N__law_divisors) (sc := defScope s__law_divisors) (by decide +kernel)) (fun _ _ _ _ _ => (pg_name (i := 1) sc.nd rfl (Or.inl rfl))) (fun _ _ _ _ _ => (pts_one (pt_cmpR op_eq (pe_op op_mod (pe_callTy call_int1 (by rfl) B.int_ (by decide +kernel) (pa_cons (pv 0) pa_nil)) (pv 1)) pe_int (nomark _)))) (fun _ _ _ _ _ => (pv 1))))), ?_⟩
  refine ⟨_, rfl, _, _, rfl, rfl, 1, (n : Int) + 1, rfl, ⟨by decide, by decide, by omega, by omega⟩, fun D1 hD1 => ?_⟩
  rw [show ((n : Int) + 1 - 1).toNat = n by omega]
  refine lc_range (fun i H' => Same H H' ∧ H' D1 = some (.lst (((List.range i).filter fun i => decide (n % (i + 1) = 0)).map fun i : Nat => V.int ((i + 1 : Nat) : Int)))) ⟨Same.upd_new hD1, upd_same⟩ ?_ ?_
  · rintro i H2 hi ⟨s2, h2⟩
    have ei : (1 : Int) + (i : Int) = ((i + 1 : Nat) : Int) := by omega
    dsimp only [gName]
    rw [ei]
    refine ⟨rfl, _, rfl, .inl ⟨_, rfl, _, rfl, _, _, rfl, rfl, (by omega : (0 : Int) < ((i + 1 : Nat) : Int)), rfl, _, rfl, ifI (fun e => ?_) fun e => ?_⟩⟩
    · refine ⟨_, rfl, lc_pos hD1 s2 h2 (decide_eq_true (Int.ofNat.inj e)) (by omega)⟩
    · exact lc_neg s2 h2 (decide_eq_false fun z => e (congrArg Int.ofNat z))
  rintro H2 ⟨s2, h2⟩
  refine q _ D1 s2 hD1 ?_
  rw [h2]
  unfold divL
  rw [List.map_map]
  rfl
theorem ok_ledges (D : Df K mg "_law_edges" s__law_edges ["_law_level"]) (O : DivOk) (B : Bi mg) (c__law_divisors : Cal P w K mg base 1 "_law_divisors" sp_ldiv) (c__law_divisor : Cal P w K mg base 1 "_law_divisor" sp_gcd) : Cal P w K mg base 2 "_law_edges" sp_ledges := by
  obtain ⟨f, fd, F, m, b⟩ := D.ex
  have sc := sc__law_edges
  refine ⟨f, fd, _, F.ok sc (fun _ _ _ _ ⟨_, e, _⟩ => by rw [e]; rfl) (fun cdv A outer s H vs Q E hr h => ?_), m, F.kp, b⟩
  obtain ⟨n, rfl, h1, h2, q⟩ := h
  refine ⟨_, (pss_cons (ps_set (i := 1) sc.nd rfl (Or.inl rfl) (pe_lst pa_nil))
      (pss_cons (ps_for PassesOwn.never rfl (pi_list (pe_c c__law_divisors hr (by decide) (by rfl) (pa_cons (pv 0) pa_nil))) (pg_name (i := 2) sc.nd rfl (Or.inl rfl))
      (pss_cons (ps_set (i := 3) sc.nd rfl (Or.inr rfl) (pe_c c__law_divisor hr (by decide) (by rfl) (pa_cons (pv 2) (pa_cons (pe_op op_fdivW (pv 0) (pv 2)) pa_nil))))
        (pss_cons (ps_set (i := 5) sc.nd rfl (Or.inl rfl) (pe_callB call_len_seq (by rfl) B.len_ (by decide +kernel) (pa_cons (pe_lc (own := [("_law_x", 4)]) (g := gName 4)  (by rfl) sc.nd (pi_range2 (by rfl) B.range (pa_cons pe_int (pa_cons (pe_op op_add (pv 3) pe_int) pa_nil))) (blkOk_by (own := [("_law_x", 4)]) (N := N__law_edges) (sc := defScope s__law_edges) (by decide +kernel)) (fun _ _ _ _ _ => (pg_name (i := 4) sc.nd rfl (Or.inl rfl))) (fun _ _ _ _ _ => (pts_one (pt_cmpR op_eq (pe_c c__law_divisor hr (by decide) (by rfl) (pa_cons (pv 4) (pa_cons (pv 3) pa_nil))) pe_int (nomark _)))) (fun _ _ _ _ _ => pe_int)) pa_nil)))
        (pss_one (ps_expr (pe_bm PySem.F.plainAttrs_list PySem.F.slot_list_append PySem.F.type_list_append mt_append (pv 1) (pa_cons (pe_tup (pa_cons (pv 2) (pa_cons (pv 5) (pa_cons (pe_op op_fdivW (pv 0) (pe_c c__law_divisor hr (by decide) (by rfl) (pa_cons (pe_op op_mul (pv 2) (pv 2)) (pa_cons (pv 0) pa_nil)))) pa_nil)))) pa_nil)))))))
      (pss_one (ps_ret (pv 1))))), ?_⟩
  refine ⟨Nat.zero_le _, fun p hp => ?_⟩
  have s1 : Same H (upd H p (.lst [])) := Same.upd_new hp
  have hp1 : (upd H p (.lst [])) p = some (.lst []) := upd_same
  generalize hH1 : upd H p (.lst []) = H1 at s1 hp1
  refine ⟨_, rfl, n, rfl, h2, fun H2 q2 s2 nq2 hq2 => ?_⟩
  have hlen := O.len n h1 h2
  have hmem : ∀ d ∈ divL n, 1 ≤ d ∧ d ≤ n ∧ n % d = 0 := fun d hd => divL_mem hd
  have he : edges n = (divL n).map (edgeOf n) := rfl
  rw [he] at q
  generalize divL n = ds at hq2 hlen hmem q
  have pq : p ≠ q2 := ne_of_none hp1 nq2
  refine ⟨q2, rfl, ⟨_, SqL.of hq2⟩, for_list (K := K) (a := q2) (xs := ds.map fun d : Nat => V.int (d : Int)) (fun i σ H' => Same H H' ∧ H' q2 = some (.lst (ds.map fun d : Nat => V.int (d : Int))) ∧ ∃ (us : List V) (o2 o3 o5 : Option V), σ = [some (.int (n : Int)), some (.ref p), o2, o3, none, o5] ∧ H' p = some (.lst us) ∧ TrisAt H' us ((ds.take i).map (edgeOf n))) ⟨s1.trans s2, hq2, [], none, none, none, rfl, s2 _ _ hp1, rfl, fun i u e a => by cases a⟩ (fun i σ H' _ ⟨_, z, _⟩ => SqL.of z) ?_ ?_⟩
  · rintro i x σ H3 hx ⟨s3, k3, us, o2, o3, o5, rfl, hp3, tus⟩
    obtain ⟨c, hc, rfl⟩ : ∃ c, ds[i]? = some c ∧ x = V.int (c : Int) := by
      rw [List.getElem?_map] at hx
      cases e : ds[i]? with
      | none => rw [e] at hx; cases hx
      | some z => rw [e] at hx; exact ⟨z, rfl, (Option.some.inj hx).symm⟩
    have hcm := hmem c (List.mem_of_getElem? hc)
    have htk : ds.take (i + 1) = ds.take i ++ [c] := by rw [List.take_add_one, hc]; rfl
    have cc : c * c ≤ 400 * 400 := Nat.mul_le_mul (by omega) (by omega)
    have hmul : (c : Int) * (c : Int) = ((c * c : Nat) : Int) := (Int.natCast_mul c c).symm
    have g1 : Nat.gcd c (n / c) ≤ c := Nat.le_of_dvd (by omega) (Nat.gcd_dvd_left _ _)
    refine ⟨_, rfl, _, rfl, _, rfl, _, _, rfl, rfl, cdivN (by omega) (by omega), c, n / c, rfl, ?_⟩
    have mo : manyOf n c = ((List.range (Nat.gcd c (n / c))).filter fun i => decide (Nat.gcd (i + 1) (Nat.gcd c (n / c)) = 1)).length := rfl
    have eo : edgeOf n c = (c, manyOf n c, n / Nat.gcd (c * c) n) := rfl
    rw [mo] at eo
    generalize Nat.gcd c (n / c) = g at g1 eo
    dsimp only [gName]
    refine ⟨_, rfl, _, _, rfl, rfl, 1, (g : Int) + 1, rfl, ⟨by decide, by decide, by omega, by omega⟩, fun D1 hD1 => ?_⟩
    rw [show ((g : Int) + 1 - 1).toNat = g by omega]
    refine lc_range (fun i H' => Same H3 H' ∧ H' D1 = some (.lst (((List.range i).filter fun i => decide (Nat.gcd (i + 1) g = 1)).map fun i : Nat => V.int 1))) ⟨Same.upd_new hD1, upd_same⟩ ?_ ?_
    · rintro j H4 hj ⟨s4, h4⟩
      have ei : (1 : Int) + (j : Int) = ((j + 1 : Nat) : Int) := by omega
      dsimp only [gName]
      rw [ei]
      refine ⟨rfl, _, rfl, _, rfl, j + 1, g, rfl, rfl, _, rfl, ifI (fun e => ?_) fun e => ?_⟩
      · exact lc_pos hD1 s4 h4 (decide_eq_true (Int.ofNat.inj e)) (by omega)
      · exact lc_neg s4 h4 (decide_eq_false fun z => e (congrArg Int.ofNat z))
    rintro H4 ⟨s4, h4⟩
    refine ⟨D1, _, rfl, .inl (SqL.of h4), ?_⟩
    rw [List.length_map]
    dsimp only [gName]
    have hp4 := s4 _ _ hp3
    refine ⟨_, rfl, .inl ⟨rfl, _, SqL.of hp4⟩, _, rfl, _, rfl, _, rfl, _, rfl, _, rfl, _, _, rfl, rfl, .inl ⟨by omega, by omega⟩, _, rfl, c * c, n, ?_, ?_⟩
    · show [V.int ((c : Int) * (c : Int)), V.int (n : Int)] = _
      rw [hmul]
    have hg : 0 < Nat.gcd (c * c) n := Nat.gcd_pos_of_pos_right _ (by omega)
    have hgle : Nat.gcd (c * c) n ≤ n := Nat.le_of_dvd (by omega) (Nat.gcd_dvd_right _ _)
    refine ⟨_, _, rfl, rfl, cdivN (by omega) (by omega), (by show (3 : Nat) ≤ sizeLine; decide), fun t ht => ?_⟩
    generalize hM : ((List.range g).filter fun i => decide (Nat.gcd (i + 1) g = 1)).length = M at eo
    have s5 : Same H4 (upd H4 t (.tup [V.int (c : Int), V.int (M : Int), V.int ((n / Nat.gcd (c * c) n : Nat) : Int)])) := Same.upd_new ht
    have ht5 : (upd H4 t (.tup [V.int (c : Int), V.int (M : Int), V.int ((n / Nat.gcd (c * c) n : Nat) : Int)])) t = some (.tup [V.int (c : Int), V.int (M : Int), V.int ((n / Nat.gcd (c * c) n : Nat) : Int)]) := upd_same
    have hp5 := s5 _ _ hp4
    have lus : us.length ≤ 24 := by rw [tus.len, List.length_map, List.length_take]; omega
    refine ⟨p, _, _, rfl, rfl, hp5, Nat.lt_of_le_of_lt lus (by decide), ?_⟩
    refine ⟨fun b o e => ?_, ?_, us ++ [.ref t], _, _, _, rfl, upd_same, ?_⟩
    · rw [upd_ne (ne_of_none e hp)]
      exact s5 _ _ (s4 _ _ (s3 _ _ e))
    · rw [upd_ne pq.symm]
      exact s5 _ _ (s4 _ _ k3)
    · rw [htk, List.map_append]
      refine TrisAt.snoc (((tus.same s4).same s5).upd hp5) (TriAt.upd hp5 ?_)
      rw [eo]
      exact ⟨t, rfl, ht5⟩
  · rintro σ H3 ⟨s3, k3, us, o2, o3, o5, rfl, hp3, tus⟩
    rw [List.length_map, List.take_length] at tus
    exact ⟨_, rfl, q _ p us s3 hp3 tus⟩
end
end Ft

namespace Ft
open PySem L2
/-- a table of points as a dict -/
def ptK (p : Pt) : List Key := [.inl (p.1 : Int), .inl (p.2 : Int)]
def tabK (t : Tab) : List (List Key × V) := t.map fun e => (ptK e.1, V.int (e.2 : Int))
theorem ptEq_iff {p q : Pt} : ptEq p q = true ↔ ptK p = ptK q := by
  obtain ⟨a, b⟩ := p
  obtain ⟨c, d⟩ := q
  unfold ptEq
  rw [Bool.and_eq_true]
  constructor
  · rintro ⟨h1, h2⟩
    have h1 := Nat.eq_of_beq_eq_true h1
    have h2 := Nat.eq_of_beq_eq_true h2
    simp only at h1 h2
    rw [h1, h2]
  · intro h
    unfold ptK at h
    simp only [List.cons.injEq, Sum.inl.injEq, and_true] at h
    exact ⟨by rw [Int.ofNat.inj h.1]; exact Nat.beq_refl _, by rw [Int.ofNat.inj h.2]; exact Nat.beq_refl _⟩
theorem tab_get (p : Pt) : ∀ t : Tab, valV (tabK t) (ptK p) = (tget t p).map fun v : Nat => V.int (v : Int)
  | [] => rfl
  | e :: t => by
    have ih := tab_get p t
    have ht : tabK (e :: t) = (ptK e.1, V.int (e.2 : Int)) :: tabK t := rfl
    rw [ht]
    cases h : ptEq e.1 p with
    | true =>
      rw [valV_pos (ptEq_iff.mp h)]
      show _ = (bif ptEq e.1 p then some e.2 else tget t p).map _
      rw [h]; rfl
    | false =>
      rw [valV_neg (fun k => by rw [ptEq_iff.mpr k] at h; cases h), ih]
      show _ = (bif ptEq e.1 p then some e.2 else tget t p).map _
      rw [h]; rfl
theorem tab_snoc {t : Tab} {p : Pt} {v : Nat} (h : tget t p = none) : putK (tabK t) (ptK p) (V.int (v : Int)) = tabK (t ++ [(p, v)]) := by
  rw [putK_new _ (by rw [tab_get, h]; rfl)]
  unfold tabK
  rw [List.map_append]
  rfl
def sp_points : Sp := fun vs H Q _ => ∃ (N : Nat) (T : Tab) (m : Nat), vs = [.int (N : Int)] ∧ 1 ≤ N ∧ N ≤ 30 ∧ allO N (unitsL N) N = some (T, m) ∧
  ∀ H' p d, Same H H' → H' p = some (.tup [.ref d, .int (m : Int)]) → H' d = some (.dT (tabK T)) → Q (.ref p) H'
section
variable {P : Program} {w : World} {K : PySem.W.Frag} {mg : Str → Option Value} {base : Heap}
theorem ok_points (D : Df K mg "_law_points" s__law_points ["_law_level"]) (B : Bi mg) (c__law_divisor : Cal P w K mg base 1 "_law_divisor" sp_gcd) : Cal P w K mg base 2 "_law_points" sp_points := by
  obtain ⟨f, fd, F, m, b⟩ := D.ex
  have sc := sc__law_points
  refine ⟨f, fd, _, F.ok sc (fun _ _ _ _ ⟨_, _, _, e, _⟩ => by rw [e]; rfl) (fun cdv A outer s H vs Q E hr h => ?_), m, F.kp, b⟩
  obtain ⟨N, T, m, rfl, h1, h2, hT, q⟩ := h
  have hu := hu_of hr
  refine ⟨_, (pss_cons (ps_setLc (i := 2) (own := [("_law_x", 1)]) (g := gName 1)  (by rfl) sc.nd rfl rfl (sw_true rfl rfl rfl (by decide +kernel)) (pi_range1 rfl B.range (pa_cons (pv 0) pa_nil)) (blkOk_by (own := [("_law_x", 1)]) (N := N__law_points) (sc := defScope s__law_points) (by decide +kernel)) (fun _ _ _ _ _ => (pg_name (i := 1) sc.nd rfl (Or.inl rfl))) (fun _ _ _ _ _ => (pts_one (pt_cmpR op_eq (pe_c c__law_divisor hr (by decide) (by rfl) (pa_cons (pv 1) (pa_cons (pv 0) pa_nil))) pe_int (nomark _)))) (fun _ _ _ _ _ => (pv 1)))
      (pss_cons (ps_par (i := 3) (j := 4) (by rfl) sc.nd rfl rfl (by decide) rfl rfl (pa_cons (pe_dnewT) (pa_cons pe_int pa_nil)) (by rfl))
      (pss_cons (ps_for PassesOwn.never rfl (pi_range1 rfl B.range (pa_cons (pv 0) pa_nil)) (pg_name (i := 5) sc.nd rfl (Or.inl rfl))
      (pss_one (ps_for PassesOwn.never rfl (pi_range1 rfl B.range (pa_cons (pv 0) pa_nil)) (pg_name (i := 6) sc.nd rfl (Or.inl rfl))
        (pss_one (ps_if (PW.pt (pw_and (pt_cmp (pc_dnotin hu (pe_tup (pa_cons (pv 5) (pa_cons (pv 6) pa_nil))) (pv 3))) (pw_and1 (pt_cmpR op_eq (pe_c c__law_divisor hr (by decide) (by rfl) (pa_cons (pe_c c__law_divisor hr (by decide) (by rfl) (pa_cons (pv 5) (pa_cons (pv 6) pa_nil))) (pa_cons (pv 0) pa_nil))) pe_int (nomark _)))))
          (pss_cons (ps_for PassesOwn.never rfl (pi_list (pv 2)) (pg_name (i := 7) sc.nd rfl (Or.inl rfl))
            (pss_one (ps_dput hu (pv 3) (pe_tup (pa_cons (pe_op op_mod (pe_callTy call_int1 (by rfl) B.int_ (by decide +kernel) (pa_cons (pe_op op_mul (pv 7) (pv 5)) pa_nil)) (pv 0)) (pa_cons (pe_op op_mod (pe_callTy call_int1 (by rfl) B.int_ (by decide +kernel) (pa_cons (pe_op op_mul (pv 7) (pv 6)) pa_nil)) (pv 0)) pa_nil))) (pv 4) rfl)))
            (pss_one (ps_set (i := 4) sc.nd rfl (Or.inl rfl) (pe_op op_add (pv 4) pe_int))))
          pss_nil)))))
      (pss_one (ps_ret (pe_tup (pa_cons (pv 3) (pa_cons (pv 4) pa_nil)))))))), ?_⟩
  have hN : ((N : Int)).toNat = N := Int.toNat_natCast N
  have Np : (0 : Int) < (N : Int) := by omega
  refine ⟨_, rfl, _, rfl, by omega, by omega, fun D1 hD1 => ?_⟩
  refine lc_range (lo := 0) (n := ((N : Int)).toNat) (fun i H' => Same H H' ∧ H' D1 = some (.lst (((List.range i).filter fun x => decide (Nat.gcd x N = 1)).map fun x : Nat => V.int (x : Int)))) ⟨Same.upd_new hD1, upd_same⟩ ?_ ?_
  · rintro i H2 hi ⟨s2, h2⟩
    dsimp only [gName]
    rw [Int.zero_add]
    refine ⟨rfl, _, rfl, _, rfl, i, N, rfl, rfl, _, rfl, ifI (fun e => ?_) fun e => ?_⟩
    · exact ⟨_, rfl, lc_pos hD1 s2 h2 (decide_eq_true (Int.ofNat.inj e)) (by omega)⟩
    · exact lc_neg s2 h2 (decide_eq_false fun z => e (congrArg Int.ofNat z))
  rintro H2 ⟨s2, h2⟩
  rw [hN] at h2
  have h2' : H2 D1 = some (.lst ((unitsL N).map fun x : Nat => V.int (x : Int))) := h2
  have hus : ∀ u ∈ unitsL N, u < N := fun u hu => List.mem_range.mp (List.mem_filter.mp hu).1
  have hul : (unitsL N).length ≤ N := filter_len _ _
  generalize unitsL N = us at h2' hT hus hul
  dsimp only [gName]
  intro d hd
  have s3 : Same H2 (upd H2 d (.dT [])) := Same.upd_new hd
  have hd3 : (upd H2 d (.dT [])) d = some (.dT (tabK [])) := upd_same
  generalize hH3 : upd H2 d (.dT []) = H3 at s3 hd3
  have dD : d ≠ D1 := fun e => by rw [e, h2'] at hd; cases hd
  refine ⟨_, _, rfl, ?_⟩
  refine ⟨_, rfl, _, rfl, by omega, by omega, for_range (lo := 0) (n := ((N : Int)).toNat) (fun i σ H' => Same H H' ∧ H' D1 = some (.lst (us.map fun x : Nat => V.int (x : Int))) ∧ ∃ (s : Tab × Nat) (o5 o6 o7 : Option V), allO N us i = some s ∧ σ = [some (.int (N : Int)), none, some (.ref D1), some (.ref d), some (.int (s.2 : Int)), o5, o6, o7] ∧ H' d = some (.dT (tabK s.1))) ⟨s2.trans s3, s3 _ _ h2', ([], 0), none, none, none, rfl, rfl, hd3⟩ ?_ ?_⟩
  · rintro i σ H4 hi ⟨s4, k4, st, o5, o6, o7, hst, rfl, hd4⟩
    obtain ⟨r, hr⟩ : ∃ r, allO N us (i + 1) = some r := allO_some (k := N - (i + 1)) (by rw [show i + 1 + (N - (i + 1)) = N by omega]; exact hT)
    have hrow : rowO N us i N st = some r := by
      have h' : (allO N us i).bind (fun s => rowO N us i N s) = some r := hr
      rw [hst] at h'
      exact h'
    dsimp only [gName]
    rw [Int.zero_add]
    refine ⟨_, rfl, _, rfl, by omega, by omega, for_range (lo := 0) (n := ((N : Int)).toNat) (fun j σ H' => Same H H' ∧ H' D1 = some (.lst (us.map fun x : Nat => V.int (x : Int))) ∧ ∃ (s : Tab × Nat) (o6 o7 : Option V), rowO N us i j st = some s ∧ σ = [some (.int (N : Int)), none, some (.ref D1), some (.ref d), some (.int (s.2 : Int)), some (.int (i : Int)), o6, o7] ∧ H' d = some (.dT (tabK s.1))) ⟨s4, k4, st, o6, o7, rfl, rfl, hd4⟩ ?_ ?_⟩
    · rintro j σ H5 hj ⟨s5, k5, s', o6, o7, hs', rfl, hd5⟩
      obtain ⟨r', hr'⟩ : ∃ r', rowO N us i (j + 1) st = some r' := rowO_some (k := N - (j + 1)) (by rw [show j + 1 + (N - (j + 1)) = N by omega]; exact hrow)
      have hstep : stepO N us s' i j = some r' := by
        have h' : (rowO N us i j st).bind (fun s => stepO N us s i j) = some r' := hr'
        rw [hs'] at h'
        exact h'
      dsimp only [gName]
      rw [Int.zero_add]
      refine ⟨_, rfl, _, rfl, (by show (2 : Nat) ≤ sizeLine; decide), fun t ht => ?_⟩
      have s6 : Same H5 (upd H5 t (.tup [V.int (i : Int), V.int (j : Int)])) := Same.upd_new ht
      have ht6 : (upd H5 t (.tup [V.int (i : Int), V.int (j : Int)])) t = some (.tup ((ptK (i, j)).map kV)) := upd_same
      generalize hH6 : upd H5 t (.tup [V.int (i : Int), V.int (j : Int)]) = H6 at s6 ht6
      have hd6 := s6 _ _ hd5
      refine ⟨_, rfl, d, _, rfl, DGet.t hd6 ht6, _, rfl, ?_⟩
      rw [tab_get, show (!((tget s'.1 (i, j)).map fun v : Nat => V.int (v : Int)).isSome) = (tget s'.1 (i, j)).isNone by cases tget s'.1 (i, j) <;> rfl]
      unfold stepO at hstep
      have hd0 : H d = none := s2.free hd
      have k6 := s6 _ _ k5
      cases hg : tget s'.1 (i, j) with
      | some v =>
        rw [hg, if_neg (by simp)] at hstep
        cases hstep
        refine iteF ?_
        exact ⟨s5.trans s6, k6, s', _, _, hr', rfl, hd6⟩
      | none =>
        rw [hg] at hstep
        refine iteT ?_
        refine ⟨_, rfl, _, rfl, i, j, rfl, _, rfl, Nat.gcd i j, N, rfl, rfl, _, rfl, ifI (fun e => ?_) fun e => ?_⟩
        · have e' : Nat.gcd (Nat.gcd i j) N = 1 := Int.ofNat.inj e
          rw [if_pos (by simp [e'])] at hstep
          by_cases hf : (fresh s'.2 s'.1 (us.map (pointOf N i j)) && decide (s'.1.length + us.length ≤ 1000)) = true
          · rw [if_pos hf] at hstep
            cases hstep
            obtain ⟨hf1, hf2⟩ := (Bool.and_eq_true _ _ ▸ hf : _ ∧ _)
            have hf2 := of_decide_eq_true hf2
            refine ⟨_, rfl, D1, rfl, ⟨_, SqL.of k6⟩, for_list (K := K) (a := D1) (xs := us.map fun x : Nat => V.int (x : Int)) (fun k σ H' => Same H H' ∧ H' D1 = some (.lst (us.map fun x : Nat => V.int (x : Int))) ∧ ∃ o7 : Option V, σ = [some (.int (N : Int)), none, some (.ref D1), some (.ref d), some (.int (s'.2 : Int)), some (.int (i : Int)), some (.int (j : Int)), o7] ∧ H' d = some (.dT (tabK (s'.1 ++ (((us.map (pointOf N i j)).take k).map fun p => (p, s'.2)))))) ⟨s5.trans s6, k6, o7, rfl, by rw [hd6, List.take_zero, List.map_nil, List.append_nil]⟩ (fun k σ H' _ ⟨_, z, _⟩ => SqL.of z) ?_ ?_⟩
            · rintro k x σ H7 hx ⟨s7, k7, o7, rfl, hd7⟩
              obtain ⟨u, hu, rfl⟩ : ∃ u, us[k]? = some u ∧ x = V.int (u : Int) := by
                rw [List.getElem?_map] at hx
                cases e : us[k]? with
                | none => rw [e] at hx; cases hx
                | some z => rw [e] at hx; exact ⟨z, rfl, (Option.some.inj hx).symm⟩
              have hu30 := hus u (List.mem_of_getElem? hu)
              have hpk : (us.map (pointOf N i j))[k]? = some (pointOf N i j u) := by rw [List.getElem?_map, hu]; rfl
              have hfr := fresh_at hf1 hpk
              have hkl : k < us.length := (List.getElem?_eq_some_iff.mp hu).1
              refine ⟨_, rfl, _, rfl, _, rfl, _, rfl, _, _, rfl, rfl, .inl ⟨by omega, by omega⟩, .inl ⟨_, rfl, _, rfl, _, _, rfl, rfl, Np, _, rfl, _, rfl, _, _, rfl, rfl, .inl ⟨by omega, by omega⟩, .inl ⟨_, rfl, _, rfl, _, _, rfl, rfl, Np, (by show (2 : Nat) ≤ sizeLine; decide), fun t2 ht2 => ?_⟩⟩⟩
              have s8 := Same.upd_new (o := .tup [V.int ((fun i j => i % j) ((u : Int) * (i : Int)) (N : Int)), V.int ((fun i j => i % j) ((u : Int) * (j : Int)) (N : Int))]) ht2
              have ht8 : (upd H7 t2 (.tup [V.int ((fun i j => i % j) ((u : Int) * (i : Int)) (N : Int)), V.int ((fun i j => i % j) ((u : Int) * (j : Int)) (N : Int))])) t2 = some (.tup ((ptK (pointOf N i j u)).map kV)) := upd_same
              have hd8 := s8 _ _ hd7
              have k8 := s8 _ _ k7
              refine ⟨d, _, rfl, DPut.t hd8 ht8 ?_, ?_⟩
              · unfold tabK
                rw [List.length_map, List.length_append, List.length_map, List.length_take, List.length_map]
                exact Nat.lt_of_le_of_lt (by omega : _ ≤ 1000) (by decide)
              rw [tab_snoc hfr]
              refine ⟨fun b o e => ?_, ?_, _, rfl, ?_⟩
              · rw [upd_ne (ne_of_none e hd0)]
                exact s8 _ _ (s7 _ _ e)
              · rw [upd_ne dD.symm]
                exact k8
              · rw [upd_same, List.take_add_one, hpk, List.append_assoc, List.map_append]
                rfl
            · rintro σ H7 ⟨s7, k7, o7, rfl, hd7⟩
              rw [List.length_map, ← List.length_map (f := pointOf N i j), List.take_length] at hd7
              refine ⟨_, rfl, _, _, rfl, rfl, ?_⟩
              exact ⟨s7, k7, _, _, _, hr', rfl, hd7⟩
          · rw [if_neg hf] at hstep
            cases hstep
        · have e' : ¬ Nat.gcd (Nat.gcd i j) N = 1 := fun z => e (congrArg Int.ofNat z)
          rw [if_neg (by simp [e'])] at hstep
          cases hstep
          exact ⟨s5.trans s6, k6, s', _, _, hr', rfl, hd6⟩
    · rintro σ H5 ⟨s5, k5, s', o6, o7, hs', rfl, hd5⟩
      rw [hN] at hs'
      rw [hrow] at hs'
      cases hs'
      exact ⟨s5, k5, r, _, _, _, hr, rfl, hd5⟩
  · rintro σ H4 ⟨s4, k4, st, o5, o6, o7, hst, rfl, hd4⟩
    rw [hN, hT] at hst
    cases hst
    refine ⟨_, rfl, _, rfl, (by show (2 : Nat) ≤ sizeLine; decide), fun p hp => ?_⟩
    exact q _ p d (s4.trans (Same.upd_new hp)) upd_same ((Same.upd_new hp) _ _ hd4)
end
end Ft

namespace Ft
open PySem L2
/-- classes met, as a dict -/
def metK (l : List Nat) : List (Key × V) := l.map fun c : Nat => (.inl (c : Int), V.bl true)
theorem met_get (c : Nat) : ∀ l : List Nat, valV (metK l) (.inl (c : Int)) = if c ∈ l then some (.bl true) else none
  | [] => by rw [if_neg (by simp)]; rfl
  | e :: l => by
    have hl : metK (e :: l) = (.inl (e : Int), V.bl true) :: metK l := rfl
    rw [hl]
    by_cases h : e = c
    · rw [valV_pos (by rw [h]), if_pos (by rw [h]; exact List.mem_cons_self)]
    · rw [valV_neg (fun k => h (Int.ofNat.inj (Sum.inl.inj k))), met_get c l]
      by_cases h2 : c ∈ l
      · rw [if_pos h2, if_pos (List.mem_cons_of_mem _ h2)]
      · rw [if_neg h2, if_neg (by simp only [List.mem_cons, not_or]; exact ⟨fun k => h k.symm, h2⟩)]
theorem met_snoc {l : List Nat} {c : Nat} (h : c ∉ l) : putK (metK l) (.inl (c : Int)) (V.bl true) = metK (l ++ [c]) := by
  rw [putK_new _ (by rw [met_get, if_neg h])]
  unfold metK
  rw [List.map_append]
  rfl
/-- a tuple of two integers; a list of them -/
def PrAt (H : Hp) (v : V) (e : Nat × Nat) : Prop := ∃ t, v = .ref t ∧ H t = some (.tup [.int (e.1 : Int), .int (e.2 : Int)])
structure PrsAt (H : Hp) (us : List V) (l : List (Nat × Nat)) : Prop where
  len : us.length = l.length
  at_ : ∀ (i : Nat) (u : V) (e : Nat × Nat), us[i]? = some u → l[i]? = some e → PrAt H u e
theorem PrAt.same {H H' : Hp} {v : V} {e : Nat × Nat} (h : PrAt H v e) (s : Same H H') : PrAt H' v e := by
  obtain ⟨t, a, b⟩ := h
  exact ⟨t, a, s _ _ b⟩
theorem PrsAt.same {H H' : Hp} {us : List V} {l : List (Nat × Nat)} (h : PrsAt H us l) (s : Same H H') : PrsAt H' us l := ⟨h.len, fun i u e a b => (h.at_ i u e a b).same s⟩
theorem PrAt.but {H : Hp} {p : Addr} {o o' : HO} {v : V} {e : Nat × Nat} (hp : H p = some o') (ho : ∀ xs, o' ≠ .tup xs) (h : PrAt H v e) : PrAt (upd H p o) v e := by
  obtain ⟨t, a, b⟩ := h
  exact ⟨t, a, by rw [upd_ne (ne_of b hp (fun z => ho _ z.symm))]; exact b⟩
theorem PrsAt.but {H : Hp} {p : Addr} {o o' : HO} {us : List V} {l : List (Nat × Nat)} (hp : H p = some o') (ho : ∀ xs, o' ≠ .tup xs) (h : PrsAt H us l) : PrsAt (upd H p o) us l := ⟨h.len, fun i u e a b => (h.at_ i u e a b).but hp ho⟩
theorem PrsAt.snoc {H : Hp} {us : List V} {l : List (Nat × Nat)} {u : V} {e : Nat × Nat} (h : PrsAt H us l) (k : PrAt H u e) : PrsAt H (us ++ [u]) (l ++ [e]) := by
  refine ⟨by rw [List.length_append, List.length_append, h.len]; rfl, fun i v f a b => ?_⟩
  rcases Nat.lt_or_ge i us.length with hi | hi
  · rw [List.getElem?_append_left hi] at a
    rw [List.getElem?_append_left (by rw [← h.len]; exact hi)] at b
    exact h.at_ i v f a b
  · rw [List.getElem?_append_right hi] at a
    rw [List.getElem?_append_right (by rw [← h.len]; exact hi), ← h.len] at b
    cases hk : i - us.length with
    | zero => rw [hk] at a b; cases a; cases b; exact k
    | succ n => rw [hk] at a; cases a
theorem PrsAt.get {H : Hp} {us : List V} {l : List (Nat × Nat)} (h : PrsAt H us l) {i : Nat} {u : V} (hu : us[i]? = some u) : ∃ e, l[i]? = some e ∧ PrAt H u e := by
  have hi : i < l.length := by rw [← h.len]; exact (List.getElem?_eq_some_iff.mp hu).1
  exact ⟨l[i], List.getElem?_eq_getElem hi, h.at_ i u _ hu (List.getElem?_eq_getElem hi)⟩
def sp_rounds : Sp := fun vs H Q _ => ∃ (N : Nat) (d : Addr) (T : Tab) (met : List Nat) (R : List (Nat × Nat)), vs = [.int (N : Int), .ref d] ∧ 1 ≤ N ∧ N ≤ 30 ∧ H d = some (.dT (tabK T)) ∧ roundsO T N T.length = some (met, R) ∧ T.length ≤ 1000 ∧
  ∀ H' p us, Same H H' → H' p = some (.lst us) → PrsAt H' us R → Q (.ref p) H'
section
variable {P : Program} {w : World} {K : PySem.W.Frag} {mg : Str → Option Value} {base : Heap}
theorem ok_rounds (D : Df K mg "_law_rounds" s__law_rounds ["_law_level", "_law_points_here"]) (B : Bi mg) (c__law_divisor : Cal P w K mg base 1 "_law_divisor" sp_gcd) : Cal P w K mg base 2 "_law_rounds" sp_rounds := by
  obtain ⟨f, fd, F, m, b⟩ := D.ex
  have sc := sc__law_rounds
  refine ⟨f, fd, _, F.ok sc (fun _ _ _ _ ⟨_, _, _, _, _, e, _⟩ => by rw [e]; rfl) (fun cdv A outer s H vs Q E hr h => ?_), m, F.kp, b⟩
  obtain ⟨N, d, T, met, R, rfl, h1, h2, hd, hT, hR, q⟩ := h
  have hu := hu_of hr
  refine ⟨_, (pss_cons (ps_par (i := 2) (j := 3) (by rfl) sc.nd rfl rfl (by decide) rfl rfl (pa_cons (pe_dnewK) (pa_cons (pe_lst pa_nil) pa_nil)) (by rfl))
      (pss_cons (ps_lock (ps_for PassesOwn.never rfl (pi_keys (pv 1)) (pg_tup rfl (pgs_cons (pg_name (i := 4) sc.nd rfl (Or.inl rfl)) (pgs_cons (pg_name (i := 5) sc.nd rfl (Or.inl rfl)) pgs_nil)))
      (pss_cons (ps_par (i := 6) (j := 7) (by rfl) sc.nd rfl rfl (by decide) rfl rfl (pa_cons pe_int (pa_cons (pv 5) pa_nil)) (by rfl))
        (pss_cons (ps_while PassesOwn.never (pt_cmp (pc_dnotin hu (pe_dget hu (pv 1) (pe_tup (pa_cons (pv 4) (pa_cons (pv 7) pa_nil))) (fun _ _ => rfl)) (pv 2)))
        (pss_cons (ps_dput hu (pv 2) (pe_dget hu (pv 1) (pe_tup (pa_cons (pv 4) (pa_cons (pv 7) pa_nil))) (fun _ _ => rfl)) pe_bl rfl)
          (pss_one (ps_par (i := 6) (j := 7) (by rfl) sc.nd rfl rfl (by decide) rfl rfl (pa_cons (pe_op op_add (pv 6) pe_int) (pa_cons (pe_op op_mod (pe_callTy call_int1 (by rfl) B.int_ (by decide +kernel) (pa_cons (pe_op op_add (pv 7) (pv 4)) pa_nil)) (pv 0)) pa_nil)) (by rfl)))))
        (pss_one (ps_if (pt_cmpR op_gt (pv 6) pe_int (nomark _))
        (pss_one (ps_expr (pe_bm PySem.F.plainAttrs_list PySem.F.slot_list_append PySem.F.type_list_append mt_append (pv 3) (pa_cons (pe_tup (pa_cons (pe_c c__law_divisor hr (by decide) (by rfl) (pa_cons (pv 4) (pa_cons (pv 0) pa_nil))) (pa_cons (pv 6) pa_nil))) pa_nil))))
        pss_nil))))))
      (pss_one (ps_ret (pv 3))))), ?_⟩
  have Np : (0 : Int) < (N : Int) := by omega
  intro md hmd
  have s1 : Same H (upd H md (.dK [])) := Same.upd_new hmd
  have m1 : (upd H md (.dK [])) md = some (.dK (metK [])) := upd_same
  generalize hH1 : upd H md (.dK []) = H1 at s1 m1
  refine ⟨Nat.zero_le _, fun fl hfl => ?_⟩
  have s2 : Same H1 (upd H1 fl (.lst [])) := Same.upd_new hfl
  have f2 : (upd H1 fl (.lst [])) fl = some (.lst []) := upd_same
  generalize hH2 : upd H1 fl (.lst []) = H2 at s2 f2
  refine ⟨_, _, rfl, ?_⟩
  have m2 := s2 _ _ m1
  have hd2 := s2 _ _ (s1 _ _ hd)
  have hd1 := s1 _ _ hd
  have nmd : md ≠ d := fun e => by rw [e, hd] at hmd; cases hmd
  have nfd : fl ≠ d := fun e => by rw [e, hd1] at hfl; cases hfl
  have nfm : fl ≠ md := fun e => by rw [e, m1] at hfl; cases hfl
  have hfl0 : H fl = none := s1.free hfl
  refine ⟨d, .dT (tabK T), hd2, trivial, fun od => ?_⟩
  have lT : (tabK T).length = T.length := List.length_map ..
  have keep0 : ∀ b o, H b = some o → b ≠ d → (upd H2 d (.frz od (.dT (tabK T)))) b = some o := fun b o e n => by rw [upd_ne n]; exact s2 _ _ (s1 _ _ e)
  have d3 : (upd H2 d (.frz od (.dT (tabK T)))) d = some (.frz od (.dT (tabK T))) := upd_same
  have m3 : (upd H2 d (.frz od (.dT (tabK T)))) md = some (.dK (metK [])) := by rw [upd_ne nmd]; exact m2
  have f3 : (upd H2 d (.frz od (.dT (tabK T)))) fl = some (.lst []) := by rw [upd_ne nfd]; exact f2
  generalize upd H2 d (.frz od (.dT (tabK T))) = H3 at keep0 d3 m3 f3
  refine ⟨_, rfl, d, od, rfl, .inr ⟨tabK T, d3, ?_⟩⟩
  refine for_it walk_keysT (fun i σ H' => (∀ b o, H b = some o → b ≠ d → H' b = some o) ∧ H' d = some (.frz od (.dT (tabK T))) ∧ ∃ (st : List Nat × List (Nat × Nat)) (us : List V) (o4 o5 o6 o7 : Option V), roundsO T N i = some st ∧ σ = [some (.int (N : Int)), some (.ref d), some (.ref md), some (.ref fl), o4, o5, o6, o7] ∧ H' md = some (.dK (metK st.1)) ∧ H' fl = some (.lst us) ∧ PrsAt H' us st.2)
    ⟨keep0, d3, ([], []), [], none, none, none, none, rfl, rfl, m3, f3, rfl, fun i u e a => by cases a⟩ (fun i σ H' _ ⟨_, z, _⟩ => z) ?_ ?_
  · rintro i x σ H4 _ hi ⟨k4, d4, st, us, o4, o5, o6, o7, hst, rfl, m4, f4, tus⟩ ⟨rfl, k, v, t, hk, rfl, ht⟩
    rw [lT] at hi
    obtain ⟨r', hr'⟩ : ∃ r', roundsO T N (i + 1) = some r' := roundsO_some (k := T.length - (i + 1)) (by rw [show i + 1 + (T.length - (i + 1)) = T.length by omega]; exact hT)
    have hTi : T[i]? = some T[i] := List.getElem?_eq_getElem hi
    obtain rfl : k = ptK T[i].1 := by
      unfold tabK at hk
      rw [List.getElem?_map, hTi] at hk
      exact (Prod.mk.inj (Option.some.inj hk)).1.symm
    have hstep : stepR T N st T[i].1 = some r' := by
      have h' : (roundsO T N i).bind (fun s => match T[i]? with | none => none | some e => stepR T N s e.1) = some r' := hr'
      rw [hst, hTi] at h'
      exact h'
    generalize T[i].1 = pt at ht hstep
    obtain ⟨a, b0⟩ := pt
    refine ⟨t, _, rfl, SqT.of ht, rfl, _, _, rfl, _, _, rfl, rfl, ?_⟩
    refine ⟨_, rfl, _, _, rfl, ?_⟩
    unfold stepR at hstep
    simp only at hstep
    cases hgo : goR T N a (N + 1) b0 st.1 0 with
    | none => rw [hgo] at hstep; cases hstep
    | some res =>
      rw [hgo] at hstep
      obtain ⟨size', met'⟩ := res
      simp only at hstep
      dsimp only
      refine tSeq_join (fun σ H' => (∀ b o, H b = some o → b ≠ d → H' b = some o) ∧ H' d = some (.frz od (.dT (tabK T))) ∧ ∃ o7 : Option V, σ = [some (.int (N : Int)), some (.ref d), some (.ref md), some (.ref fl), some (.int (a : Int)), some (.int (b0 : Int)), some (.int (size' : Int)), o7] ∧ H' md = some (.dK (metK met')) ∧ H' fl = some (.lst us) ∧ PrsAt H' us st.2) (fun NN hNN => ?_) ?_
      · refine while_go (fun σ H' => (∀ b o, H b = some o → b ≠ d → H' b = some o) ∧ H' d = some (.frz od (.dT (tabK T))) ∧ ∃ (f place size : Nat) (mt : List Nat), σ = [some (.int (N : Int)), some (.ref d), some (.ref md), some (.ref fl), some (.int (a : Int)), some (.int (b0 : Int)), some (.int (size : Int)), some (.int (place : Int))] ∧ f + size = N + 1 ∧ goR T N a f place mt size = some (size', met') ∧ H' md = some (.dK (metK mt)) ∧ H' fl = some (.lst us) ∧ PrsAt H' us st.2) (fun σ _ => N + 2 - m0 6 σ) ⟨k4, d4, N + 1, b0, 0, st.1, rfl, rfl, hgo, m4, f4, tus⟩ ?_
        rintro σ H5 ⟨k5, d5, f, place, size, mt, rfl, hfs, hg, m5, f5, tus5⟩
        cases f with
        | zero => cases hg
        | succ f =>
          unfold goR at hg
          cases hc : tget T (a, place) with
          | none => rw [hc] at hg; cases hg
          | some c =>
            rw [hc] at hg
            simp only at hg
            refine ⟨_, rfl, _, rfl, _, rfl, (by show (2 : Nat) ≤ sizeLine; decide), fun t1 ht1 => ?_⟩
            have s6 : Same H5 (upd H5 t1 (.tup [V.int (a : Int), V.int (place : Int)])) := Same.upd_new ht1
            have h6 : (upd H5 t1 (.tup [V.int (a : Int), V.int (place : Int)])) t1 = some (.tup ((ptK (a, place)).map kV)) := upd_same
            generalize upd H5 t1 (.tup [V.int (a : Int), V.int (place : Int)]) = H6 at s6 h6
            have d6 := s6 _ _ d5
            have m6 := s6 _ _ m5
            refine ⟨d, .int (c : Int), rfl, .inr ⟨tabK T, ptK (a, place), t1, .inr ⟨od, d6⟩, rfl, h6, by rw [tab_get, hc]; rfl⟩, ?_⟩
            refine ⟨_, rfl, md, _, rfl, .inl ⟨metK mt, .inl (c : Int), .inl m6, rfl, rfl⟩, _, rfl, ?_⟩
            rw [met_get]
            by_cases hcm : c ∈ mt
            · rw [if_pos hcm] at hg
              cases hg
              rw [if_pos hcm]
              refine iteF ?_
              exact hNN _ _ ⟨fun b o e n => s6 _ _ (k5 _ _ e n), d6, _, rfl, m6, s6 _ _ f5, tus5.same s6⟩
            · rw [if_neg hcm] at hg
              by_cases hml : mt.length < 1000
              · rw [if_pos hml] at hg
                rw [if_neg hcm]
                refine iteT ⟨fun σ' H' => (∀ b o, H b = some o → b ≠ d → H' b = some o) ∧ H' d = some (.frz od (.dT (tabK T))) ∧ σ' = [some (.int (N : Int)), some (.ref d), some (.ref md), some (.ref fl), some (.int (a : Int)), some (.int (b0 : Int)), some (.int ((size + 1 : Nat) : Int)), some (.int (((place + a) % N : Nat) : Int))] ∧ H' md = some (.dK (metK (mt ++ [c]))) ∧ H' fl = some (.lst us) ∧ PrsAt H' us st.2, ?_, ?_⟩
                · rintro σ' H' ⟨k7, d7, rfl, m7, f7, tus7⟩
                  exact ⟨_, (by show N + 2 - (((size + 1 : Nat) : Int)).toNat < N + 2 - ((size : Int)).toNat; omega), rfl, k7, d7, f, _, _, _, rfl, by omega, hg, m7, f7, tus7⟩
                refine ⟨_, rfl, _, rfl, _, rfl, _, rfl, (by show (2 : Nat) ≤ sizeLine; decide), fun t2 ht2 => ?_⟩
                have s7 : Same H6 (upd H6 t2 (.tup [V.int (a : Int), V.int (place : Int)])) := Same.upd_new ht2
                have h7 : (upd H6 t2 (.tup [V.int (a : Int), V.int (place : Int)])) t2 = some (.tup ((ptK (a, place)).map kV)) := upd_same
                generalize upd H6 t2 (.tup [V.int (a : Int), V.int (place : Int)]) = H7 at s7 h7
                have d7 := s7 _ _ d6
                have m7 := s7 _ _ m6
                have f7 := s7 _ _ (s6 _ _ f5)
                refine ⟨d, .int (c : Int), rfl, .inr ⟨tabK T, ptK (a, place), t2, .inr ⟨od, d7⟩, rfl, h7, by rw [tab_get, hc]; rfl⟩, ?_⟩
                refine ⟨md, _, rfl, DPut.k (k := .inl (c : Int)) m7 ?_, ?_⟩
                · unfold metK
                  rw [List.length_map]
                  exact Nat.lt_trans hml (by decide)
                rw [met_snoc hcm]
                dsimp only
                have k8 : ∀ b o, H b = some o → b ≠ d → (upd H7 md (.dK (metK (mt ++ [c])))) b = some o := fun b o e n => by
                  rw [upd_ne (ne_of_none e hmd)]
                  exact s7 _ _ (s6 _ _ (k5 _ _ e n))
                have d8 : (upd H7 md (.dK (metK (mt ++ [c])))) d = some (.frz od (.dT (tabK T))) := by rw [upd_ne nmd.symm]; exact d7
                have f8 : (upd H7 md (.dK (metK (mt ++ [c])))) fl = some (.lst us) := by rw [upd_ne nfm]; exact f7
                have tus8 : PrsAt (upd H7 md (.dK (metK (mt ++ [c])))) us st.2 := ((tus5.same s6).same s7).but m7 (fun xs z => by cases z)
                refine ⟨_, rfl, _, _, rfl, rfl, _, rfl, _, rfl, _, _, rfl, rfl, .inl ⟨_, rfl, _, rfl, _, _, rfl, rfl, Np, _, _, rfl, ?_⟩⟩
                exact ⟨k8, d8, rfl, upd_same, f8, tus8⟩
              · rw [if_neg hml] at hg
                cases hg
      · rintro _ H5 ⟨k5, d5, o7, rfl, m5, f5, tus5⟩
        have hlen := rounds_len hst
        refine ⟨_, rfl, _, _, rfl, rfl, _, rfl, ifD (fun hpos => ?_) fun hpos => ?_⟩
        · rw [if_pos (by omega)] at hstep
          cases hstep
          refine ⟨_, rfl, .inl ⟨rfl, _, SqL.of f5⟩, _, rfl, _, rfl, a, N, rfl, _, rfl, (by show (2 : Nat) ≤ sizeLine; decide), fun t ht => ?_⟩
          have s6 : Same H5 (upd H5 t (.tup [V.int ((Nat.gcd a N : Nat) : Int), V.int (size' : Int)])) := Same.upd_new ht
          have h6 : (upd H5 t (.tup [V.int ((Nat.gcd a N : Nat) : Int), V.int (size' : Int)])) t = some (.tup [V.int ((Nat.gcd a N : Nat) : Int), V.int (size' : Int)]) := upd_same
          have f6 := s6 _ _ f5
          refine ⟨fl, _, _, rfl, rfl, f6, ?_, ?_⟩
          · rw [tus5.len]
            exact Nat.lt_of_le_of_lt (by omega : _ ≤ 1000) (by decide)
          refine ⟨fun b o e n => ?_, ?_, _, us ++ [.ref t], _, _, _, _, hr', rfl, ?_, upd_same, ?_⟩
          · rw [upd_ne (ne_of_none e hfl0)]
            exact s6 _ _ (k5 _ _ e n)
          · rw [upd_ne nfd.symm]
            exact s6 _ _ d5
          · rw [upd_ne nfm.symm]
            exact s6 _ _ m5
          · exact PrsAt.snoc ((tus5.same s6).but f6 (fun xs z => by cases z)) (PrAt.but f6 (fun xs z => by cases z) ⟨t, rfl, h6⟩)
        · rw [if_neg (by omega)] at hstep
          cases hstep
          exact ⟨k5, d5, _, us, _, _, _, _, hr', rfl, m5, f5, tus5⟩
  · rintro σ H4 ⟨k4, d4, st, us, o4, o5, o6, o7, hst, rfl, m4, f4, tus⟩
    rw [lT, hT] at hst
    cases hst
    refine ⟨d4, _, rfl, q _ fl us (fun b o e => ?_) (by rw [upd_ne nfd]; exact f4) ?_⟩
    · by_cases hb : b = d
      · rw [hb, upd_same]
        rw [hb, hd] at e
        exact e
      · rw [upd_ne hb]
        exact k4 _ _ e hb
    · exact tus.but d4 (fun xs z => by cases z)
end
end Ft

namespace Ft
open PySem L2
/-! ### texts of edges -/
theorem int_short {v : Int} (h : v.natAbs < 2 ^ 140) : (PyData.int v).leavesShort 60 = true := by
  have key : (PyData.shown (.int v)).length ≤ 60 := by
    have p : (2 : Int) ^ 140 < 10 ^ 43 := by decide
    rcases Int.lt_or_le v 0 with h0 | h0
    · obtain ⟨m, rfl⟩ : ∃ m : Nat, v = Int.negSucc m := ⟨v.natAbs - 1, by omega⟩
      have l := PyProof.Rows.toString_length_le (v := ((m + 1 : Nat) : Int)) (by omega) (k := 43) (by decide) (by omega)
      have e : toString (Int.negSucc m) = "-" ++ toString (m + 1) := rfl
      show (Str.ofString (toString (Int.negSucc m))).length ≤ 60
      rw [e, PyProof.Rows.ofString_length, String.toList_append, List.length_append]
      rw [PyProof.Rows.ofString_length] at l
      have l' : (toString (m + 1)).toList.length ≤ 43 := l
      have : "-".toList.length = 1 := by decide
      omega
    · have l := PyProof.Rows.toString_length_le h0 (k := 43) (by decide) (by omega)
      exact Nat.le_trans l (by decide)
  simpa only [PyData.leavesShort, decide_eq_true_eq] using key
theorem int_showable {v : Int} (h : v.natAbs < 2 ^ 140) : (PyData.int v).showable = true := by
  have := PySem.Flt.log2_lt_of (by decide) h
  simp only [PyData.showable, decide_eq_true_eq]
  omega
def triD (e : Tri) : PyData := .tuple [.int (e.1 : Int), .int (e.2.1 : Int), .int (e.2.2 : Int)]
def edD (m : Nat) (es : List Tri) : PyData := .list [.int (m : Int), .tuple (es.map triD)]
theorem dp_tri {K : PySem.W.Frag} {H : Hp} {v : V} {e : Tri} (h : TriAt H v e) : Dp K H v (triD e) := by
  obtain ⟨t, rfl, ht⟩ := h
  exact .tup (SqT.of ht) (.cons (.int _) (.cons (.int _) (.cons (.int _) .nil)))
theorem dp_tris {K : PySem.W.Frag} {H : Hp} : ∀ {us : List V} {es : List Tri}, TrisAt H us es → DpAll K H us (es.map triD)
  | [], [], _ => .nil
  | [], _ :: _, h => by have := h.len; simp at this
  | _ :: _, [], h => by have := h.len; simp at this
  | u :: us, e :: es, h => .cons (dp_tri (h.at_ 0 u e rfl rfl)) (dp_tris ⟨by have := h.len; simpa using this, fun i v f a b => h.at_ (i + 1) v f a b⟩)
theorem dp_ed {K : PySem.W.Frag} {H : Hp} {l p : Addr} {m : Nat} {us : List V} {es : List Tri} (hl : H l = some (.lst [.int (m : Int), .ref p])) (hp : H p = some (.tup us)) (h : TrisAt H us es) : Dp K H (.ref l) (edD m es) :=
  .lst (SqL.of hl) (.cons (.int _) (.cons (.tup (SqT.of hp) (dp_tris h)) .nil))
/-- short enough -/
structure EdS (m : Nat) (es : List Tri) : Prop where
  m1 : m < 2 ^ 64
  len : es.length ≤ 100
  sm : ∀ e ∈ es, e.1 < 2 ^ 64 ∧ e.2.1 < 2 ^ 64 ∧ e.2.2 < 2 ^ 64
theorem nat140 {m : Nat} (h : m < 2 ^ 64) : ((m : Nat) : Int).natAbs < 2 ^ 140 := by
  have : ((m : Nat) : Int).natAbs = m := rfl
  rw [this]
  exact Nat.lt_trans h (by decide)
theorem tris_showable : ∀ {es : List Tri}, (∀ e ∈ es, e.1 < 2 ^ 64 ∧ e.2.1 < 2 ^ 64 ∧ e.2.2 < 2 ^ 64) → PyData.showableAll (es.map triD) = true
  | [], _ => by simp only [List.map_nil, PyData.showableAll]
  | e :: es, h => by
    have he := h e List.mem_cons_self
    have a := int_showable (nat140 he.1)
    have b := int_showable (nat140 he.2.1)
    have c := int_showable (nat140 he.2.2)
    simp only [List.map_cons, PyData.showableAll, triD, PyData.showable, Bool.and_eq_true, Bool.and_true] at a b c ⊢
    exact ⟨⟨a, b, c⟩, tris_showable fun x hx => h x (List.mem_cons_of_mem _ hx)⟩
theorem tris_short : ∀ {es : List Tri}, (∀ e ∈ es, e.1 < 2 ^ 64 ∧ e.2.1 < 2 ^ 64 ∧ e.2.2 < 2 ^ 64) → PyData.leavesShortAll 60 (es.map triD) = true
  | [], _ => by simp only [List.map_nil, PyData.leavesShortAll]
  | e :: es, h => by
    have he := h e List.mem_cons_self
    have a := int_short (nat140 he.1)
    have b := int_short (nat140 he.2.1)
    have c := int_short (nat140 he.2.2)
    simp only [List.map_cons, PyData.leavesShortAll, triD, PyData.leavesShort, Bool.and_eq_true, Bool.and_true] at a b c ⊢
    exact ⟨⟨a, b, c⟩, tris_short fun x hx => h x (List.mem_cons_of_mem _ hx)⟩
theorem tris_dict (es : List Tri) : PyData.hasDictAll (es.map triD) = false := by
  induction es with
  | nil => simp only [List.map_nil, PyData.hasDictAll]
  | cons e es ih => simp only [List.map_cons, PyData.hasDictAll, triD, PyData.hasDict, ih, Bool.or_self]
theorem tris_bulk (es : List Tri) : PyData.bulkAll (es.map triD) = 4 * es.length := by
  induction es with
  | nil => simp only [List.map_nil, PyData.bulkAll, List.length_nil]
  | cons e es ih =>
    simp only [List.map_cons, PyData.bulkAll, triD, PyData.bulk, List.length_cons, ih]
    omega
theorem tris_depth (es : List Tri) : PyData.depthAll (es.map triD) ≤ 1 := by
  induction es with
  | nil => exact Nat.zero_le _
  | cons e es ih =>
    show max (triD e).depth (PyData.depthAll (es.map triD)) ≤ 1
    exact Nat.max_le.mpr ⟨Nat.le_refl _, ih⟩
theorem rep_ed {m : Nat} {es : List Tri} (h : EdS m es) : RepOk (edD m es) := by
  have a := int_showable (nat140 h.m1)
  have b := int_short (nat140 h.m1)
  refine ⟨?_, ?_, ?_, ?_⟩
  · simp only [edD, PyData.showable, PyData.showableAll, tris_showable h.sm, Bool.and_eq_true, Bool.and_true] at a ⊢
    exact a
  · simp only [edD, PyData.hasDict, PyData.hasDictAll, tris_dict, Bool.or_self]
  · show max 0 (max (PyData.depthAll (es.map triD) + 1) 0) + 1 ≤ 64
    have := tris_depth es
    omega
  · have l := PyData.shown_le_bulk 60 (by decide) (edD m es) (by
      simp only [edD, PyData.leavesShort, PyData.leavesShortAll, tris_short h.sm, Bool.and_eq_true, Bool.and_true] at b ⊢
      exact b)
    have e : (edD m es).bulk = 4 * es.length + 2 := by
      simp only [edD, PyData.bulk, PyData.bulkAll, tris_bulk]
      omega
    rw [e] at l
    have := h.len
    have z : sizeLine = 16777216 := by decide
    omega
end Ft

namespace Ft
open PySem L2
def oneV : List V → List V → List V := fun us zs => match us, zs with
  | [], [a] => [a]
  | _, _ => []
def oneU : List Value → List Value → List Value := fun us zs => match us, zs with
  | [], [a] => [a]
  | _, _ => []
theorem one_rel : ∀ {vs : List V} {us : List Value} {zs : List V} {ws : List Value}, Vals vs us → Vals zs ws → Vals (oneV vs zs) (oneU us ws)
  | _, _, _, _, .nil, .nil => .nil
  | _, _, _, _, .nil, .cons a .nil => .cons a .nil
  | _, _, _, _, .nil, .cons _ (.cons _ _) => .nil
  | _, _, _, _, .cons _ _, _ => .nil
theorem kb_edges {K : PySem.W.Frag} {f : Addr} {fd : FuncData} (F : Fun K "edges_of" "edges_of" s_edges_of f fd) : KBinds K fd ["level"] ["level"] oneU oneV := by
  obtain ⟨oc, od, kV, doc, pm, an, cdv, ct, osl, rfl, lk, hcd⟩ := F.ex
  refine ⟨fun s us ws _ hl => ?_, one_rel⟩
  match us, ws, hl with
  | [], [a], _ => exact .of_eq rfl
theorem kb_index {K : PySem.W.Frag} {f : Addr} {fd : FuncData} (F : Fun K "index_of" "index_of" s_index_of f fd) : KBinds K fd ["level"] ["level"] oneU oneV := by
  obtain ⟨oc, od, kV, doc, pm, an, cdv, ct, osl, rfl, lk, hcd⟩ := F.ex
  refine ⟨fun s us ws _ hl => ?_, one_rel⟩
  match us, ws, hl with
  | [], [a], _ => exact .of_eq rfl
/-- the numbers are as they should be -/
structure NumOk : Prop where
  psi : ∀ n : Nat, 1 ≤ n → n ≤ 400 → psiGo 500 n n 2 = some (sumE (edges n))
  counted : ∀ n : Nat, 1 ≤ n → n ≤ 30 → Counted n
theorem edS_edges {n : Nat} (O : DivOk) (h1 : 1 ≤ n) (h2 : n ≤ 400) : EdS (sumE (edges n)) (edges n) := by
  have hl : (edges n).length ≤ 24 := by rw [show edges n = (divL n).map (edgeOf n) from rfl, List.length_map]; exact O.len n h1 h2
  have hb : ∀ e ∈ edges n, e.1 ≤ 400 ∧ e.2.1 ≤ 400 ∧ e.2.2 ≤ 400 := fun e he => by have := edge_bound he; omega
  refine ⟨?_, by omega, fun e he => by have := hb e he; omega⟩
  have key : ∀ (l : List Tri) (s : Nat), (∀ e ∈ l, e.1 ≤ 400 ∧ e.2.1 ≤ 400 ∧ e.2.2 ≤ 400) → l.foldl (fun s e => s + e.2.1 * e.2.2) s ≤ s + 160000 * l.length := by
    intro l
    induction l with
    | nil => intro s _; exact Nat.le_refl _
    | cons e l ih =>
      intro s h
      rw [List.foldl_cons, List.length_cons]
      have he := h e List.mem_cons_self
      have pm : e.2.1 * e.2.2 ≤ 400 * 400 := Nat.mul_le_mul he.2.1 he.2.2
      have := ih (s + e.2.1 * e.2.2) fun x hx => h x (List.mem_cons_of_mem _ hx)
      omega
  have := key (edges n) 0 hb
  unfold sumE
  omega
def sp_told : Sp := fun vs H Q _ => ∃ n : Nat, vs = [.int (n : Int)] ∧ 1 ≤ n ∧ n ≤ 400 ∧ ∀ H', Same H H' → Q (.bl true) H'
section
variable {P : Program} {w : World} {K : PySem.W.Frag} {mg : Str → Option Value} {base : Heap}
theorem fn_told {f : Addr} {fd : FuncData} (F : Fun K "_law_is_told_right" "_law_is_told_right" s__law_is_told_right f fd) (O : DivOk) (M : NumOk) (B : Bi mg) (c__law_edges : Cal P w K mg base 2 "_law_edges" sp_ledges) (c_same : CalG P w K mg base 1 "_law_same" (sp_same K)) (c_edges_of : Cal P w K mg base 5 "edges_of" sp_edges) (c_index_of : Cal P w K mg base 6 "index_of" sp_index) (k_index_of : CalK P w K mg base 6 "index_of" ["level"] oneV sp_index) :
    FnG P w K mg base 7 f fd ["_law_level"] sp_told := by
  have sc := sc__law_is_told_right
  refine fun_g F sc (fun _ _ _ _ ⟨_, e, _⟩ => by rw [e]; rfl) (fun cdv A outer s H vs Q E hgd hr h => ?_)
  obtain ⟨n, rfl, h1, h2, q⟩ := h
  refine ⟨_, (pss_cons (ps_asg (pe_tup (pa_cons (pe_c c__law_edges hr (by decide) (by rfl) (pa_cons (pv 0) pa_nil)) (pa_cons (pv 0) (pa_cons (pv 0) (pa_cons pe_int pa_nil))))) (pg_tup rfl (pgs_cons (pg_name (i := 1) sc.nd rfl (Or.inl rfl)) (pgs_cons (pg_name (i := 2) sc.nd rfl (Or.inl rfl)) (pgs_cons (pg_name (i := 3) sc.nd rfl (Or.inl rfl)) (pgs_cons (pg_name (i := 4) sc.nd rfl (Or.inl rfl)) pgs_nil))))))
      (pss_cons (ps_while PassesOwn.never (pt_cmpR op_gt (pv 3) pe_int (nomark _))
      (pss_cons (ps_if (pt_cmpR op_eq (pe_op op_mod (pe_callTy call_int1 (by rfl) B.int_ (by decide +kernel) (pa_cons (pv 3) pa_nil)) (pv 4)) pe_int (nomark _))
        (pss_cons (ps_set (i := 2) sc.nd rfl (Or.inl rfl) (pe_op op_mul (pe_op op_fdivW (pv 2) (pv 4)) (pe_op op_add (pv 4) pe_int)))
          (pss_one (ps_while PassesOwn.never (pt_cmpR op_eq (pe_op op_mod (pe_callTy call_int1 (by rfl) B.int_ (by decide +kernel) (pa_cons (pv 3) pa_nil)) (pv 4)) pe_int (nomark _))
          (pss_one (ps_set (i := 3) sc.nd rfl (Or.inl rfl) (pe_op op_fdivW (pv 3) (pv 4)))))))
        pss_nil)
        (pss_one (ps_set (i := 4) sc.nd rfl (Or.inl rfl) (pe_op op_add (pv 4) pe_int)))))
      (pss_cons (ps_if (pt_not (pt_val (pe_g c_same hgd hr (by decide) (by rfl) (pa_cons (pe_lst (pa_cons (pe_k0 k_index_of hr (by decide) (by rfl) (pk_cons (pv 0) pk_nil)) (pa_cons (pe_c c_edges_of hr (by decide) (by rfl) (pa_cons (pv 0) pa_nil)) pa_nil))) (pa_cons (pe_lst (pa_cons (pv 2) (pa_cons (pe_callTy call_tuple_of (by rfl) B.tuple (by decide +kernel) (pa_cons (pv 1) pa_nil)) pa_nil))) pa_nil)))))
      (pss_one (ps_ret pe_bl))
      pss_nil)
      (pss_one (ps_ret (pe_cmpR op_eq (pe_callB (cr_sum rfl) (by rfl) B.sum (by decide +kernel) (pa_cons (pe_lc (own := [("_law_c", 5), ("_law_many", 6), ("_law_width", 7)]) (g := gTup K 3 (gCons (gName 5) (gCons (gName 6) (gCons (gName 7) gNil)))) (tt := tYes) (by rfl) sc.nd (pi_list (pv 1)) (blkOk_by (own := [("_law_c", 5), ("_law_many", 6), ("_law_width", 7)]) (N := N__law_is_told_right) (sc := defScope s__law_is_told_right) (by decide +kernel)) (fun _ _ _ _ _ => (pg_tup rfl (pgs_cons (pg_name (i := 5) sc.nd rfl (Or.inl rfl) (Or.inr rfl)) (pgs_cons (pg_name (i := 6) sc.nd rfl (Or.inl rfl) (Or.inr rfl)) (pgs_cons (pg_name (i := 7) sc.nd rfl (Or.inl rfl) (Or.inr rfl)) pgs_nil))))) (fun _ _ _ _ _ => pts_nil) (fun _ _ _ _ _ => (pe_op op_mul (pv 6) (pv 7)))) pa_nil)) (pv 2) (nomark _))))))), ?_⟩
  refine ⟨_, rfl, n, rfl, h1, h2, fun H1 p us s1 hp tus => ?_⟩
  refine ⟨_, rfl, _, rfl, (by show (4 : Nat) ≤ sizeLine; decide), fun t ht => ?_⟩
  have s2 : Same H1 (upd H1 t (.tup [V.ref p, V.int (n : Int), V.int (n : Int), V.int 2])) := Same.upd_new ht
  have ht2 : (upd H1 t (.tup [V.ref p, V.int (n : Int), V.int (n : Int), V.int 2])) t = some (.tup [V.ref p, V.int (n : Int), V.int (n : Int), V.int 2]) := upd_same
  generalize upd H1 t (.tup [V.ref p, V.int (n : Int), V.int (n : Int), V.int 2]) = H2 at s2 ht2
  refine ⟨t, _, rfl, SqT.of ht2, rfl, _, _, rfl, _, _, rfl, _, _, rfl, _, _, rfl, rfl, ?_⟩
  have hp2 := s2 _ _ hp
  have tus2 := tus.same s2
  have s02 := s1.trans s2
  have hpsi := M.psi n h1 h2
  generalize hX : sumE (edges n) = X at hpsi
  dsimp only [gName, gNil]
  refine tSeq_join (fun σ H' => H2 = H' ∧ ∃ (o3 o4 : Option V), σ = [some (.int (n : Int)), some (.ref p), some (.int (X : Int)), o3, o4, none, none, none]) (fun NN hNN => ?_) ?_
  · refine while_go (fun σ H' => H2 = H' ∧ ∃ (f x r p' : Nat), σ = [some (.int (n : Int)), some (.ref p), some (.int (x : Int)), some (.int (r : Int)), some (.int (p' : Int)), none, none, none] ∧ f + p' = 502 ∧ 2 ≤ p' ∧ 1 ≤ r ∧ psiGo f x r p' = some X) (fun σ _ => 502 - m0 4 σ) ⟨rfl, 500, n, n, 2, rfl, rfl, by decide, h1, hpsi⟩ ?_
    rintro σ _ ⟨rfl, f, x, r, p', rfl, hf, hp', hr1, hg⟩
    cases f with
    | zero => cases hg
    | succ f =>
      unfold psiGo at hg
      refine ⟨_, rfl, _, _, rfl, rfl, _, rfl, ifD (fun hgt => ?_) fun hgt => ?_⟩
      · rw [if_pos (by omega)] at hg
        refine ⟨fun σ' H' => H2 = H' ∧ ∃ (x' r' : Nat), σ' = [some (.int (n : Int)), some (.ref p), some (.int (x' : Int)), some (.int (r' : Int)), some (.int ((p' + 1 : Nat) : Int)), none, none, none] ∧ 1 ≤ r' ∧ psiGo f x' r' (p' + 1) = some X, ?_, ?_⟩
        · rintro σ' _ ⟨rfl, x', r', rfl, h3, h4⟩
          exact ⟨_, (by show 502 - (((p' + 1 : Nat) : Int)).toNat < 502 - ((p' : Int)).toNat; omega), rfl, rfl, f, x', r', p' + 1, rfl, by omega, by omega, h3, h4⟩
        have pp : (0 : Int) < (p' : Int) := by omega
        refine tSeq_join (fun σ H' => H2 = H' ∧ ∃ (x' r' : Nat), σ = [some (.int (n : Int)), some (.ref p), some (.int (x' : Int)), some (.int (r' : Int)), some (.int (p' : Int)), none, none, none] ∧ 1 ≤ r' ∧ psiGo f x' r' (p' + 1) = some X) (fun N3 hN3 => ?_) ?_
        · refine ⟨_, rfl, .inl ⟨_, rfl, _, rfl, _, _, rfl, rfl, pp, rfl, _, rfl, ifI (fun e => ?_) fun e => ?_⟩⟩
          · have e' : r % p' = 0 := Int.ofNat.inj e
            rw [if_pos e'] at hg
            by_cases hx : x < 2 ^ 40
            · rw [if_pos hx] at hg
              have hxd : x / p' ≤ x := Nat.div_le_self _ _
              refine ⟨_, rfl, _, rfl, _, _, rfl, rfl, ?_, _, rfl, _, _, rfl, rfl, _, _, rfl, rfl, ?_, ?_⟩
              · exact cdivN (by omega) (by omega)
              · exact .inr ⟨by omega, by omega⟩
              cases hst : stripGo 500 r p' with
              | none => rw [hst] at hg; cases hg
              | some r' =>
                rw [hst] at hg
                simp only at hg
                dsimp only [gName]
                refine while_go (fun σ H' => H2 = H' ∧ ∃ (g rr : Nat), σ = [some (.int (n : Int)), some (.ref p), some (.int ((x / p' * (p' + 1) : Nat) : Int)), some (.int (rr : Int)), some (.int (p' : Int)), none, none, none] ∧ 1 ≤ rr ∧ stripGo g rr p' = some r') (fun σ _ => m0 3 σ) ⟨rfl, 500, r, rfl, hr1, hst⟩ ?_
                rintro σ _ ⟨rfl, g, rr, rfl, hrr, hg2⟩
                cases g with
                | zero => cases hg2
                | succ g =>
                  unfold stripGo at hg2
                  refine ⟨_, rfl, .inl ⟨_, rfl, _, rfl, _, _, rfl, rfl, pp, rfl, _, rfl, ifI (fun e2 => ?_) fun e2 => ?_⟩⟩
                  · have e3 : rr % p' = 0 := Int.ofNat.inj e2
                    rw [if_pos e3] at hg2
                    have hle : p' ≤ rr := Nat.le_of_dvd (by omega) (Nat.dvd_of_mod_eq_zero e3)
                    have hlt : rr / p' < rr := Nat.div_lt_self (by omega) (by omega)
                    have hge : 1 ≤ rr / p' := (Nat.le_div_iff_mul_le (by omega)).mpr (by omega)
                    refine ⟨fun σ' H' => H2 = H' ∧ σ' = [some (.int (n : Int)), some (.ref p), some (.int ((x / p' * (p' + 1) : Nat) : Int)), some (.int ((rr / p' : Nat) : Int)), some (.int (p' : Int)), none, none, none], ?_, ?_⟩
                    · rintro σ' _ ⟨rfl, rfl⟩
                      exact ⟨_, (by show (((rr / p' : Nat) : Int)).toNat < ((rr : Int)).toNat; omega), rfl, rfl, g, _, rfl, hge, hg2⟩
                    refine ⟨_, rfl, _, rfl, _, _, rfl, rfl, cdivN (by omega) (by omega), rfl, rfl⟩
                  · have e3 : ¬ rr % p' = 0 := fun z => e2 (congrArg Int.ofNat z)
                    rw [if_neg e3] at hg2
                    cases hg2
                    exact hN3 _ _ ⟨rfl, _, _, rfl, hrr, hg⟩
            · rw [if_neg hx] at hg
              cases hg
          · have e' : ¬ r % p' = 0 := fun z => e (congrArg Int.ofNat z)
            rw [if_neg e'] at hg
            exact hN3 _ _ ⟨rfl, x, r, rfl, hr1, hg⟩
        · rintro _ _ ⟨rfl, x', r', rfl, h3, h4⟩
          exact ⟨_, rfl, _, _, rfl, rfl, rfl, x', r', rfl, h3, h4⟩
      · rw [if_neg (by omega)] at hg
        cases hg
        exact hNN _ _ ⟨rfl, _, _, rfl⟩
  rintro _ _ ⟨rfl, o3, o4, rfl⟩
  have eS := edS_edges O h1 h2
  rw [hX] at eS
  refine ⟨_, rfl, n, rfl, h1, h2, fun H3 s3 => ?_⟩
  rw [hX]
  refine ⟨_, rfl, n, rfl, h1, h2, fun H4 p4 us4 s4 hp4 tus4 => ?_⟩
  refine ⟨(by show (2 : Nat) ≤ sizeLine; decide), fun l1 hl1 => ?_⟩
  have s5 : Same H4 (upd H4 l1 (.lst [V.int (X : Int), V.ref p4])) := Same.upd_new hl1
  have h5 : (upd H4 l1 (.lst [V.int (X : Int), V.ref p4])) l1 = some (.lst [V.int (X : Int), V.ref p4]) := upd_same
  generalize upd H4 l1 (.lst [V.int (X : Int), V.ref p4]) = H5 at s5 h5
  have s25 := s3.trans (s4.trans s5)
  have hp5 := s25 _ _ hp2
  refine ⟨_, rfl, _, rfl, p, us, rfl, .inl ⟨SqL.of hp5, fun p6 hp6 => ?_⟩⟩
  have s6 : Same H5 (upd H5 p6 (.tup us)) := Same.upd_new hp6
  have h6 : (upd H5 p6 (.tup us)) p6 = some (.tup us) := upd_same
  generalize upd H5 p6 (.tup us) = H6 at s6 h6
  refine ⟨(by show (2 : Nat) ≤ sizeLine; decide), fun l2 hl2 => ?_⟩
  have s7 : Same H6 (upd H6 l2 (.lst [V.int (X : Int), V.ref p6])) := Same.upd_new hl2
  have h7 : (upd H6 l2 (.lst [V.int (X : Int), V.ref p6])) l2 = some (.lst [V.int (X : Int), V.ref p6]) := upd_same
  generalize upd H6 l2 (.lst [V.int (X : Int), V.ref p6]) = H7 at s7 h7
  have s57 := s6.trans s7
  have tus7 := tus2.same (s25.trans s57)
  refine ⟨l1, l2, edD X (edges n), rfl, dp_ed (s57 _ _ h5) (s57 _ _ (s5 _ _ hp4)) (tus4.same (s5.trans s57)), dp_ed h7 (s7 _ _ h6) tus7, rep_ed eS, ?_⟩
  refine ⟨_, rfl, iteF ?_⟩
  dsimp only [tNext]
  have s27 := s25.trans s57
  have hp7 := s27 _ _ hp2
  have hb : ∀ e ∈ edges n, e.2.1 ≤ 400 ∧ e.2.2 ≤ 400 := fun e he => by
    have := edge_bound he
    omega
  have hel : (edges n).length ≤ 24 := by rw [show edges n = (divL n).map (edgeOf n) from rfl, List.length_map]; exact O.len n h1 h2
  have hsum := sumE_ints (edges n)
  rw [hX] at hsum
  generalize edges n = es at tus7 hb hel hsum
  refine ⟨_, rfl, p, rfl, ⟨_, SqL.of hp7⟩, fun D1 hD1 => ?_⟩
  refine lc_list (K := K) (a := p) (xs := us) (fun i H' => Same H7 H' ∧ H' D1 = some (.lst (((es.take i).map fun e => ((e.2.1 * e.2.2 : Nat) : Int)).map V.int))) ⟨Same.upd_new hD1, upd_same⟩ (fun i H' _ ⟨s2, _⟩ => SqL.of (s2 _ _ hp7)) ?_ ?_
  · rintro i x H2 hx ⟨s2, h2⟩
    obtain ⟨e, he, t, rfl, ht⟩ := tus7.get hx
    have htk : es.take (i + 1) = es.take i ++ [e] := by rw [List.take_add_one, he]; rfl
    refine ⟨t, _, rfl, SqT.of (s2 _ _ ht), rfl, ?_⟩
    have hb2 := hb e (List.mem_of_getElem? he)
    have pb : e.2.1 * e.2.2 ≤ 400 * 400 := Nat.mul_le_mul hb2.1 hb2.2
    have hmul : (e.2.1 : Int) * (e.2.2 : Int) = ((e.2.1 * e.2.2 : Nat) : Int) := (Int.natCast_mul _ _).symm
    refine ⟨_, _, rfl, _, _, rfl, _, _, rfl, rfl, rfl, ?_⟩
    refine ⟨_, rfl, _, rfl, _, _, rfl, rfl, .inl ⟨by omega, by omega⟩, _, h2, ?_, fun b o e => ?_, ?_⟩
    · rw [List.length_map, List.length_map, List.length_take]
      exact Nat.lt_of_le_of_lt (Nat.le_trans (Nat.min_le_right _ _) hel) (by decide)
    · rw [upd_ne (ne_of_none e hD1)]
      exact s2 _ _ e
    · rw [upd_same, htk, List.map_append, List.map_append]
      show some (HO.lst (_ ++ [V.int ((e.2.1 : Int) * (e.2.2 : Int))])) = _
      rw [hmul]
      rfl
  · rintro H8 ⟨s8, h8⟩
    rw [tus7.len, List.take_length] at h8
    refine ⟨D1, _, rfl, SqL.of h8, ?_⟩
    rw [hsum]
    refine ⟨_, rfl, rfl, ?_⟩
    rw [decide_eq_true rfl]
    exact q _ (s02.trans (s27.trans s8))
end
end Ft

namespace Ft
open PySem L2
def sp_counted : Sp := fun vs H Q _ => ∃ n : Nat, vs = [.int (n : Int)] ∧ 1 ≤ n ∧ n ≤ 30 ∧ ∀ H', Same H H' → Q (.bl true) H'
section
variable {P : Program} {w : World} {K : PySem.W.Frag} {mg : Str → Option Value} {base : Heap}
theorem fn_counted {f : Addr} {fd : FuncData} (F : Fun K "_law_is_counted_right" "_law_is_counted_right" s__law_is_counted_right f fd) (O : DivOk) (M : NumOk) (B : Bi mg) (c__law_points : Cal P w K mg base 2 "_law_points" sp_points) (c__law_rounds : Cal P w K mg base 2 "_law_rounds" sp_rounds) (c__law_divisors : Cal P w K mg base 1 "_law_divisors" sp_ldiv) (c_same : CalG P w K mg base 1 "_law_same" (sp_same K)) (k_edges_of : CalK P w K mg base 5 "edges_of" ["level"] oneV sp_edges) (c_index_of : Cal P w K mg base 6 "index_of" sp_index) :
    FnG P w K mg base 7 f fd ["_law_level"] sp_counted := by
  have sc := sc__law_is_counted_right
  refine fun_g F sc (fun _ _ _ _ ⟨_, e, _⟩ => by rw [e]; rfl) (fun cdv A outer s H vs Q E hgd hr h => ?_)
  obtain ⟨n, rfl, h1, h2, q⟩ := h
  have h64 : (A.deeper (PyProof.Rows.envOfC "_law_is_counted_right" (defScope s__law_is_counted_right) s.heap.objs.size f cdv)).units + 64 < cLine := by have := hr.un; omega
  refine ⟨_, (pss_cons (ps_asg (pe_c c__law_points hr (by decide) (by rfl) (pa_cons (pv 0) pa_nil)) (pg_tup rfl (pgs_cons (pg_name (i := 1) sc.nd rfl (Or.inl rfl)) (pgs_cons (pg_name (i := 2) sc.nd rfl (Or.inl rfl)) pgs_nil))))
      (pss_cons (ps_par (i := 3) (j := 4) (by rfl) sc.nd rfl rfl (by decide) rfl rfl (pa_cons (pe_c c__law_rounds hr (by decide) (by rfl) (pa_cons (pv 0) (pa_cons (pv 1) pa_nil))) (pa_cons (pe_lst pa_nil) pa_nil)) (by rfl))
      (pss_cons (ps_for PassesOwn.never rfl (pi_list (pe_c c__law_divisors hr (by decide) (by rfl) (pa_cons (pv 0) pa_nil))) (pg_name (i := 5) sc.nd rfl (Or.inr rfl))
      (pss_cons (ps_setLc (i := 8) (own := [("_law_d", 6), ("_law_size", 7)]) (g := gTup K 2 (gCons (gName 6) (gCons (gName 7) gNil)))  (by rfl) sc.nd rfl rfl (sw_true rfl rfl rfl (by decide +kernel)) (pi_list (pv 3)) (blkOk_by (own := [("_law_d", 6), ("_law_size", 7)]) (N := N__law_is_counted_right) (sc := defScope s__law_is_counted_right) (by decide +kernel)) (fun _ _ _ _ _ => (pg_tup rfl (pgs_cons (pg_name (i := 6) sc.nd rfl (Or.inl rfl) (Or.inr rfl)) (pgs_cons (pg_name (i := 7) sc.nd rfl (Or.inl rfl) (Or.inr rfl)) pgs_nil)))) (fun _ _ _ _ _ => (pts_one (pt_cmpR op_eq (pv 6) (pv 5) (nomark _)))) (fun _ _ _ _ _ => (pv 7)))
        (pss_cons (ps_if (PW.pt (pw_or (pt_cmpR (op_eqD h64) (pv 8) (pe_lst pa_nil) (nomark _)) (pw_or1 (pt_cmpR op_ne (pe_callB (cr_min rfl) (by rfl) B.min_ (by decide +kernel) (pa_cons (pv 8) pa_nil)) (pe_callB (cr_max rfl) (by rfl) B.max_ (by decide +kernel) (pa_cons (pv 8) pa_nil)) (nomark _)))))
        (pss_one (ps_ret pe_bl))
        pss_nil)
        (pss_one (ps_expr (pe_bm PySem.F.plainAttrs_list PySem.F.slot_list_append PySem.F.type_list_append mt_append (pv 4) (pa_cons (pe_tup (pa_cons (pv 5) (pa_cons (pe_callB call_len_seq (by rfl) B.len_ (by decide +kernel) (pa_cons (pv 8) pa_nil)) (pa_cons (pe_ix (show IxR _ (rIx K) from ix_seq) (pv 8) pe_int (fun _ _ => rfl)) pa_nil)))) pa_nil)))))))
      (pss_one (ps_ret (pe_g c_same hgd hr (by decide) (by rfl) (pa_cons (pe_lst (pa_cons (pe_c c_index_of hr (by decide) (by rfl) (pa_cons (pv 0) pa_nil)) (pa_cons (pe_k0 k_edges_of hr (by decide) (by rfl) (pk_cons (pv 0) pk_nil)) pa_nil))) (pa_cons (pe_lst (pa_cons (pv 2) (pa_cons (pe_callTy call_tuple_of (by rfl) B.tuple (by decide +kernel) (pa_cons (pv 4) pa_nil)) pa_nil))) pa_nil)))))))), ?_⟩
  obtain ⟨T, m, met, R, hT, hTl, hR, hm, hc⟩ := (M.counted n h1 h2).ex
  refine ⟨_, rfl, n, T, m, rfl, h1, h2, hT, fun H1 pp d s1 hpp hd => ?_⟩
  refine ⟨pp, _, rfl, SqT.of hpp, rfl, _, _, rfl, _, _, rfl, rfl, ?_⟩
  dsimp only [gName, gNil]
  refine ⟨_, rfl, _, rfl, n, d, T, met, R, rfl, h1, h2, hd, hR, hTl, fun H2 rl us s2 hrl tus => ?_⟩
  refine ⟨Nat.zero_le _, fun du hdu => ?_⟩
  have s3 : Same H2 (upd H2 du (.lst [])) := Same.upd_new hdu
  have hdu3 : (upd H2 du (.lst [])) du = some (.lst []) := upd_same
  generalize upd H2 du (.lst []) = H3 at s3 hdu3
  refine ⟨_, _, rfl, ?_⟩
  have nrd : rl ≠ du := fun e => by rw [e, hdu] at hrl; cases hrl
  have hrl3 := s3 _ _ hrl
  have tus3 := tus.same s3
  refine ⟨_, rfl, n, rfl, by omega, fun H4 q4 s4 nq4 hq4 => ?_⟩
  have s02 := s1.trans s2
  have s04 := s02.trans (s3.trans s4)
  have hdu0 : H du = none := s02.free hdu
  have nqd : q4 ≠ du := fun e => by rw [e, hdu3] at nq4; cases nq4
  have hlen := O.len n h1 (by omega)
  have hmem : ∀ d ∈ divL n, 1 ≤ d ∧ d ≤ n ∧ n % d = 0 := fun d hd => divL_mem hd
  have he : edges n = (divL n).map (edgeOf n) := rfl
  have eS := edS_edges O h1 (show n ≤ 400 by omega)
  generalize divL n = ds at hq4 hlen hmem he hc
  refine ⟨q4, rfl, ⟨_, SqL.of hq4⟩, for_list (K := K) (a := q4) (xs := ds.map fun d : Nat => V.int (d : Int)) (fun i σ H' => Same H H' ∧ H' q4 = some (.lst (ds.map fun d : Nat => V.int (d : Int))) ∧ H' rl = some (.lst us) ∧ PrsAt H' us R ∧ ∃ (es : List V) (o5 o8 : Option V), σ = [some (.int (n : Int)), some (.ref d), some (.int (m : Int)), some (.ref rl), some (.ref du), o5, none, none, o8] ∧ H' du = some (.lst es) ∧ TrisAt H' es ((ds.take i).map (edgeOf n)))
    ⟨s04, hq4, s4 _ _ hrl3, tus3.same s4, [], none, none, rfl, s4 _ _ hdu3, rfl, fun i u e a => by cases a⟩ (fun i σ H' _ ⟨_, z, _⟩ => SqL.of z) ?_ ?_⟩
  · rintro i x σ H5 hx ⟨s5, hq5, hrl5, tus5, es, o5, o8, rfl, hdu5, tes⟩
    obtain ⟨c, hcc, rfl⟩ : ∃ c, ds[i]? = some c ∧ x = V.int (c : Int) := by
      rw [List.getElem?_map] at hx
      cases e : ds[i]? with
      | none => rw [e] at hx; cases hx
      | some z => rw [e] at hx; exact ⟨z, rfl, (Option.some.inj hx).symm⟩
    have hcm := hmem c (List.mem_of_getElem? hcc)
    have htk : ds.take (i + 1) = ds.take i ++ [c] := by rw [List.take_add_one, hcc]; rfl
    obtain ⟨l, hl1, hl2, hl3⟩ := hc c (List.mem_of_getElem? hcc)
    have eo : edgeOf n c = (c, manyOf n c, n / Nat.gcd (c * c) n) := rfl
    generalize n / Nat.gcd (c * c) n = z at hl1 hl2 eo
    dsimp only [gName]
    refine ⟨_, rfl, rl, rfl, ⟨_, SqL.of hrl5⟩, fun D1 hD1 => ?_⟩
    refine lc_list (K := K) (a := rl) (xs := us) (fun i H' => Same H5 H' ∧ H' D1 = some (.lst ((((R.take i).filter fun e => decide (e.1 = c)).map fun e => (e.2 : Int)).map V.int))) ⟨Same.upd_new hD1, upd_same⟩ (fun i H' _ ⟨s2, _⟩ => SqL.of (s2 _ _ hrl5)) ?_ ?_
    · rintro j y H6 hy ⟨s6, h6⟩
      obtain ⟨e, he, t, rfl, ht⟩ := tus5.get hy
      have htk2 : R.take (j + 1) = R.take j ++ [e] := by rw [List.take_add_one, he]; rfl
      refine ⟨t, _, rfl, SqT.of (s6 _ _ ht), rfl, ?_⟩
      refine ⟨_, _, rfl, _, _, rfl, rfl, rfl, ?_⟩
      refine ⟨_, rfl, _, rfl, rfl, _, rfl, ifI (fun e2 => ?_) fun e2 => ?_⟩
      · have e3 : e.1 = c := Int.ofNat.inj e2
        refine ⟨_, rfl, _, h6, ?_, fun b o e => ?_, ?_⟩
        · rw [List.length_map, List.length_map]
          refine Nat.lt_of_le_of_lt (Nat.le_trans (List.length_filter_le _ _) (by rw [List.length_take]; exact Nat.min_le_right _ _)) (Nat.lt_of_le_of_lt (Nat.le_trans (rounds_len hR) hTl) (by decide))
        · rw [upd_ne (ne_of_none e hD1)]
          exact s6 _ _ e
        · rw [upd_same, htk2, List.filter_append, show [e].filter (fun e => decide (e.1 = c)) = [e] by simp [e3], List.map_append, List.map_append]
          rfl
      · have e3 : ¬ e.1 = c := fun k => e2 (congrArg Int.ofNat k)
        refine ⟨s6, ?_⟩
        rw [h6, htk2, List.filter_append, show [e].filter (fun e => decide (e.1 = c)) = [] by simp [e3], List.append_nil]
    · rintro H6 ⟨s6, h6⟩
      rw [tus5.len, List.take_length] at h6
      have h6' : H6 D1 = some (.lst (((z :: l).map fun y : Nat => (y : Int)).map V.int)) := by
        rw [h6, ← hl1]
        unfold sizesOf
        rw [List.map_map (g := fun y : Nat => (y : Int))]
        rfl
      have hln : l.length ≤ 1000 := by
        have h9 : (sizesOf R c).length ≤ R.length := by unfold sizesOf; rw [List.length_map]; exact List.length_filter_le _ _
        rw [hl1, List.length_cons] at h9
        have h8 : R.length ≤ T.length := rounds_len hR
        omega
      dsimp only [gName]
      have hdu6 := s6 _ _ hdu5
      refine tSeq_join (fun σ H' => Same H6 H' ∧ σ = [some (.int (n : Int)), some (.ref d), some (.int (m : Int)), some (.ref rl), some (.ref du), some (.int (c : Int)), none, none, some (.ref D1)]) (fun NN hNN => ?_) ?_
      · refine ⟨_, rfl, Nat.zero_le _, fun p2 hp2 => ?_⟩
        have s7 : Same H6 (upd H6 p2 (.lst [])) := Same.upd_new hp2
        refine ⟨_, _, .lst (SqL.of (s7 _ _ h6')) (dp_ints _), .lst (SqL.of upd_same) .nil, shaped_ints _, by decide, _, rfl, ?_⟩
        rw [eqv_nil]
        refine iteF ?_
        have h7' := s7 _ _ h6'
        have all_z : ∀ m1 : Int, m1 ∈ ((z :: l).map fun y : Nat => (y : Int)) → m1 = (z : Int) := fun m1 hm1 => by
          obtain ⟨y, hy, rfl⟩ := List.mem_map.mp hm1
          rcases List.mem_cons.mp hy with rfl | hy
          · rfl
          · rw [hl2 y hy]
        refine ⟨_, rfl, D1, _, rfl, SqL.of h7', by simp, fun m1 hm1 _ => ?_⟩
        refine ⟨_, rfl, D1, _, rfl, SqL.of h7', by simp, fun m2 hm2 _ => ?_⟩
        rw [all_z m1 hm1, all_z m2 hm2]
        refine ⟨rfl, _, rfl, ifNI (fun k => absurd rfl k) fun _ => ?_⟩
        exact hNN _ _ ⟨s7, rfl⟩
      · rintro _ H7 ⟨s7, rfl⟩
        have h7' := s7 _ _ h6'
        have hdu7 := s7 _ _ hdu6
        have s57 := s6.trans s7
        have lll : (((z :: l).map fun y : Nat => (y : Int)).map V.int).length = manyOf n c := by rw [List.length_map, List.length_map, List.length_cons]; exact hl3
        have at0 : (((z :: l).map fun y : Nat => (y : Int)).map V.int)[0]? = some (V.int (z : Int)) := rfl
        refine ⟨_, rfl, .inl ⟨rfl, _, SqL.of hdu7⟩, _, rfl, _, rfl, D1, _, rfl, .inl (SqL.of h7'), ?_⟩
        rw [lll]
        refine ⟨_, rfl, .inl ⟨D1, _, _, _, rfl, rfl, SqL.of h7', atI_nat (j := 0) at0, (by show (3 : Nat) ≤ sizeLine; decide), fun t ht => ?_⟩⟩
        have s8 : Same H7 (upd H7 t (.tup [V.int (c : Int), V.int (manyOf n c : Int), V.int (z : Int)])) := Same.upd_new ht
        have h8 : (upd H7 t (.tup [V.int (c : Int), V.int (manyOf n c : Int), V.int (z : Int)])) t = some (.tup [V.int (c : Int), V.int (manyOf n c : Int), V.int (z : Int)]) := upd_same
        have hdu8 := s8 _ _ hdu7
        have s58 := s57.trans s8
        have les : es.length ≤ 24 := by rw [tes.len, List.length_map, List.length_take]; omega
        refine ⟨du, _, _, rfl, rfl, hdu8, Nat.lt_of_le_of_lt les (by decide), ?_⟩
        refine ⟨fun b o e => ?_, ?_, ?_, ?_, es ++ [.ref t], _, _, rfl, upd_same, ?_⟩
        · rw [upd_ne (ne_of_none e hdu0)]
          exact s58 _ _ (s5 _ _ e)
        · rw [upd_ne nqd]
          exact s58 _ _ hq5
        · rw [upd_ne nrd]
          exact s58 _ _ hrl5
        · exact (tus5.same s58).but hdu8 (fun xs z => by cases z)
        · rw [htk, List.map_append]
          refine TrisAt.snoc ((tes.same s58).upd hdu8) (TriAt.upd hdu8 ?_)
          rw [eo]
          exact ⟨t, rfl, h8⟩
  · rintro σ H5 ⟨s5, hq5, hrl5, tus5, es, o5, o8, rfl, hdu5, tes⟩
    rw [List.length_map, List.take_length, ← he] at tes
    subst hm
    refine ⟨_, rfl, n, rfl, h1, by omega, fun H6 s6 => ?_⟩
    refine ⟨_, rfl, n, rfl, h1, by omega, fun H7 p7 us7 s7 hp7 tus7 => ?_⟩
    refine ⟨(by show (2 : Nat) ≤ sizeLine; decide), fun l1 hl1 => ?_⟩
    have s8 : Same H7 (upd H7 l1 (.lst [V.int (sumE (edges n) : Int), V.ref p7])) := Same.upd_new hl1
    have h8 : (upd H7 l1 (.lst [V.int (sumE (edges n) : Int), V.ref p7])) l1 = some (.lst [V.int (sumE (edges n) : Int), V.ref p7]) := upd_same
    generalize upd H7 l1 (.lst [V.int (sumE (edges n) : Int), V.ref p7]) = H8 at s8 h8
    have s58 := s6.trans (s7.trans s8)
    refine ⟨_, rfl, _, rfl, du, es, rfl, .inl ⟨SqL.of (s58 _ _ hdu5), fun p9 hp9 => ?_⟩⟩
    have s9 : Same H8 (upd H8 p9 (.tup es)) := Same.upd_new hp9
    have h9 : (upd H8 p9 (.tup es)) p9 = some (.tup es) := upd_same
    generalize upd H8 p9 (.tup es) = H9 at s9 h9
    refine ⟨(by show (2 : Nat) ≤ sizeLine; decide), fun l2 hl2 => ?_⟩
    have s10 : Same H9 (upd H9 l2 (.lst [V.int (sumE (edges n) : Int), V.ref p9])) := Same.upd_new hl2
    have h10 : (upd H9 l2 (.lst [V.int (sumE (edges n) : Int), V.ref p9])) l2 = some (.lst [V.int (sumE (edges n) : Int), V.ref p9]) := upd_same
    generalize upd H9 l2 (.lst [V.int (sumE (edges n) : Int), V.ref p9]) = H10 at s10 h10
    have s810 := s9.trans s10
    refine ⟨l1, l2, edD (sumE (edges n)) (edges n), rfl, dp_ed (s810 _ _ h8) (s810 _ _ (s8 _ _ hp7)) (tus7.same (s8.trans s810)), dp_ed h10 (s10 _ _ h9) (tes.same (s58.trans s810)), rep_ed eS, ?_⟩
    exact q _ (s5.trans (s58.trans s810))
end
end Ft

namespace Ft
open PySem L2
theorem TriAt.but {H H' : Hp} {d l : Addr} {v : V} {e : Tri} (D : DeckAt H d l) (bt : But d l H H') (h : TriAt H v e) : TriAt H' v e := by
  obtain ⟨t, a, b⟩ := h
  obtain ⟨mx, dr, cs, d1, d2, _⟩ := D
  exact ⟨t, a, bt _ _ b (ne_of b d1 (by intro z; cases z)) (ne_of b d2 (by intro z; cases z))⟩
theorem TriAt.inj {H : Hp} {v : V} {e f : Tri} (h : TriAt H v e) (k : TriAt H v f) : e = f := by
  obtain ⟨t, rfl, a⟩ := h
  obtain ⟨t2, q, b⟩ := k
  cases q
  rw [a] at b
  have b := HO.tup.inj (Option.some.inj b)
  simp only [List.cons.injEq, V.int.injEq, and_true] at b
  obtain ⟨a1, a2, a3⟩ := e
  obtain ⟨b1, b2, b3⟩ := f
  simp only at b
  rw [Int.ofNat.inj b.1, Int.ofNat.inj b.2.1, Int.ofNat.inj b.2.2]
noncomputable def triOf (H : Hp) (v : V) : Tri := open Classical in if h : ∃ e, TriAt H v e then h.choose else (0, 0, 0)
theorem triOf_eq {H : Hp} {v : V} {e : Tri} (h : TriAt H v e) : triOf H v = e := by
  unfold triOf
  rw [dif_pos ⟨e, h⟩]
  exact TriAt.inj (Exists.choose_spec (⟨e, h⟩ : ∃ e, TriAt H v e)) h
theorem TrisAt.map {H : Hp} : ∀ {us : List V} {l : List Tri}, TrisAt H us l → us.map (triOf H) = l ∧ ∀ u ∈ us, ∃ e ∈ l, TriAt H u e
  | [], [], _ => ⟨rfl, fun u hu => by cases hu⟩
  | [], _ :: _, h => by have := h.len; simp at this
  | _ :: _, [], h => by have := h.len; simp at this
  | u :: us, e :: l, h => by
    have h0 := h.at_ 0 u e rfl rfl
    have ih := TrisAt.map (us := us) (l := l) ⟨by have := h.len; simpa using this, fun i v f a b => h.at_ (i + 1) v f a b⟩
    refine ⟨by rw [List.map_cons, triOf_eq h0, ih.1], fun v hv => ?_⟩
    rcases List.mem_cons.mp hv with rfl | hv
    · exact ⟨e, List.mem_cons_self, h0⟩
    · obtain ⟨f, hf, hf2⟩ := ih.2 v hv
      exact ⟨f, List.mem_cons_of_mem _ hf, hf2⟩
theorem TrisAt.of_map {H : Hp} : ∀ {us : List V}, (∀ u ∈ us, ∃ e, TriAt H u e) → TrisAt H us (us.map (triOf H))
  | us, h => by
    refine ⟨(List.length_map ..).symm, fun i u e a b => ?_⟩
    rw [List.getElem?_map, a] at b
    cases b
    obtain ⟨e, he⟩ := h u (List.mem_of_getElem? a)
    rw [triOf_eq he]
    exact he
theorem TrisAt.app {H : Hp} {us vs : List V} {l m : List Tri} (h : TrisAt H us l) (k : TrisAt H vs m) : TrisAt H (us ++ vs) (l ++ m) := by
  refine ⟨by rw [List.length_append, List.length_append, h.len, k.len], fun i v f a b => ?_⟩
  rcases Nat.lt_or_ge i us.length with hi | hi
  · rw [List.getElem?_append_left hi] at a
    rw [List.getElem?_append_left (by rw [← h.len]; exact hi)] at b
    exact h.at_ i v f a b
  · rw [List.getElem?_append_right hi] at a
    rw [List.getElem?_append_right (by rw [← h.len]; exact hi), ← h.len] at b
    exact k.at_ _ v f a b
def codeT (e : Tri) : Int := TS.code 401 [(e.1 : Int), (e.2.1 : Int), (e.2.2 : Int)]
theorem codeT_lt {e f : Tri} (h : e.1 < f.1) (h1 : e.2.1 ≤ 400) (h2 : e.2.2 ≤ 400) : codeT e < codeT f := by
  unfold codeT
  simp only [TS.code, List.length_cons, List.length_nil]
  have e2 : (401 : Int) ^ (0 + 1 + 1) = 160801 := by decide
  have e1 : (401 : Int) ^ (0 + 1) = 401 := by decide
  have e0 : (401 : Int) ^ 0 = 1 := by decide
  rw [e2, e1, e0]
  omega
/-- what sorted leaves of the products -/
theorem sorted_prods {H : Hp} {a b : Nat} {xs ys : List V} (PO : PairOk) (a1 : 1 ≤ a) (a2 : a ≤ 20) (b1 : 1 ≤ b) (b2 : b ≤ 20) (hg : Nat.gcd a b = 1) (h : TrisAt H xs (prods a b)) (hp : ys.Perm xs)
    (hs : ys.Pairwise fun x y => ∀ e f, TriAt H x e → TriAt H y f → codeT e ≤ codeT f) : TrisAt H ys (edges (a * b)) := by
  obtain ⟨p1, p2, p3⟩ := PO.ex a b a1 a2 b1 b2 hg
  obtain ⟨m1, m2⟩ := h.map
  have hy : ∀ u ∈ ys, ∃ e, TriAt H u e := fun u hu => by
    obtain ⟨e, _, he⟩ := m2 u (hp.mem_iff.mp hu)
    exact ⟨e, he⟩
  have t := TrisAt.of_map hy
  have pe : (ys.map (triOf H)).Perm (edges (a * b)) := by
    have := hp.map (triOf H)
    rw [m1] at this
    exact this.trans p1
  have ab : a * b ≤ 20 * 20 := Nat.mul_le_mul a2 b2
  have srt : (ys.map (triOf H)).Pairwise fun e f => codeT e ≤ codeT f := by
    rw [List.pairwise_map]
    refine List.Pairwise.imp_of_mem (fun {x y} hx hy2 k => ?_) hs
    obtain ⟨e, he⟩ := hy x hx
    obtain ⟨f, hf⟩ := hy y hy2
    rw [triOf_eq he, triOf_eq hf]
    exact k e f he hf
  have asc : (edges (a * b)).Pairwise fun e f => codeT e < codeT f := by
    refine List.Pairwise.imp_of_mem (fun {e f} he _ k => ?_) (edges_asc (a * b))
    have := edge_bound he
    exact codeT_lt k (by omega) (by omega)
  rw [sorted_unique codeT _ _ pe srt asc] at t
  exact t
def sp_law (K : PySem.W.Frag) : Sp := fun vs H Q _ => ∃ (a : Addr) (ns : List Int), vs = [.ref a] ∧ SqL K H a (ns.map V.int) ∧ ns.length ≤ 63 ∧ ∀ H', Q (.bl true) H'
section
variable {P : Program} {w : World} {K : PySem.W.Frag} {mg : Str → Option Value} {base : Heap}
set_option maxHeartbeats 0 in
theorem fn_law {f : Addr} {fd : FuncData} (F : Fun K "law" "law" s_law f fd) (O : DivOk) (PO : PairOk) (B : Bi mg) (c__law_deck : Cal P w K mg base 1 "_law_deck" (sp_deck K)) (c__law_draw : Cal P w K mg base 1 "_law_draw" sp_draw) (c_counted : CalG P w K mg base 7 "_law_is_counted_right" sp_counted) (c__law_pick : Cal P w K mg base 2 "_law_pick" (sp_pick K)) (c_told : CalG P w K mg base 7 "_law_is_told_right" sp_told)
    (c__law_divisor : Cal P w K mg base 1 "_law_divisor" sp_gcd) (c_edges_of : Cal P w K mg base 5 "edges_of" sp_edges) (c_same : CalG P w K mg base 1 "_law_same" (sp_same K)) (c_index_of : Cal P w K mg base 6 "index_of" sp_index) : FnG P w K mg base 8 f fd ["_law_script"] (sp_law K) := by
  have sc := sc_law
  refine fun_g F sc (fun _ _ _ _ ⟨_, _, e, _⟩ => by rw [e]; rfl) (fun cdv A outer s H vs Q E hgd hr h => ?_)
  obtain ⟨a, ns, rfl, hS, hlen, q⟩ := h
  refine ⟨_, (pss_cons (ps_set (i := 1) sc.nd rfl (Or.inl rfl) (pe_c c__law_deck hr (by decide) (by rfl) (pa_cons (pv 0) pa_nil)))
      (pss_cons (ps_set (i := 2) sc.nd rfl (Or.inl rfl) (pe_op op_add pe_int (pe_c c__law_draw hr (by decide) (by rfl) (pa_cons (pv 1) (pa_cons (pe_ifExp (pt_cmpR op_eq (pe_c c__law_draw hr (by decide) (by rfl) (pa_cons (pv 1) (pa_cons pe_int pa_nil))) pe_int (nomark _)) pe_int pe_int) pa_nil)))))
      (pss_cons (ps_par (i := 3) (j := 4) (by rfl) sc.nd rfl rfl (by decide) rfl rfl (pa_cons (pe_op op_add pe_int (pe_c c__law_draw hr (by decide) (by rfl) (pa_cons (pv 1) (pa_cons pe_int pa_nil)))) (pa_cons (pe_op op_add pe_int (pe_c c__law_draw hr (by decide) (by rfl) (pa_cons (pv 1) (pa_cons pe_int pa_nil)))) pa_nil)) (by rfl))
      (pss_cons (ps_if (pt_not (pt_val (pe_g c_counted hgd hr (by decide) (by rfl) (pa_cons (pv 2) pa_nil))))
      (pss_one (ps_ret pe_bl))
      pss_nil)
      (pss_cons (ps_for PassesOwn.never rfl (pi_tup (pe_tup (pa_cons (pv 2) (pa_cons (pv 3) (pa_cons (pv 4) (pa_cons (pe_op op_add pe_int (pe_c c__law_draw hr (by decide) (by rfl) (pa_cons (pv 1) (pa_cons pe_int pa_nil)))) (pa_cons (pe_c c__law_pick hr (by decide) (by rfl) (pa_cons (pv 1) (pa_cons (pe_tup (pa_cons pe_int (pa_cons pe_int (pa_cons pe_int (pa_cons pe_int (pa_cons pe_int (pa_cons pe_int (pa_cons pe_int (pa_cons pe_int pa_nil))))))))) pa_nil))) pa_nil))))))) (pg_name (i := 5) sc.nd rfl (Or.inl rfl))
      (pss_one (ps_if (pt_not (pt_val (pe_g c_told hgd hr (by decide) (by rfl) (pa_cons (pv 5) pa_nil))))
        (pss_one (ps_ret pe_bl))
        pss_nil)))
      (pss_cons (ps_if (pt_cmpR op_gt (pe_c c__law_divisor hr (by decide) (by rfl) (pa_cons (pv 3) (pa_cons (pv 4) pa_nil))) pe_int (nomark _))
      (pss_one (ps_ret pe_bl))
      pss_nil)
      (pss_cons (ps_set (i := 6) sc.nd rfl (Or.inl rfl) (pe_lst pa_nil))
      (pss_cons (ps_for PassesOwn.never rfl (pi_tup (pe_c c_edges_of hr (by decide) (by rfl) (pa_cons (pv 3) pa_nil))) (pg_tup rfl (pgs_cons (pg_name (i := 7) sc.nd rfl (Or.inr rfl)) (pgs_cons (pg_name (i := 8) sc.nd rfl (Or.inr rfl)) (pgs_cons (pg_name (i := 9) sc.nd rfl (Or.inr rfl)) pgs_nil))))
      (pss_one (ps_expr (pe_bm PySem.F.plainAttrs_list PySem.F.slot_list_extend PySem.F.type_list_extend mt_extend (pv 6) (pa_cons (pe_lc (own := [("_law_d", 10), ("_law_more", 11), ("_law_far", 12)]) (g := gTup K 3 (gCons (gName 10) (gCons (gName 11) (gCons (gName 12) gNil)))) (tt := tYes) (by rfl) sc.nd (pi_tup (pe_c c_edges_of hr (by decide) (by rfl) (pa_cons (pv 4) pa_nil))) (blkOk_by (own := [("_law_d", 10), ("_law_more", 11), ("_law_far", 12)]) (N := N_law) (sc := defScope s_law) (by decide +kernel)) (fun _ _ _ _ _ => (pg_tup rfl (pgs_cons (pg_name (i := 10) sc.nd rfl (Or.inl rfl) (Or.inr rfl)) (pgs_cons (pg_name (i := 11) sc.nd rfl (Or.inl rfl) (Or.inr rfl)) (pgs_cons (pg_name (i := 12) sc.nd rfl (Or.inl rfl) (Or.inr rfl)) pgs_nil))))) (fun _ _ _ _ _ => pts_nil) (fun _ _ _ _ _ => (pe_tup (pa_cons (pe_op op_mul (pv 7) (pv 10)) (pa_cons (pe_op op_mul (pv 8) (pv 11)) (pa_cons (pe_op op_mul (pv 9) (pv 12)) pa_nil)))))) pa_nil)))))
      (pss_cons (ps_set (i := 13) sc.nd rfl (Or.inl rfl) (pe_op op_mul (pv 3) (pv 4)))
      (pss_one (ps_ret (pe_g c_same hgd hr (by decide) (by rfl) (pa_cons (pe_lst (pa_cons (pe_c c_index_of hr (by decide) (by rfl) (pa_cons (pv 13) pa_nil)) (pa_cons (pe_c c_edges_of hr (by decide) (by rfl) (pa_cons (pv 13) pa_nil)) pa_nil))) (pa_cons (pe_lst (pa_cons (pe_op op_mul (pe_c c_index_of hr (by decide) (by rfl) (pa_cons (pv 3) pa_nil)) (pe_c c_index_of hr (by decide) (by rfl) (pa_cons (pv 4) pa_nil))) (pa_cons (pe_callTy call_tuple_of (by rfl) B.tuple (by decide +kernel) (pa_cons (pe_callB (cr_sortT (d := 3) (B := 401) (by decide)) (by rfl) B.sorted (by decide +kernel) (pa_cons (pv 6) pa_nil)) pa_nil)) pa_nil))) pa_nil)))))))))))))), ?_⟩
  refine ⟨_, rfl, a, ns, rfl, hS, hlen, fun H1 d l D1 _ _ _ => ?_⟩
  dsimp only [gName]
  refine tSeq_join (fun σ H' => DeckAt H' d l ∧ ∃ S : Nat, 1 ≤ S ∧ S ≤ 30 ∧ σ = [some (.ref a), some (.ref d), some (.int (S : Int)), none, none, none, none, none, none, none, none, none, none, none]) (fun NN hNN => ?_) ?_
  · refine ⟨_, rfl, _, rfl, d, l, _, rfl, D1, by decide, by decide, fun H2 r0 D2 b2 r00 r01 => ?_⟩
    refine ⟨rfl, _, rfl, ifI (fun _ => ?_) fun _ => ?_⟩
    · refine ⟨d, l, _, rfl, D2, by decide, by decide, fun H3 r D3 b3 r0 r1 => ?_⟩
      obtain ⟨S, hS1, hS2, hS3⟩ : ∃ S : Nat, 1 + r = (S : Int) ∧ 1 ≤ S ∧ S ≤ 30 := ⟨(1 + r).toNat, by omega, by omega, by omega⟩
      refine ⟨_, _, rfl, rfl, ?_⟩
      dsimp only [gName]
      rw [hS1]
      exact hNN _ _ ⟨D3, S, hS2, hS3, rfl⟩
    · refine ⟨d, l, _, rfl, D2, by decide, by decide, fun H3 r D3 b3 r0 r1 => ?_⟩
      obtain ⟨S, hS1, hS2, hS3⟩ : ∃ S : Nat, 1 + r = (S : Int) ∧ 1 ≤ S ∧ S ≤ 30 := ⟨(1 + r).toNat, by omega, by omega, by omega⟩
      refine ⟨_, _, rfl, rfl, ?_⟩
      dsimp only [gName]
      rw [hS1]
      exact hNN _ _ ⟨D3, S, hS2, hS3, rfl⟩
  rintro _ H2 ⟨D2, S, S1, S30, rfl⟩
  refine ⟨_, rfl, d, l, _, rfl, D2, by decide, by decide, fun H3 r1 D3 b3 r10 r11 => ?_⟩
  refine ⟨_, _, rfl, rfl, ?_⟩
  refine ⟨_, rfl, d, l, _, rfl, D3, by decide, by decide, fun H4 r2 D4 b4 r20 r21 => ?_⟩
  obtain ⟨x1, hx1, x11, x12⟩ : ∃ S : Nat, 1 + r1 = (S : Int) ∧ 1 ≤ S ∧ S ≤ 20 := ⟨(1 + r1).toNat, by omega, by omega, by omega⟩
  obtain ⟨x2, hx2, x21, x22⟩ : ∃ S : Nat, 1 + r2 = (S : Int) ∧ 1 ≤ S ∧ S ≤ 20 := ⟨(1 + r2).toNat, by omega, by omega, by omega⟩
  refine ⟨_, _, rfl, rfl, _, _, rfl, ?_⟩
  dsimp only
  rw [hx1, hx2]
  refine ⟨_, rfl, S, rfl, S1, S30, fun H5 s5 => ⟨_, rfl, iteF ?_⟩⟩
  dsimp only [tNext]
  have D5 := D4.same s5
  -- the five levels
  refine ⟨_, rfl, _, rfl, _, rfl, _, rfl, d, l, _, rfl, D5, by decide, by decide, fun H6 r3 D6 b6 r30 r31 => ?_⟩
  refine ⟨_, _, rfl, rfl, _, rfl, (by show (8 : Nat) ≤ sizeLine; decide), fun pt hpt => ?_⟩
  refine ⟨d, l, pt, _, rfl, D6.same (Same.upd_new hpt), .inr upd_same, (by show 0 < 8; decide), (by show 8 < 2 ^ 64; decide), fun H7 v D7 b7 hv => ?_⟩
  obtain ⟨x3, hx3, x31, x32⟩ : ∃ S : Nat, 1 + r3 = (S : Int) ∧ 1 ≤ S ∧ S ≤ 400 := ⟨(1 + r3).toNat, by omega, by omega, by omega⟩
  obtain ⟨x4, rfl, x41, x42⟩ : ∃ S : Nat, v = .int (S : Int) ∧ 1 ≤ S ∧ S ≤ 400 := by
    simp only [List.mem_cons, List.not_mem_nil, or_false] at hv
    rcases hv with h | h | h | h | h | h | h | h
    · exact ⟨400, h, by decide, by decide⟩
    · exact ⟨360, h, by decide, by decide⟩
    · exact ⟨399, h, by decide, by decide⟩
    · exact ⟨256, h, by decide, by decide⟩
    · exact ⟨243, h, by decide, by decide⟩
    · exact ⟨383, h, by decide, by decide⟩
    · exact ⟨1, h, by decide, by decide⟩
    · exact ⟨384, h, by decide, by decide⟩
  refine ⟨(by show (5 : Nat) ≤ sizeLine; decide), fun pf hpf => ?_⟩
  have hall : ∀ x ∈ [V.int (S : Int), V.int (x1 : Int), V.int (x2 : Int), V.int (1 + r3), V.int (x4 : Int)], ∃ n : Nat, x = V.int (n : Int) ∧ 1 ≤ n ∧ n ≤ 400 := fun x hx => by
    simp only [List.mem_cons, List.not_mem_nil, or_false] at hx
    rcases hx with h | h | h | h | h
    · exact ⟨S, h, by omega, by omega⟩
    · exact ⟨x1, h, by omega, by omega⟩
    · exact ⟨x2, h, by omega, by omega⟩
    · exact ⟨x3, by rw [h, hx3], by omega, by omega⟩
    · exact ⟨x4, h, by omega, by omega⟩
  have hpf8 : (upd H7 pf (.tup [V.int (S : Int), V.int (x1 : Int), V.int (x2 : Int), V.int (1 + r3), V.int (x4 : Int)])) pf = some (.tup [V.int (S : Int), V.int (x1 : Int), V.int (x2 : Int), V.int (1 + r3), V.int (x4 : Int)]) := upd_same
  refine ⟨pf, rfl, ⟨_, SqT.of hpf8⟩, for_it (walk_tup (K := K) (xs := [V.int (S : Int), V.int (x1 : Int), V.int (x2 : Int), V.int (1 + r3), V.int (x4 : Int)])) (fun i σ H' => H' pf = some (.tup [V.int (S : Int), V.int (x1 : Int), V.int (x2 : Int), V.int (1 + r3), V.int (x4 : Int)]) ∧ ∃ o5 : Option V, σ = [some (.ref a), some (.ref d), some (.int (S : Int)), some (.int (x1 : Int)), some (.int (x2 : Int)), o5, none, none, none, none, none, none, none, none]) ⟨hpf8, none, rfl⟩ (fun i σ H' _ ⟨z, _⟩ => SqT.of z) ?_ ?_⟩
  · rintro i x σ H9 _ hi ⟨h9, o5, rfl⟩ ⟨rfl, hx⟩
    obtain ⟨n, rfl, n1, n2⟩ := hall x (List.mem_of_getElem? hx)
    refine ⟨_, rfl, n, rfl, n1, n2, fun H10 s10 => ⟨_, rfl, iteF ?_⟩⟩
    exact ⟨s10 _ _ h9, _, rfl⟩
  rintro σ H9 ⟨_, o5, rfl⟩
  dsimp only
  refine ⟨_, rfl, _, rfl, x1, x2, rfl, _, _, rfl, rfl, _, rfl, ifD (fun _ => q _) fun hg => ?_⟩
  have hg1 : Nat.gcd x1 x2 = 1 := by
    have := Nat.gcd_pos_of_pos_left x2 (show 0 < x1 by omega)
    omega
  dsimp only [tNext]
  refine ⟨Nat.zero_le _, fun du hdu => ?_⟩
  have s10 : Same H9 (upd H9 du (.lst [])) := Same.upd_new hdu
  have h10 : (upd H9 du (.lst [])) du = some (.lst []) := upd_same
  generalize upd H9 du (.lst []) = H10 at s10 h10
  refine ⟨_, rfl, x1, rfl, x11, by omega, fun H11 p1 us1 s11 hp1 tus1 => ?_⟩
  have hdu0 : ∀ b o, H9 b = some o → b ≠ du := fun b o e => ne_of_none e hdu
  have hdu11 := s11 _ _ h10
  have np1 : p1 ≠ du := ne_of hp1 hdu11 (by intro z; cases z)
  have hpr : prods x1 x2 = (edges x1).flatMap fun e => (edges x2).map fun f => (e.1 * f.1, e.2.1 * f.2.1, e.2.2 * f.2.2) := rfl
  obtain ⟨pe1, pe2, pe3⟩ := PO.ex x1 x2 x11 x12 x21 x22 hg1
  have lE1 : (edges x1).length ≤ 24 := by rw [show edges x1 = (divL x1).map (edgeOf x1) from rfl, List.length_map]; exact O.len x1 x11 (by omega)
  have lE2 : (edges x2).length ≤ 24 := by rw [show edges x2 = (divL x2).map (edgeOf x2) from rfl, List.length_map]; exact O.len x2 x21 (by omega)
  have bE1 : ∀ e ∈ edges x1, e.1 ≤ 20 ∧ e.2.1 ≤ 20 ∧ e.2.2 ≤ 20 := fun e he => by have := edge_bound he; omega
  have bE2 : ∀ e ∈ edges x2, e.1 ≤ 20 ∧ e.2.1 ≤ 20 ∧ e.2.2 ≤ 20 := fun e he => by have := edge_bound he; omega
  refine ⟨p1, rfl, ⟨_, SqT.of hp1⟩, for_it (walk_tup (K := K) (xs := us1)) (fun i σ H' => Same H9 H' ∧ H' p1 = some (.tup us1) ∧ TrisAt H' us1 (edges x1) ∧ ∃ (ds : List V) (o7 o8 o9 : Option V), σ = [some (.ref a), some (.ref d), some (.int (S : Int)), some (.int (x1 : Int)), some (.int (x2 : Int)), o5, some (.ref du), o7, o8, o9, none, none, none, none] ∧ H' du = some (.lst ds) ∧ TrisAt H' ds (((edges x1).take i).flatMap fun e => (edges x2).map fun f => (e.1 * f.1, e.2.1 * f.2.1, e.2.2 * f.2.2)))
    ⟨s10.trans s11, hp1, tus1, [], none, none, none, rfl, hdu11, rfl, fun i u e a => by cases a⟩ (fun i σ H' _ ⟨_, z, _⟩ => SqT.of z) ?_ ?_⟩
  · rintro i x σ H12 _ hi ⟨s12, hp12, tus12, ds, o7, o8, o9, rfl, hdu12, tds⟩ ⟨rfl, hx⟩
    obtain ⟨e, he, t, rfl, ht⟩ := tus12.get hx
    have htk : (edges x1).take (i + 1) = (edges x1).take i ++ [e] := by rw [List.take_add_one, he]; rfl
    have be := bE1 e (List.mem_of_getElem? he)
    refine ⟨t, _, rfl, SqT.of ht, rfl, _, _, rfl, _, _, rfl, _, _, rfl, rfl, ?_⟩
    refine ⟨_, rfl, .inl ⟨rfl, _, SqL.of hdu12⟩, _, rfl, x2, rfl, x21, by omega, fun H13 p2 us2 s13 hp2 tus2 => ?_⟩
    refine ⟨p2, rfl, ⟨_, SqT.of hp2⟩, fun Dc hDc => ?_⟩
    have s912 := s12.trans s13
    refine lc_tup (K := K) (a := p2) (xs := us2) (fun k H' => Same H13 H' ∧ ∃ vs : List V, H' Dc = some (.lst vs) ∧ TrisAt H' vs (((edges x2).take k).map fun f => (e.1 * f.1, e.2.1 * f.2.1, e.2.2 * f.2.2))) ⟨Same.upd_new hDc, [], upd_same, rfl, fun i u e a => by cases a⟩ (fun i H' _ ⟨s2, _⟩ => SqT.of (s2 _ _ hp2)) ?_ ?_
    · rintro k y H14 hy ⟨s14, vs, hvs, tvs⟩
      obtain ⟨f, hf, t2, rfl, ht2⟩ := tus2.get hy
      have htk2 : (edges x2).take (k + 1) = (edges x2).take k ++ [f] := by rw [List.take_add_one, hf]; rfl
      have bf := bE2 f (List.mem_of_getElem? hf)
      refine ⟨t2, _, rfl, SqT.of (s14 _ _ ht2), rfl, _, _, rfl, _, _, rfl, _, _, rfl, rfl, rfl, ?_⟩
      refine ⟨_, rfl, _, rfl, _, _, rfl, rfl, .inl ⟨by omega, by omega⟩, _, rfl, _, rfl, _, _, rfl, rfl, .inl ⟨by omega, by omega⟩, _, rfl, _, rfl, _, _, rfl, rfl, .inl ⟨by omega, by omega⟩, (by show (3 : Nat) ≤ sizeLine; decide), fun t3 ht3 => ?_⟩
      have s15 := Same.upd_new (o := .tup [V.int ((e.1 : Int) * (f.1 : Int)), V.int ((e.2.1 : Int) * (f.2.1 : Int)), V.int ((e.2.2 : Int) * (f.2.2 : Int))]) ht3
      have h15 : (upd H14 t3 (.tup [V.int ((e.1 : Int) * (f.1 : Int)), V.int ((e.2.1 : Int) * (f.2.1 : Int)), V.int ((e.2.2 : Int) * (f.2.2 : Int))])) t3 = some (.tup [V.int ((e.1 * f.1 : Nat) : Int), V.int ((e.2.1 * f.2.1 : Nat) : Int), V.int ((e.2.2 * f.2.2 : Nat) : Int)]) := upd_same
      have hvs15 := s15 _ _ hvs
      have lvs : vs.length ≤ 24 := by rw [tvs.len, List.length_map, List.length_take]; omega
      refine ⟨vs, hvs15, Nat.lt_of_le_of_lt lvs (by decide), fun b o e => ?_, _, upd_same, ?_⟩
      · rw [upd_ne (ne_of_none e hDc)]
        exact s15 _ _ (s14 _ _ e)
      · rw [htk2, List.map_append]
        exact TrisAt.snoc ((tvs.same s15).upd hvs15) (TriAt.upd hvs15 ⟨t3, rfl, h15⟩)
    · rintro H14 ⟨s14, vs, hvs, tvs⟩
      rw [tus2.len, List.take_length] at tvs
      have hdu14 := s14 _ _ (s13 _ _ hdu12)
      have s9 := s912.trans s14
      have lds : ds.length ≤ 1000 := by
        rw [tds.len, List.length_flatMap]
        have key : ∀ l : List Tri, (l.map fun e => ((edges x2).map fun f : Tri => ((e.1 * f.1, e.2.1 * f.2.1, e.2.2 * f.2.2) : Tri)).length).sum = l.length * (edges x2).length := by
          intro l
          induction l with
          | nil => simp
          | cons e l ih => rw [List.map_cons, List.sum_cons, ih, List.length_map, List.length_cons, Nat.succ_mul, Nat.add_comm]
        rw [key, List.length_take]
        exact Nat.le_trans (Nat.mul_le_mul (Nat.min_le_right _ _) (Nat.le_refl _)) (Nat.le_trans (Nat.mul_le_mul lE1 lE2) (by decide))
      have lvs : vs.length ≤ 24 := by rw [tvs.len, List.length_map]; exact lE2
      refine ⟨du, Dc, _, _, rfl, rfl, hdu14, hvs, Nat.le_trans (by omega : _ ≤ 2000) (by decide), ?_⟩
      refine ⟨fun b o e => ?_, ?_, ?_, ds ++ vs, _, _, _, rfl, upd_same, ?_⟩
      · rw [upd_ne (hdu0 b o e)]
        exact s9 _ _ e
      · rw [upd_ne np1]
        exact s14 _ _ (s13 _ _ hp12)
      · exact ((tus12.same s13).same s14).upd hdu14
      · rw [htk, List.flatMap_append]
        have tz := ((tds.same s13).same s14).upd (o := .lst (ds ++ vs)) hdu14
        have tv := tvs.upd (o := .lst (ds ++ vs)) hdu14
        exact TrisAt.app tz (by rw [List.flatMap_cons, List.flatMap_nil, List.append_nil]; exact tv)
  · rintro σ H12 ⟨s12, hp12, tus12, ds, o7, o8, o9, rfl, hdu12, tds⟩
    rw [tus12.len, List.take_length, ← hpr] at tds
    have hAB : (x1 : Int) * (x2 : Int) = ((x1 * x2 : Nat) : Int) := (Int.natCast_mul _ _).symm
    have ab1 : 1 ≤ x1 * x2 := Nat.mul_pos x11 x21
    have ab2 : x1 * x2 ≤ 20 * 20 := Nat.mul_le_mul x12 x22
    refine ⟨_, rfl, _, rfl, _, _, rfl, rfl, .inl ⟨by omega, by omega⟩, ?_⟩
    dsimp only [gName]
    rw [hAB]
    have eS := edS_edges O ab1 (show x1 * x2 ≤ 400 by omega)
    refine ⟨_, rfl, x1 * x2, rfl, ab1, by omega, fun H13 s13 => ?_⟩
    refine ⟨_, rfl, x1 * x2, rfl, ab1, by omega, fun H14 p4 us4 s14 hp4 tus4 => ?_⟩
    refine ⟨(by show (2 : Nat) ≤ sizeLine; decide), fun l1 hl1 => ?_⟩
    have s15 : Same H14 (upd H14 l1 (.lst [V.int (sumE (edges (x1 * x2)) : Int), V.ref p4])) := Same.upd_new hl1
    have h15 : (upd H14 l1 (.lst [V.int (sumE (edges (x1 * x2)) : Int), V.ref p4])) l1 = some (.lst [V.int (sumE (edges (x1 * x2)) : Int), V.ref p4]) := upd_same
    generalize upd H14 l1 (.lst [V.int (sumE (edges (x1 * x2)) : Int), V.ref p4]) = H15 at s15 h15
    refine ⟨_, rfl, x1, rfl, x11, by omega, fun H16 s16 => ?_⟩
    refine ⟨_, rfl, x2, rfl, x21, by omega, fun H17 s17 => ?_⟩
    have e1 := (edS_edges O x11 (show x1 ≤ 400 by omega)).m1
    have e2 := (edS_edges O x21 (show x2 ≤ 400 by omega)).m1
    refine ⟨_, _, rfl, rfl, .inl ⟨by omega, by omega⟩, ?_⟩
    have s1217 := s13.trans (s14.trans (s15.trans (s16.trans s17)))
    have hdu17 := s1217 _ _ hdu12
    have tds17 := tds.same s1217
    refine ⟨_, rfl, du, ds, rfl, SqL.of hdu17, by rw [tds17.len]; omega, fun x hx => ?_, fun ys ps hperm hpair hps => ?_⟩
    · obtain ⟨_, m2⟩ := tds17.map
      obtain ⟨e, hem, t, rfl, ht⟩ := m2 x hx
      have hem' := pe1.mem_iff.mp hem
      have be := edge_bound hem'
      refine ⟨[(e.1 : Int), (e.2.1 : Int), (e.2.2 : Int)], ⟨t, rfl, SqT.of ht⟩, rfl, fun m hm => ?_⟩
      simp only [List.mem_cons, List.not_mem_nil, or_false] at hm
      rcases hm with rfl | rfl | rfl <;> omega
    have tys : TrisAt H17 ys (edges (x1 * x2)) := sorted_prods PO x11 x12 x21 x22 hg1 tds17 hperm (hpair.imp fun {x y} k e f he hf => by
      obtain ⟨t, rfl, ht⟩ := he
      obtain ⟨t', rfl, ht'⟩ := hf
      exact k _ _ ⟨t, rfl, SqT.of ht⟩ ⟨t', rfl, SqT.of ht'⟩)
    have s18 : Same H17 (upd H17 ps (.lst ys)) := Same.upd_new hps
    have h18 : (upd H17 ps (.lst ys)) ps = some (.lst ys) := upd_same
    generalize upd H17 ps (.lst ys) = H18 at s18 h18
    refine ⟨ps, ys, rfl, .inl ⟨SqL.of h18, fun p9 hp9 => ?_⟩⟩
    have s19 : Same H18 (upd H18 p9 (.tup ys)) := Same.upd_new hp9
    have h19 : (upd H18 p9 (.tup ys)) p9 = some (.tup ys) := upd_same
    generalize upd H18 p9 (.tup ys) = H19 at s19 h19
    have hX : (sumE (edges x1) : Int) * (sumE (edges x2) : Int) = ((sumE (edges (x1 * x2)) : Nat) : Int) := by rw [← pe2]; exact (Int.natCast_mul _ _).symm
    dsimp only [tNil]
    rw [hX]
    refine ⟨(by show (2 : Nat) ≤ sizeLine; decide), fun l2 hl2 => ?_⟩
    have s20 : Same H19 (upd H19 l2 (.lst [V.int (sumE (edges (x1 * x2)) : Int), V.ref p9])) := Same.upd_new hl2
    have h20 : (upd H19 l2 (.lst [V.int (sumE (edges (x1 * x2)) : Int), V.ref p9])) l2 = some (.lst [V.int (sumE (edges (x1 * x2)) : Int), V.ref p9]) := upd_same
    generalize upd H19 l2 (.lst [V.int (sumE (edges (x1 * x2)) : Int), V.ref p9]) = H20 at s20 h20
    have s1520 := s16.trans (s17.trans (s18.trans (s19.trans s20)))
    refine ⟨l1, l2, edD (sumE (edges (x1 * x2))) (edges (x1 * x2)), rfl, dp_ed (s1520 _ _ h15) (s1520 _ _ (s15 _ _ hp4)) (tus4.same (s15.trans s1520)), dp_ed h20 (s20 _ _ h19) (tys.same (s18.trans (s19.trans s20))), rep_ed eS, ?_⟩
    exact q _
end
end Ft

namespace Ft
open PySem L2
def okDiv (n : Nat) : Bool := decide (divP n (Float64.isqrt n) = divL n) && Nat.ble (divL n).length 24
theorem dv_0 : (List.range 50).all (fun i => okDiv (i + 1)) = true := by decide +kernel
theorem ps_0 : (List.range 50).all (fun i => okPsi (i + 1)) = true := by decide +kernel
theorem dv_50 : (List.range 50).all (fun i => okDiv (i + 51)) = true := by decide +kernel
theorem ps_50 : (List.range 50).all (fun i => okPsi (i + 51)) = true := by decide +kernel
theorem dv_100 : (List.range 50).all (fun i => okDiv (i + 101)) = true := by decide +kernel
theorem ps_100 : (List.range 50).all (fun i => okPsi (i + 101)) = true := by decide +kernel
theorem dv_150 : (List.range 50).all (fun i => okDiv (i + 151)) = true := by decide +kernel
theorem ps_150 : (List.range 50).all (fun i => okPsi (i + 151)) = true := by decide +kernel
theorem dv_200 : (List.range 50).all (fun i => okDiv (i + 201)) = true := by decide +kernel
theorem ps_200 : (List.range 50).all (fun i => okPsi (i + 201)) = true := by decide +kernel
theorem dv_250 : (List.range 50).all (fun i => okDiv (i + 251)) = true := by decide +kernel
theorem ps_250 : (List.range 50).all (fun i => okPsi (i + 251)) = true := by decide +kernel
theorem dv_300 : (List.range 50).all (fun i => okDiv (i + 301)) = true := by decide +kernel
theorem ps_300 : (List.range 50).all (fun i => okPsi (i + 301)) = true := by decide +kernel
theorem dv_350 : (List.range 50).all (fun i => okDiv (i + 351)) = true := by decide +kernel
theorem ps_350 : (List.range 50).all (fun i => okPsi (i + 351)) = true := by decide +kernel
theorem ct_0 : (List.range 5).all (fun i => okCount (i + 1)) = true := by decide +kernel
theorem ct_5 : (List.range 5).all (fun i => okCount (i + 6)) = true := by decide +kernel
theorem ct_10 : (List.range 5).all (fun i => okCount (i + 11)) = true := by decide +kernel
theorem ct_15 : (List.range 5).all (fun i => okCount (i + 16)) = true := by decide +kernel
theorem ct_20 : (List.range 5).all (fun i => okCount (i + 21)) = true := by decide +kernel
theorem ct_25 : (List.range 5).all (fun i => okCount (i + 26)) = true := by decide +kernel
theorem pr_1 : (List.range 20).all (fun j => okPair 1 (j + 1)) = true := by decide +kernel
theorem pr_2 : (List.range 20).all (fun j => okPair 2 (j + 1)) = true := by decide +kernel
theorem pr_3 : (List.range 20).all (fun j => okPair 3 (j + 1)) = true := by decide +kernel
theorem pr_4 : (List.range 20).all (fun j => okPair 4 (j + 1)) = true := by decide +kernel
theorem pr_5 : (List.range 20).all (fun j => okPair 5 (j + 1)) = true := by decide +kernel
theorem pr_6 : (List.range 20).all (fun j => okPair 6 (j + 1)) = true := by decide +kernel
theorem pr_7 : (List.range 20).all (fun j => okPair 7 (j + 1)) = true := by decide +kernel
theorem pr_8 : (List.range 20).all (fun j => okPair 8 (j + 1)) = true := by decide +kernel
theorem pr_9 : (List.range 20).all (fun j => okPair 9 (j + 1)) = true := by decide +kernel
theorem pr_10 : (List.range 20).all (fun j => okPair 10 (j + 1)) = true := by decide +kernel
theorem pr_11 : (List.range 20).all (fun j => okPair 11 (j + 1)) = true := by decide +kernel
theorem pr_12 : (List.range 20).all (fun j => okPair 12 (j + 1)) = true := by decide +kernel
theorem pr_13 : (List.range 20).all (fun j => okPair 13 (j + 1)) = true := by decide +kernel
theorem pr_14 : (List.range 20).all (fun j => okPair 14 (j + 1)) = true := by decide +kernel
theorem pr_15 : (List.range 20).all (fun j => okPair 15 (j + 1)) = true := by decide +kernel
theorem pr_16 : (List.range 20).all (fun j => okPair 16 (j + 1)) = true := by decide +kernel
theorem pr_17 : (List.range 20).all (fun j => okPair 17 (j + 1)) = true := by decide +kernel
theorem pr_18 : (List.range 20).all (fun j => okPair 18 (j + 1)) = true := by decide +kernel
theorem pr_19 : (List.range 20).all (fun j => okPair 19 (j + 1)) = true := by decide +kernel
theorem pr_20 : (List.range 20).all (fun j => okPair 20 (j + 1)) = true := by decide +kernel
theorem all_of {f : Nat → Bool} {k m : Nat} (h : (List.range m).all (fun i => f (i + k)) = true) {n : Nat} (h1 : k ≤ n) (h2 : n < k + m) : f n = true := by
  have := List.all_eq_true.mp h (n - k) (List.mem_range.mpr (by omega))
  rwa [show n - k + k = n by omega] at this
theorem dv_all {n : Nat} (h1 : 1 ≤ n) (h2 : n ≤ 400) : okDiv n = true := by
  rcases Nat.lt_or_ge n 51 with h | h
  · exact all_of dv_0 (by omega) (by omega)
  rcases Nat.lt_or_ge n 101 with h | h
  · exact all_of dv_50 (by omega) (by omega)
  rcases Nat.lt_or_ge n 151 with h | h
  · exact all_of dv_100 (by omega) (by omega)
  rcases Nat.lt_or_ge n 201 with h | h
  · exact all_of dv_150 (by omega) (by omega)
  rcases Nat.lt_or_ge n 251 with h | h
  · exact all_of dv_200 (by omega) (by omega)
  rcases Nat.lt_or_ge n 301 with h | h
  · exact all_of dv_250 (by omega) (by omega)
  rcases Nat.lt_or_ge n 351 with h | h
  · exact all_of dv_300 (by omega) (by omega)
  rcases Nat.lt_or_ge n 401 with h | h
  · exact all_of dv_350 (by omega) (by omega)
  omega
theorem ps_all {n : Nat} (h1 : 1 ≤ n) (h2 : n ≤ 400) : okPsi n = true := by
  rcases Nat.lt_or_ge n 51 with h | h
  · exact all_of ps_0 (by omega) (by omega)
  rcases Nat.lt_or_ge n 101 with h | h
  · exact all_of ps_50 (by omega) (by omega)
  rcases Nat.lt_or_ge n 151 with h | h
  · exact all_of ps_100 (by omega) (by omega)
  rcases Nat.lt_or_ge n 201 with h | h
  · exact all_of ps_150 (by omega) (by omega)
  rcases Nat.lt_or_ge n 251 with h | h
  · exact all_of ps_200 (by omega) (by omega)
  rcases Nat.lt_or_ge n 301 with h | h
  · exact all_of ps_250 (by omega) (by omega)
  rcases Nat.lt_or_ge n 351 with h | h
  · exact all_of ps_300 (by omega) (by omega)
  rcases Nat.lt_or_ge n 401 with h | h
  · exact all_of ps_350 (by omega) (by omega)
  omega
theorem ct_all {n : Nat} (h1 : 1 ≤ n) (h2 : n ≤ 30) : okCount n = true := by
  rcases Nat.lt_or_ge n 6 with h | h
  · exact all_of ct_0 (by omega) (by omega)
  rcases Nat.lt_or_ge n 11 with h | h
  · exact all_of ct_5 (by omega) (by omega)
  rcases Nat.lt_or_ge n 16 with h | h
  · exact all_of ct_10 (by omega) (by omega)
  rcases Nat.lt_or_ge n 21 with h | h
  · exact all_of ct_15 (by omega) (by omega)
  rcases Nat.lt_or_ge n 26 with h | h
  · exact all_of ct_20 (by omega) (by omega)
  rcases Nat.lt_or_ge n 31 with h | h
  · exact all_of ct_25 (by omega) (by omega)
  omega
theorem div_ok : DivOk := by
  refine ⟨fun n h1 h2 => ?_, fun n h1 h2 => ?_⟩
  · have h := dv_all h1 h2
    unfold okDiv at h
    rw [Bool.and_eq_true] at h
    exact of_decide_eq_true h.1
  · have h := dv_all h1 h2
    unfold okDiv at h
    rw [Bool.and_eq_true] at h
    exact Nat.le_of_ble_eq_true h.2
theorem num_ok : NumOk := by
  refine ⟨fun n h1 h2 => ?_, fun n h1 h2 => counted_of h1 (ct_all h1 h2)⟩
  have h := ps_all h1 h2
  unfold okPsi at h
  cases e : psiGo 500 n n 2 with
  | none => rw [e] at h; cases h
  | some x =>
    rw [e] at h
    rw [Nat.eq_of_beq_eq_true h]
theorem pr_all {a b : Nat} (a1 : 1 ≤ a) (a2 : a ≤ 20) (b1 : 1 ≤ b) (b2 : b ≤ 20) : okPair a b = true := by
  have go : ∀ k : Nat, (List.range 20).all (fun j => okPair k (j + 1)) = true → okPair k b = true := fun k h => all_of (f := okPair k) (k := 1) h b1 (by omega)
  rcases Nat.lt_or_ge a 2 with h | h
  · obtain rfl : a = 1 := by omega
    exact go _ pr_1
  rcases Nat.lt_or_ge a 3 with h | h
  · obtain rfl : a = 2 := by omega
    exact go _ pr_2
  rcases Nat.lt_or_ge a 4 with h | h
  · obtain rfl : a = 3 := by omega
    exact go _ pr_3
  rcases Nat.lt_or_ge a 5 with h | h
  · obtain rfl : a = 4 := by omega
    exact go _ pr_4
  rcases Nat.lt_or_ge a 6 with h | h
  · obtain rfl : a = 5 := by omega
    exact go _ pr_5
  rcases Nat.lt_or_ge a 7 with h | h
  · obtain rfl : a = 6 := by omega
    exact go _ pr_6
  rcases Nat.lt_or_ge a 8 with h | h
  · obtain rfl : a = 7 := by omega
    exact go _ pr_7
  rcases Nat.lt_or_ge a 9 with h | h
  · obtain rfl : a = 8 := by omega
    exact go _ pr_8
  rcases Nat.lt_or_ge a 10 with h | h
  · obtain rfl : a = 9 := by omega
    exact go _ pr_9
  rcases Nat.lt_or_ge a 11 with h | h
  · obtain rfl : a = 10 := by omega
    exact go _ pr_10
  rcases Nat.lt_or_ge a 12 with h | h
  · obtain rfl : a = 11 := by omega
    exact go _ pr_11
  rcases Nat.lt_or_ge a 13 with h | h
  · obtain rfl : a = 12 := by omega
    exact go _ pr_12
  rcases Nat.lt_or_ge a 14 with h | h
  · obtain rfl : a = 13 := by omega
    exact go _ pr_13
  rcases Nat.lt_or_ge a 15 with h | h
  · obtain rfl : a = 14 := by omega
    exact go _ pr_14
  rcases Nat.lt_or_ge a 16 with h | h
  · obtain rfl : a = 15 := by omega
    exact go _ pr_15
  rcases Nat.lt_or_ge a 17 with h | h
  · obtain rfl : a = 16 := by omega
    exact go _ pr_16
  rcases Nat.lt_or_ge a 18 with h | h
  · obtain rfl : a = 17 := by omega
    exact go _ pr_17
  rcases Nat.lt_or_ge a 19 with h | h
  · obtain rfl : a = 18 := by omega
    exact go _ pr_18
  rcases Nat.lt_or_ge a 20 with h | h
  · obtain rfl : a = 19 := by omega
    exact go _ pr_19
  rcases Nat.lt_or_ge a 21 with h | h
  · obtain rfl : a = 20 := by omega
    exact go _ pr_20
  omega
theorem pair_ok : PairOk := by
  refine ⟨fun a b a1 a2 b1 b2 hg => ?_⟩
  have h := pr_all a1 a2 b1 b2
  unfold okPair at h
  rw [if_pos hg, Bool.and_eq_true, Bool.and_eq_true] at h
  exact ⟨List.isPerm_iff.mp h.1.1, Nat.eq_of_beq_eq_true h.1.2, Nat.le_of_ble_eq_true h.2⟩
end Ft

set_option exponentiation.threshold 9000
namespace Ft
open PySem L2
theorem df_mk {K : PySem.W.Frag} {h : Heap} {mg : Str → Option Value} {x : Str} {st : Stmt} {ps : List Str} {f : Addr} {oc kV doc pm cdv ct : Value} {od an : Option Addr} {osl : Array (Option Value)} (X : K.In h) (G : h.Ns mainGlobals mg)
    (a : PySem.W.nsIn K mainGlobals x = some (some (.ref f))) (l : K.lookup f = some ⟨oc, od, .func (PySem.W.fnOf x x (defArgs st) (defBody st) (defScope st) .none kV doc pm an cdv ct), osl⟩) (c : PySem.W.codeIn K cdv x = true) (k : PySem.W.keepIn K (.ref f) = true)
    (hb : ∀ (kV doc pm : Value) (an : Option Addr) (cdv ct : Value) (us : List Value), us.length = ps.length → bindArgs (PySem.W.fnOf x x (defArgs st) (defBody st) (defScope st) .none kV doc pm an cdv ct) ⟨us, []⟩ = pure (ps.zip us)) : Df K mg x st ps :=
  have F := fun_mk (st := st) l c k
  ⟨f, _, F, PySem.W.mg_of X G a, F.binds hb⟩
theorem b1 {x : Str} {st : Stmt} {p0 : Str} (h : ∀ (kV doc pm : Value) (an : Option Addr) (cdv ct u0 : Value), bindArgs (PySem.W.fnOf x x (defArgs st) (defBody st) (defScope st) .none kV doc pm an cdv ct) ⟨[u0], []⟩ = pure [(p0, u0)]) :
    ∀ (kV doc pm : Value) (an : Option Addr) (cdv ct : Value) (us : List Value), us.length = [p0].length → bindArgs (PySem.W.fnOf x x (defArgs st) (defBody st) (defScope st) .none kV doc pm an cdv ct) ⟨us, []⟩ = pure ([p0].zip us) :=
  fun kV doc pm an cdv ct us hl => match us, hl with | [u0], _ => h kV doc pm an cdv ct u0
theorem b2 {x : Str} {st : Stmt} {p0 p1 : Str} (h : ∀ (kV doc pm : Value) (an : Option Addr) (cdv ct u0 u1 : Value), bindArgs (PySem.W.fnOf x x (defArgs st) (defBody st) (defScope st) .none kV doc pm an cdv ct) ⟨[u0, u1], []⟩ = pure [(p0, u0), (p1, u1)]) :
    ∀ (kV doc pm : Value) (an : Option Addr) (cdv ct : Value) (us : List Value), us.length = [p0, p1].length → bindArgs (PySem.W.fnOf x x (defArgs st) (defBody st) (defScope st) .none kV doc pm an cdv ct) ⟨us, []⟩ = pure ([p0, p1].zip us) :=
  fun kV doc pm an cdv ct us hl => match us, hl with | [u0, u1], _ => h kV doc pm an cdv ct u0 u1
theorem b3 {x : Str} {st : Stmt} {p0 p1 p2 : Str} (h : ∀ (kV doc pm : Value) (an : Option Addr) (cdv ct u0 u1 u2 : Value), bindArgs (PySem.W.fnOf x x (defArgs st) (defBody st) (defScope st) .none kV doc pm an cdv ct) ⟨[u0, u1, u2], []⟩ = pure [(p0, u0), (p1, u1), (p2, u2)]) :
    ∀ (kV doc pm : Value) (an : Option Addr) (cdv ct : Value) (us : List Value), us.length = [p0, p1, p2].length → bindArgs (PySem.W.fnOf x x (defArgs st) (defBody st) (defScope st) .none kV doc pm an cdv ct) ⟨us, []⟩ = pure ([p0, p1, p2].zip us) :=
  fun kV doc pm an cdv ct us hl => match us, hl with | [u0, u1, u2], _ => h kV doc pm an cdv ct u0 u1 u2
/-- the defs of the text, as the top has left them -/
structure Dfs (K : PySem.W.Frag) (mg : Str → Option Value) : Prop where
  is_integer : Df K mg "is_integer" s_is_integer ["thing"]
  is_from : Df K mg "is_from" s_is_from ["thing", "least"]
  is_between : Df K mg "is_between" s_is_between ["thing", "least", "most"]
  check_from : Df K mg "check_from" s_check_from ["thing", "least"]
  check_level : Df K mg "check_level" s_check_level ["level"]
  divisors : Df K mg "divisors" s_divisors ["n"]
  index_of : Df K mg "index_of" s_index_of ["level"]
  edges_of : Df K mg "edges_of" s_edges_of ["level"]
  how_many_edges : Df K mg "how_many_edges" s_how_many_edges ["level", "c"]
  ldeck : Df K mg "_law_deck" s__law_deck ["_law_script"]
  ldraw : Df K mg "_law_draw" s__law_draw ["_law_deck_here", "_law_many"]
  lpick : Df K mg "_law_pick" s__law_pick ["_law_deck_here", "_law_some"]
  lsame : Df K mg "_law_same" s__law_same ["_law_told", "_law_due"]
  ldivisor : Df K mg "_law_divisor" s__law_divisor ["_law_one", "_law_other"]
  ldivisors : Df K mg "_law_divisors" s__law_divisors ["_law_n"]
  ledges : Df K mg "_law_edges" s__law_edges ["_law_level"]
  lpoints : Df K mg "_law_points" s__law_points ["_law_level"]
  lrounds : Df K mg "_law_rounds" s__law_rounds ["_law_level", "_law_points_here"]
  lis_counted_right : Df K mg "_law_is_counted_right" s__law_is_counted_right ["_law_level"]
  lis_told_right : Df K mg "_law_is_told_right" s__law_is_told_right ["_law_level"]
  law : Df K mg "law" s_law ["_law_script"]
theorem law_all {P : Program} {w : World} {K : PySem.W.Frag} {mg : Str → Option Value} {base : Heap} {f : Addr} {fd : FuncData}  (D : Dfs K mg) (B : Bi mg) (F : Fun K "law" "law" s_law f fd) : FnG P w K mg base 8 f fd ["_law_script"] (sp_law K) := by
  have c_int : Cal P w K mg base _ "is_integer" _ := ok_is_integer D.is_integer B
  have c_from : Cal P w K mg base _ "is_from" _ := ok_is_from D.is_from c_int
  have c_btw : Cal P w K mg base _ "is_between" _ := ok_is_between D.is_between c_int
  have c_cf : Cal P w K mg base _ "check_from" _ := ok_check_from D.check_from c_from
  have c_cl : Cal P w K mg base _ "check_level" _ := ok_check_level D.check_level c_btw
  have c_div : Cal P w K mg base _ "divisors" _ := ok_divisors D.divisors B c_cf
  have c_many : Cal P w K mg base _ "how_many_edges" _ := ok_many D.how_many_edges B
  have c_ed : Cal P w K mg base 5 "edges_of" sp_edges := by
    obtain ⟨f, fd, F, m, b⟩ := D.edges_of.ex
    exact ⟨f, fd, _, fn_edges F div_ok B c_cl c_div c_many, m, F.kp, b⟩
  have k_ed : CalK P w K mg base 5 "edges_of" ["level"] oneV sp_edges := by
    obtain ⟨f, fd, F, m, b⟩ := D.edges_of.ex
    exact ⟨f, fd, _, _, fn_edges F div_ok B c_cl c_div c_many, m, F.kp, kb_edges F⟩
  have c_ix : Cal P w K mg base 6 "index_of" sp_index := by
    obtain ⟨f, fd, F, m, b⟩ := D.index_of.ex
    exact ⟨f, fd, _, fn_index F div_ok B c_ed, m, F.kp, b⟩
  have k_ix : CalK P w K mg base 6 "index_of" ["level"] oneV sp_index := by
    obtain ⟨f, fd, F, m, b⟩ := D.index_of.ex
    exact ⟨f, fd, _, _, fn_index F div_ok B c_ed, m, F.kp, kb_index F⟩
  have c_draw : Cal P w K mg base _ "_law_draw" _ := ok_draw D.ldraw B
  have c_pick : Cal P w K mg base _ "_law_pick" _ := ok_pick D.lpick B c_draw
  have c_deck : Cal P w K mg base _ "_law_deck" _ := ok_deck D.ldeck B
  have c_same : CalG P w K mg base 1 "_law_same" (sp_same K) := by
    obtain ⟨f, fd, F, m, b⟩ := D.lsame.ex
    exact ⟨f, fd, _, fn_same F B, m, F.kp, b⟩
  have c_gcd : Cal P w K mg base _ "_law_divisor" _ := ok_gcd D.ldivisor B
  have c_ldiv : Cal P w K mg base _ "_law_divisors" _ := ok_ldiv D.ldivisors B
  have c_led : Cal P w K mg base _ "_law_edges" _ := ok_ledges D.ledges div_ok B c_ldiv c_gcd
  have c_pts : Cal P w K mg base _ "_law_points" _ := ok_points D.lpoints B c_gcd
  have c_rds : Cal P w K mg base _ "_law_rounds" _ := ok_rounds D.lrounds B c_gcd
  have c_cnt : CalG P w K mg base 7 "_law_is_counted_right" sp_counted := by
    obtain ⟨f, fd, F, m, b⟩ := D.lis_counted_right.ex
    exact ⟨f, fd, _, fn_counted F div_ok num_ok B c_pts c_rds c_ldiv c_same k_ed c_ix, m, F.kp, b⟩
  have c_told : CalG P w K mg base 7 "_law_is_told_right" sp_told := by
    obtain ⟨f, fd, F, m, b⟩ := D.lis_told_right.ex
    exact ⟨f, fd, _, fn_told F div_ok num_ok B c_led c_same c_ed c_ix k_ix, m, F.kp, b⟩
  exact fn_law F div_ok pair_ok B c_deck c_draw c_cnt c_pick c_told c_gcd c_ed c_same c_ix
theorem walk {l : PySem.W.OpenLaw} {q : Program} {loose : List Str} {XP : (Str → Option Value) → Heap → Prop} {YP : World → Heap → Prop} {d : DefRec} {K : Params → PySem.W.Frag} (hn : l.most = some 63) (hdf : d.params.defaults = [])
    (hY : ∀ (w : World) (h : Heap), YP w h → (K w.params).In h)
    (F : ∀ (w : World) (mg : Str → Option Value) (fa : Addr) (h : Heap), (K w.params).In h → h.Ns mainGlobals mg → mg d.name = some (.ref fa) →
      ∃ fd : FuncData, (∀ (s : Shared) (u : Value), BindsTo s fd ⟨[u], []⟩ [("_law_script", u)]) ∧ ∀ base : Heap, (K w.params).In base → base.Ns mainGlobals mg → FnG l.prog w (K w.params) mg base 8 fa fd ["_law_script"] (sp_law (K w.params))) :
    PySem.W.WalkO q loose XP YP l.row.toRowW d [] (fun f vs => PySem.call f vs) :=
  walk_g (n := 63) (k := 8) (x := "_law_script") (sp := sp_law) hn (by decide) hdf ⟨rfl, by decide, by decide⟩ hY F (fun _ _ a ns hl hS => ⟨a, ns, rfl, hS, hl, fun _ => rfl⟩)
theorem law_at {l : PySem.W.OpenLaw} {w : World} {K : PySem.W.Frag} {mg : Str → Option Value} {h : Heap} {fa f : Addr} {oc kV doc pm cdv ct : Value} {od an : Option Addr} {osl : Array (Option Value)}  (X : K.In h) (G : h.Ns mainGlobals mg) (hfa : mg "law" = some (.ref fa))
    (a : PySem.W.nsIn K mainGlobals "law" = some (some (.ref f))) (lk : K.lookup f = some ⟨oc, od, .func (PySem.W.fnOf "law" "law" (defArgs s_law) (defBody s_law) (defScope s_law) .none kV doc pm an cdv ct), osl⟩) (c : PySem.W.codeIn K cdv "law" = true) (k : PySem.W.keepIn K (.ref f) = true)
    (D : Dfs K mg) (B : Bi mg) :
    ∃ fd : FuncData, (∀ (s : Shared) (u : Value), BindsTo s fd ⟨[u], []⟩ [("_law_script", u)]) ∧ ∀ base : Heap, K.In base → base.Ns mainGlobals mg → FnG l.prog w K mg base 8 fa fd ["_law_script"] (sp_law K) := by
  have e := hfa.symm.trans (PySem.W.mg_of X G a)
  cases e
  exact ⟨_, fun s u => .of_eq rfl, fun base _ _ => law_all  D B (fun_mk (st := s_law) lk c k)⟩
end Ft

open PySem PySem.W PyProof.Rows in
set_option maxRecDepth 100000 in
set_option maxHeartbeats 0 in
theorem PySem.Challenge.cw_firstterms_k26_whole_edges_and_widths_holds : PySem.Challenge.rw_firstterms_k26_whole_edges_and_widths.Holds := by
  w_on; o_law; k_head; (case hw => w_witness2)
  k_fill
  refine Ft.walk (l := PySem.Challenge.rw_firstterms_k26_whole_edges_and_widths) rfl rfl (fun w h Y => PySem.W.kIn_of Y) ?F
  case F =>
    intro w mg fa h KX G hmg
    refine' Ft.law_at  KX G hmg ?a ?lk ?c ?k ?D ?B
    (case a => k_is); (case lk => k_is); (case c => k_is); (case k => k_is)
    case D =>
      refine ⟨?d0, ?d1, ?d2, ?d3, ?d4, ?d5, ?d6, ?d7, ?d8, ?d9, ?d10, ?d11, ?d12, ?d13, ?d14, ?d15, ?d16, ?d17, ?d18, ?d19, ?d20⟩
      (case d0 => refine' Ft.df_mk KX G ?a0 ?l0 ?c0 ?k0 (Ft.b1 fun _ _ _ _ _ _ _ => rfl); (case a0 => k_is); (case l0 => k_is); (case c0 => k_is); (case k0 => k_is))
      (case d1 => refine' Ft.df_mk KX G ?a1 ?l1 ?c1 ?k1 (Ft.b2 fun _ _ _ _ _ _ _ _ => rfl); (case a1 => k_is); (case l1 => k_is); (case c1 => k_is); (case k1 => k_is))
      (case d2 => refine' Ft.df_mk KX G ?a2 ?l2 ?c2 ?k2 (Ft.b3 fun _ _ _ _ _ _ _ _ _ => rfl); (case a2 => k_is); (case l2 => k_is); (case c2 => k_is); (case k2 => k_is))
      (case d3 => refine' Ft.df_mk KX G ?a3 ?l3 ?c3 ?k3 (Ft.b2 fun _ _ _ _ _ _ _ _ => rfl); (case a3 => k_is); (case l3 => k_is); (case c3 => k_is); (case k3 => k_is))
      (case d4 => refine' Ft.df_mk KX G ?a4 ?l4 ?c4 ?k4 (Ft.b1 fun _ _ _ _ _ _ _ => rfl); (case a4 => k_is); (case l4 => k_is); (case c4 => k_is); (case k4 => k_is))
      (case d5 => refine' Ft.df_mk KX G ?a5 ?l5 ?c5 ?k5 (Ft.b1 fun _ _ _ _ _ _ _ => rfl); (case a5 => k_is); (case l5 => k_is); (case c5 => k_is); (case k5 => k_is))
      (case d6 => refine' Ft.df_mk KX G ?a6 ?l6 ?c6 ?k6 (Ft.b1 fun _ _ _ _ _ _ _ => rfl); (case a6 => k_is); (case l6 => k_is); (case c6 => k_is); (case k6 => k_is))
      (case d7 => refine' Ft.df_mk KX G ?a7 ?l7 ?c7 ?k7 (Ft.b1 fun _ _ _ _ _ _ _ => rfl); (case a7 => k_is); (case l7 => k_is); (case c7 => k_is); (case k7 => k_is))
      (case d8 => refine' Ft.df_mk KX G ?a8 ?l8 ?c8 ?k8 (Ft.b2 fun _ _ _ _ _ _ _ _ => rfl); (case a8 => k_is); (case l8 => k_is); (case c8 => k_is); (case k8 => k_is))
      (case d9 => refine' Ft.df_mk KX G ?a9 ?l9 ?c9 ?k9 (Ft.b1 fun _ _ _ _ _ _ _ => rfl); (case a9 => k_is); (case l9 => k_is); (case c9 => k_is); (case k9 => k_is))
      (case d10 => refine' Ft.df_mk KX G ?a10 ?l10 ?c10 ?k10 (Ft.b2 fun _ _ _ _ _ _ _ _ => rfl); (case a10 => k_is); (case l10 => k_is); (case c10 => k_is); (case k10 => k_is))
      (case d11 => refine' Ft.df_mk KX G ?a11 ?l11 ?c11 ?k11 (Ft.b2 fun _ _ _ _ _ _ _ _ => rfl); (case a11 => k_is); (case l11 => k_is); (case c11 => k_is); (case k11 => k_is))
      (case d12 => refine' Ft.df_mk KX G ?a12 ?l12 ?c12 ?k12 (Ft.b2 fun _ _ _ _ _ _ _ _ => rfl); (case a12 => k_is); (case l12 => k_is); (case c12 => k_is); (case k12 => k_is))
      (case d13 => refine' Ft.df_mk KX G ?a13 ?l13 ?c13 ?k13 (Ft.b2 fun _ _ _ _ _ _ _ _ => rfl); (case a13 => k_is); (case l13 => k_is); (case c13 => k_is); (case k13 => k_is))
      (case d14 => refine' Ft.df_mk KX G ?a14 ?l14 ?c14 ?k14 (Ft.b1 fun _ _ _ _ _ _ _ => rfl); (case a14 => k_is); (case l14 => k_is); (case c14 => k_is); (case k14 => k_is))
      (case d15 => refine' Ft.df_mk KX G ?a15 ?l15 ?c15 ?k15 (Ft.b1 fun _ _ _ _ _ _ _ => rfl); (case a15 => k_is); (case l15 => k_is); (case c15 => k_is); (case k15 => k_is))
      (case d16 => refine' Ft.df_mk KX G ?a16 ?l16 ?c16 ?k16 (Ft.b1 fun _ _ _ _ _ _ _ => rfl); (case a16 => k_is); (case l16 => k_is); (case c16 => k_is); (case k16 => k_is))
      (case d17 => refine' Ft.df_mk KX G ?a17 ?l17 ?c17 ?k17 (Ft.b2 fun _ _ _ _ _ _ _ _ => rfl); (case a17 => k_is); (case l17 => k_is); (case c17 => k_is); (case k17 => k_is))
      (case d18 => refine' Ft.df_mk KX G ?a18 ?l18 ?c18 ?k18 (Ft.b1 fun _ _ _ _ _ _ _ => rfl); (case a18 => k_is); (case l18 => k_is); (case c18 => k_is); (case k18 => k_is))
      (case d19 => refine' Ft.df_mk KX G ?a19 ?l19 ?c19 ?k19 (Ft.b1 fun _ _ _ _ _ _ _ => rfl); (case a19 => k_is); (case l19 => k_is); (case c19 => k_is); (case k19 => k_is))
      (case d20 => refine' Ft.df_mk KX G ?a20 ?l20 ?c20 ?k20 (Ft.b1 fun _ _ _ _ _ _ _ => rfl); (case a20 => k_is); (case l20 => k_is); (case c20 => k_is); (case k20 => k_is))
    case B =>
      refine' ⟨PySem.W.mg_none_of KX G ?z0, PySem.W.mg_none_of KX G ?z1, PySem.W.mg_of KX G ?z2, PySem.W.mg_none_of KX G ?z3, PySem.W.mg_none_of KX G ?z4, PySem.W.mg_none_of KX G ?z5, PySem.W.mg_of KX G ?z6, PySem.W.mg_none_of KX G ?z7, PySem.W.mg_none_of KX G ?z8, PySem.W.mg_none_of KX G ?z9, PySem.W.mg_none_of KX G ?z10, PySem.W.mg_none_of KX G ?z11, PySem.W.mg_none_of KX G ?z12, PySem.W.mg_none_of KX G ?z13, PySem.W.mg_none_of KX G ?z14, PySem.W.mg_none_of KX G ?z15, PySem.W.mg_none_of KX G ?z16, PySem.W.mg_none_of KX G ?z17, PySem.W.mg_none_of KX G ?z18, PySem.W.mg_none_of KX G ?z19⟩
      (case z0 => k_is)
      (case z1 => k_is)
      (case z2 => k_is)
      (case z3 => k_is)
      (case z4 => k_is)
      (case z5 => k_is)
      (case z6 => k_is)
      (case z7 => k_is)
      (case z8 => k_is)
      (case z9 => k_is)
      (case z10 => k_is)
      (case z11 => k_is)
      (case z12 => k_is)
      (case z13 => k_is)
      (case z14 => k_is)
      (case z15 => k_is)
      (case z16 => k_is)
      (case z17 => k_is)
      (case z18 => k_is)
      (case z19 => k_is)

