import PyProof.Rows.All
import Wide.All
import OpenK.AllK
import Wide.FinOn
import HandS.ForMost
import HandS.Flow
import HandS.Wide
import HandS.Gcd
import HandS.IsInst
import HandS.Zip
import HandS.Ends
import HandS.Walk
import HandS.Style
import Flt.RightSqrt
import PySem.Challenge.RW_firstterms_k04_whole_values_of_signs_go
set_option Elab.async false
set_option maxRecDepth 100000
namespace Ft
open PySem L2

/-! ### general: what a def may be called for -/
structure Cal (P : Program) (w : World) (K : PySem.W.Frag) (mg : Str → Option Value) (base : Heap) (k : Nat) (x : Str) (sp : Sp) : Prop where
  ex : ∃ (f : Addr) (fd : FuncData) (ps : List Str), FnOk P w K mg base CX0 k f fd ps sp ∧ mg x = some (.ref f) ∧ PySem.W.keepIn K (.ref f) = true ∧ Binds K fd ps []
/-- a def of the top: its text stands, its name leads to it, its arguments bind -/
structure Df (K : PySem.W.Frag) (mg : Str → Option Value) (x : Str) (st : Stmt) (ps : List Str) : Prop where
  ex : ∃ (f : Addr) (fd : FuncData), Fun K x x st f fd ∧ mg x = some (.ref f) ∧ Binds K fd ps []
section
variable {X : Cx} {k j : Nat} {x : Str} {sp : Sp} {p pos : Pos} {e : Expr} {es : List Expr} {t : TA}
theorem pe_c (c : Cal X.prog X.w X.K X.mg X.base k x sp) (hr : Room j X.A) (hk : k ≤ j) (hg : Gl X x) (ha : PA X (e :: es) t)
    (hdb : (x == ("__debug__" : Str)) = false := by decide) (he : starEach (e :: es) X.env = (false, eval e X.env) :: starEach es X.env := by rfl) (hpl : (backTo pos (starEach es X.env)).any (·.1) = false := by rfl) :
    PE X (.Call (.Name x p) (e :: es) [] pos) (tCall sp [] E0 t) := by
  obtain ⟨f, fd, ps, F, hm, kp, b⟩ := c.ex
  exact pe_call F (hr.mono hk) hg hm kp b .nil pass0 ha hdb he hpl
end
/-- what may be called for by keywords alone, in this order -/
structure CalK (P : Program) (w : World) (K : PySem.W.Frag) (mg : Str → Option Value) (base : Heap) (k : Nat) (x : Str) (ks : List Str) (gV : List V → List V → List V) (sp : Sp) : Prop where
  ex : ∃ (f : Addr) (fd : FuncData) (ps : List Str) (g : List Value → List Value → List Value), FnOk P w K mg base CX0 k f fd ps sp ∧ mg x = some (.ref f) ∧ PySem.W.keepIn K (.ref f) = true ∧ KBinds K fd ps ks g gV
section
variable {X : Cx} {k j : Nat} {x : Str} {ks : List Str} {gV : List V → List V → List V} {sp : Sp} {p pos : Pos} {kws : List Keyword} {tk : TA}
theorem pe_k0 (c : CalK X.prog X.w X.K X.mg X.base k x ks gV sp) (hr : Room j X.A) (hk : k ≤ j) (hg : Gl X x) (hkw : PK X kws tk)
    (hall : (backToKw pos (keywordEach kws X.env)).all (·.1.isSome) = true := by rfl) (hks : (backToKw pos (keywordEach kws X.env)).filterMap (·.1) = ks := by rfl) (hdb : (x == ("__debug__" : Str)) = false := by decide)
    (hpl : ((backTo pos (starEach [] X.env)).any (·.1) || (backToKw pos (keywordEach kws X.env)).any (·.1.isNone)) = false := by rfl) :
    PE X (.Call (.Name x p) [] kws pos) (tCallK sp gV E0 tNil tk) := by
  obtain ⟨f, fd, ps, g, F, hm, kp, b⟩ := c.ex
  refine ⟨fun pins s σ H Q I h => wpAny_Call_Name_kw (ld_glob I hg hm ?_ hdb)⟩
  refine PySem.W.callWith_KW0 (h₀ := X.base) I.ok.mod.kin kp hall (thn (hkw.run pos pins s σ H _ I h) fun ws s2 ⟨zs, H2, I2, rz, q2⟩ => ⟨I2.kIn, ?_⟩) hpl
  rw [hks]
  exact run_fnk F (hr.mono hk) b pass0 I2 .nil rz q2
end
section
variable {X : Cx}
theorem pe_ty {x : Str} {n : String} {pos : Pos} (hg : Gl X x) (hm : X.mg x = none) (hv : bootBuiltins x = some (.type n)) (hn : x ≠ "__name__" := by decide) (hd : (x == ("__debug__" : Str)) = false := by decide) : PE X (.Name x pos) (tC (.ty n)) := pe_bltn hg hm hv rfl hn hd
end
theorem kit_int_int {K : PySem.W.Frag} : PySem.W.kitOne K (.type "int") (.type "int") = some true := kit_ty (by decide +kernel)
theorem kit_int_bool {K : PySem.W.Frag} : PySem.W.kitOne K (.type "int") (.type "bool") = some false := kit_ty (by decide +kernel)
theorem ifD {c A B : Prop} [Decidable c] (h1 : c → A) (h2 : ¬ c → B) : if decide c = true then A else B := by
  by_cases h : c
  · rw [decide_eq_true h]; exact iteT (h1 h)
  · rw [decide_eq_false h]; exact iteF (h2 h)
theorem ifI {i j : Int} {A B : Prop} (h1 : i = j → A) (h2 : i ≠ j → B) : if decide (V.int i = V.int j) = true then A else B :=
  ifD (fun h => h1 (V.int.inj h)) fun h => h2 fun e => h (congrArg V.int e)
theorem ifN {c A B : Prop} [Decidable c] (h1 : ¬ c → A) (h2 : c → B) : if (!decide c) = true then A else B := by
  by_cases h : c
  · rw [decide_eq_true h]; exact iteF (h2 h)
  · rw [decide_eq_false h]; exact iteT (h1 h)
theorem ifNI {i j : Int} {A B : Prop} (h1 : i ≠ j → A) (h2 : i = j → B) : if (!decide (V.int i = V.int j)) = true then A else B :=
  ifN (fun h => h1 fun e => h (congrArg V.int e)) fun h => h2 (V.int.inj h)
/-- what follows, said once for all ways that lead there -/
theorem tSeq_join {a b : TS} {D : Ends} {σ : L2.St} {H : Hp} (J : L2.St → Hp → Prop) (h1 : ∀ N : L2.St → Hp → Prop, (∀ σ H, J σ H → N σ H) → a { D with nx := N } σ H) (h2 : ∀ σ H, J σ H → b D σ H) : tSeq a b D σ H := h1 (b D) h2
/-- while, by an invariant and a measure -/
theorem while_go {c : TT} {tb : TS} {D : Ends} {σ : L2.St} {H : Hp} (Pv : L2.St → Hp → Prop) (μ : L2.St → Hp → Nat) (h0 : Pv σ H)
    (hs : ∀ σ H, Pv σ H → c σ H fun b H1 => if b = true then ∃ N : L2.St → Hp → Prop, (∀ σ' H', N σ' H' → ∃ m', m' < μ σ H ∧ m' = μ σ' H' ∧ Pv σ' H') ∧ tb { D with nx := N, ct := N, bk := D.nx } σ H1 else D.nx σ H1) :
    tWhile c tb D σ H := by
  refine ⟨fun m σ H => m = μ σ H ∧ Pv σ H, ⟨_, rfl, h0⟩, ?_⟩
  rintro m σ H ⟨rfl, p⟩
  exact hs σ H p
/-- math.isqrt below 2 ^ 64 -/
def rIsqrt : List V → Hp → VK → Prop := fun vs H Q => ∃ a : Int, vs = [.int a] ∧ 0 ≤ a ∧ a < 2 ^ 64 ∧ Q (.int ((Float64.isqrt a.toNat : Nat) : Int)) H
theorem cr_isqrt {X : Cx} : CallR X (.builtin "math.isqrt") rIsqrt := by
  intro pins s σ H vs us Q I r h
  obtain ⟨a, rfl, h0, h1, q⟩ := h
  obtain ⟨u, rfl, t, rfl⟩ := vals1 r
  exact PySem.W.mg_isqrt h0 h1 ⟨.int _, H, I.tok _, ⟨_, rfl⟩, q⟩
/-- the built-ins of the text -/
structure Bi (mg : Str → Option Value) : Prop where
  abs : mg "abs" = none
  bool : mg "bool" = none
  enumerate : mg "enumerate" = none
  int : mg "int" = none
  int_ : mg "int" = none
  isinstance : mg "isinstance" = none
  isqrt : mg "isqrt" = some (.builtin "math.isqrt")
  len : mg "len" = none
  len_ : mg "len" = none
  list : mg "list" = none
  max_ : mg "max" = none
  range : mg "range" = none
  repr : mg "repr" = none
  sum : mg "sum" = none
end Ft

namespace Ft
open PySem L2
def top (i : Nat) : Stmt := PySem.Challenge.pw_firstterms_k04_whole_values_of_signs_go.main.body.getD i (.Pass ⟨0, 0, 0, 0⟩)
abbrev s_is_integer : Stmt := top 6
abbrev N_is_integer : List Str := ["thing"]
theorem sc_is_integer : FnScope N_is_integer ["thing"] (defScope s_is_integer) := ⟨rfl, rfl, rfl, by decide +kernel, rfl, by decide +kernel, by decide +kernel⟩
abbrev s_is_between : Stmt := top 7
abbrev N_is_between : List Str := ["thing", "least", "most"]
theorem sc_is_between : FnScope N_is_between ["thing", "least", "most"] (defScope s_is_between) := ⟨rfl, rfl, rfl, by decide +kernel, rfl, by decide +kernel, by decide +kernel⟩
abbrev s_check_integer : Stmt := top 8
abbrev N_check_integer : List Str := ["thing"]
theorem sc_check_integer : FnScope N_check_integer ["thing"] (defScope s_check_integer) := ⟨rfl, rfl, rfl, by decide +kernel, rfl, by decide +kernel, by decide +kernel⟩
abbrev s_is_sign : Stmt := top 10
abbrev N_is_sign : List Str := ["thing"]
theorem sc_is_sign : FnScope N_is_sign ["thing"] (defScope s_is_sign) := ⟨rfl, rfl, rfl, by decide +kernel, rfl, by decide +kernel, by decide +kernel⟩
abbrev s_check_sign : Stmt := top 11
abbrev N_check_sign : List Str := ["sign"]
theorem sc_check_sign : FnScope N_check_sign ["sign"] (defScope s_check_sign) := ⟨rfl, rfl, rfl, by decide +kernel, rfl, by decide +kernel, by decide +kernel⟩
abbrev s_sign_at : Stmt := top 12
abbrev N_sign_at : List Str := ["sign", "n"]
theorem sc_sign_at : FnScope N_sign_at ["sign", "n"] (defScope s_sign_at) := ⟨rfl, rfl, rfl, by decide +kernel, rfl, by decide +kernel, by decide +kernel⟩
abbrev s_value_at : Stmt := top 13
abbrev N_value_at : List Str := ["sign", "n", "rest", "value"]
theorem sc_value_at : FnScope N_value_at ["sign", "n"] (defScope s_value_at) := ⟨rfl, rfl, rfl, by decide +kernel, rfl, by decide +kernel, by decide +kernel⟩
abbrev s_value_at_two : Stmt := top 14
abbrev N_value_at_two : List Str := ["sign"]
theorem sc_value_at_two : FnScope N_value_at_two ["sign"] (defScope s_value_at_two) := ⟨rfl, rfl, rfl, by decide +kernel, rfl, by decide +kernel, by decide +kernel⟩
abbrev s_value_at_odd : Stmt := top 15
abbrev N_value_at_odd : List Str := ["top", "bottom", "value"]
theorem sc_value_at_odd : FnScope N_value_at_odd ["top", "bottom"] (defScope s_value_at_odd) := ⟨rfl, rfl, rfl, by decide +kernel, rfl, by decide +kernel, by decide +kernel⟩
abbrev s_any_sign_of : Stmt := top 16
abbrev N_any_sign_of : List Str := ["m", "bare"]
theorem sc_any_sign_of : FnScope N_any_sign_of ["m"] (defScope s_any_sign_of) := ⟨rfl, rfl, rfl, by decide +kernel, rfl, by decide +kernel, by decide +kernel⟩
abbrev s_without_squares : Stmt := top 17
abbrev N_without_squares : List Str := ["m", "rest", "bare", "p", "root"]
theorem sc_without_squares : FnScope N_without_squares ["m"] (defScope s_without_squares) := ⟨rfl, rfl, rfl, by decide +kernel, rfl, by decide +kernel, by decide +kernel⟩
abbrev s_joined_sign : Stmt := top 18
abbrev N_joined_sign : List Str := ["one", "other"]
theorem sc_joined_sign : FnScope N_joined_sign ["one", "other"] (defScope s_joined_sign) := ⟨rfl, rfl, rfl, by decide +kernel, rfl, by decide +kernel, by decide +kernel⟩
abbrev s__law_deck : Stmt := top 20
abbrev N__law_deck : List Str := ["_law_script", "_law_mixed", "_law_cell"]
theorem sc__law_deck : FnScope N__law_deck ["_law_script"] (defScope s__law_deck) := ⟨rfl, rfl, rfl, by decide +kernel, rfl, by decide +kernel, by decide +kernel⟩
abbrev s__law_draw : Stmt := top 21
abbrev N__law_draw : List Str := ["_law_deck_here", "_law_many", "_law_number_here", "_law_cell"]
theorem sc__law_draw : FnScope N__law_draw ["_law_deck_here", "_law_many"] (defScope s__law_draw) := ⟨rfl, rfl, rfl, by decide +kernel, rfl, by decide +kernel, by decide +kernel⟩
abbrev s__law_pick : Stmt := top 22
abbrev N__law_pick : List Str := ["_law_deck_here", "_law_some"]
theorem sc__law_pick : FnScope N__law_pick ["_law_deck_here", "_law_some"] (defScope s__law_pick) := ⟨rfl, rfl, rfl, by decide +kernel, rfl, by decide +kernel, by decide +kernel⟩
abbrev s__law_sign : Stmt := top 23
abbrev N__law_sign : List Str := ["_law_deck_here", "_law_number_here", "_law_step"]
theorem sc__law_sign : FnScope N__law_sign ["_law_deck_here"] (defScope s__law_sign) := ⟨rfl, rfl, rfl, by decide +kernel, rfl, by decide +kernel, by decide +kernel⟩
abbrev s__law_is_sign : Stmt := top 24
abbrev N__law_is_sign : List Str := ["_law_number_here", "_law_m", "_law_k"]
theorem sc__law_is_sign : FnScope N__law_is_sign ["_law_number_here"] (defScope s__law_is_sign) := ⟨rfl, rfl, rfl, by decide +kernel, rfl, by decide +kernel, by decide +kernel⟩
abbrev s__law_number : Stmt := top 25
abbrev N__law_number : List Str := ["_law_deck_here", "_law_number_here", "_law_way", "_law_turn"]
theorem sc__law_number : FnScope N__law_number ["_law_deck_here"] (defScope s__law_number) := ⟨rfl, rfl, rfl, by decide +kernel, rfl, by decide +kernel, by decide +kernel⟩
abbrev s__law_common : Stmt := top 26
abbrev N__law_common : List Str := ["_law_one", "_law_other"]
theorem sc__law_common : FnScope N__law_common ["_law_one", "_law_other"] (defScope s__law_common) := ⟨rfl, rfl, rfl, by decide +kernel, rfl, by decide +kernel, by decide +kernel⟩
abbrev s__law_is_value : Stmt := top 27
abbrev N__law_is_value : List Str := ["_law_sign_here", "_law_n", "_law_told"]
theorem sc__law_is_value : FnScope N__law_is_value ["_law_sign_here", "_law_n", "_law_told"] (defScope s__law_is_value) := ⟨rfl, rfl, rfl, by decide +kernel, rfl, by decide +kernel, by decide +kernel⟩
abbrev s__law_is_period : Stmt := top 28
abbrev N__law_is_period : List Str := ["_law_sign_here", "_law_size", "_law_n", "_law_values", "_law_value", "_law_turned"]
theorem sc__law_is_period : FnScope N__law_is_period ["_law_sign_here"] (defScope s__law_is_period) := ⟨rfl, rfl, rfl, by decide +kernel, rfl, by decide +kernel, by decide +kernel⟩
abbrev s_law : Stmt := top 29
abbrev N_law : List Str := ["_law_script", "_law_deck_here", "_law_one", "_law_other", "_law_turn", "_law_m", "_law_n", "_law_sign_here", "_law_told", "_law_joined", "_law_due"]
theorem sc_law : FnScope N_law ["_law_script"] (defScope s_law) := ⟨rfl, rfl, rfl, by decide +kernel, rfl, by decide +kernel, by decide +kernel⟩
end Ft

/-! Defs that are called where no repr is under way (A.guards = some []): their texts may say repr of a list or a tuple. -/
namespace Ft
open PySem L2 PySem.Spec PyProof.Rows

structure FnG (P : Program) (w : World) (K : PySem.W.Frag) (mg : Str → Option Value) (base : Heap) (k : Nat) (f : Addr) (fd : FuncData) (ps : List Str) (sp : Sp) : Prop where
  len : ∀ vs H Q E, sp vs H Q E → vs.length = ps.length
  go : ∀ (A : Around) (outer : List Env) (s : Shared) (H : Hp) (args : Args) (us : List Value) (vs : List V) (Q : VK) (E : XK), A.guards = some [] → Room k A →
    Env0 P w K mg base A outer s H → BindsTo s fd args (ps.zip us) → Vals vs us → sp vs H Q E → codeAny (model P w) A (.call (.ref f) args) (CR CX0 outer P w H s Q E) s
theorem FnG.of {P : Program} {w : World} {K : PySem.W.Frag} {mg : Str → Option Value} {base : Heap} {k : Nat} {f : Addr} {fd : FuncData} {ps : List Str} {sp : Sp} (F : FnOk P w K mg base CX0 k f fd ps sp) : FnG P w K mg base k f fd ps sp :=
  ⟨F.len, fun A outer s H args us vs Q E _ => F.run A outer s H args us vs Q E⟩
/-- what may be called for, where no repr is under way -/
structure CalG (P : Program) (w : World) (K : PySem.W.Frag) (mg : Str → Option Value) (base : Heap) (k : Nat) (x : Str) (sp : Sp) : Prop where
  ex : ∃ (f : Addr) (fd : FuncData) (ps : List Str), FnG P w K mg base k f fd ps sp ∧ mg x = some (.ref f) ∧ PySem.W.keepIn K (.ref f) = true ∧ Binds K fd ps []
section
variable {X : Cx} {k j : Nat} {x : Str} {sp : Sp} {p pos : Pos} {e : Expr} {es : List Expr} {t : TA}
theorem pe_g (c : CalG X.prog X.w X.K X.mg X.base k x sp) (hgd : X.A.guards = some []) (hr : Room j X.A) (hk : k ≤ j) (hg : Gl X x) (ha : PA X (e :: es) t)
    (hdb : (x == ("__debug__" : Str)) = false := by decide) (he : starEach (e :: es) X.env = (false, eval e X.env) :: starEach es X.env := by rfl) (hpl : (backTo pos (starEach es X.env)).any (·.1) = false := by rfl) :
    PE X (.Call (.Name x p) (e :: es) [] pos) (tCall sp [] E0 t) := by
  obtain ⟨f, fd, ps, F, hm, kp, b⟩ := c.ex
  refine ⟨fun pins s σ H Q I h => wpAny_Call_Name_kw (ld_glob I hg hm ?_ hdb)⟩
  refine PySem.W.callWith_K (h₀ := X.base) I.ok.mod.kin kp (thn (ha.run pos pins s σ H _ I h) fun us s1 ⟨vs, H1, I1, rv, q1⟩ => ⟨I1.kIn, ?_⟩) he hpl
  have rv' : Vals (vs ++ []) us := by rw [List.append_nil]; exact rv
  have hl : us.length = ps.length := by
    have z := F.len _ _ _ _ q1
    rw [rv'.length] at z
    exact z
  have bd := b s1 us I1.kIn (by rw [List.append_nil]; exact hl)
  rw [List.append_nil] at bd
  refine wpAny_call (codeAny_mono (F.go X.A X.stack s1 H1 ⟨us, []⟩ us (vs ++ []) Q E0 hgd (hr.mono hk) I1.env0 bd rv' q1) fun r s2 hq => ?_)
  match r, hq with
  | .error _, hq => exact (hq : False).elim
  | .ok (.ret _), hq => exact I1.after hq
  | .ok .next, hq => exact (hq : False).elim
  | .ok .brk, hq => exact (hq : False).elim
  | .ok .cont, hq => exact (hq : False).elim
end
/-- a def by its body, where no repr is under way -/
theorem fun_g {P : Program} {w : World} {K : PySem.W.Frag} {mg : Str → Option Value} {base : Heap} {x qual : Str} {st : Stmt} {f : Addr} {fd : FuncData} {N ps : List Str} {k : Nat} {sp : Sp} (F : Fun K x qual st f fd) (S : FnScope N ps (defScope st))
    (len : ∀ vs H Q E, sp vs H Q E → vs.length = ps.length)
    (body : ∀ (cdv : Value) (A : Around) (outer : List Env) (s : Shared) (H : Hp) (vs : List V) (Q : VK) (E : XK), (A.deeper (envOfC qual (defScope st) s.heap.objs.size f cdv)).guards = some [] →
      Room k (A.deeper (envOfC qual (defScope st) s.heap.objs.size f cdv)) → sp vs H Q E →
      ∃ t, PSs (cxOf CX0 P w K mg base N qual (defScope st) f cdv A outer s H E).nox (defBody st) t ∧ t { nx := fun _ H' => Q .non H', rt := Q } (start N vs) H) : FnG P w K mg base (k + 1) f fd ps sp := by
  obtain ⟨oc, od, kV, doc, pm, an, cdv, ct, osl, rfl, lk, hcd⟩ := F.ex
  refine ⟨len, fun A outer s H args us vs Q E hgd hr e0 hb rv hsp => ?_⟩
  have inK : K.In s.heap := e0.mod.kin.keeps fun b o e => (e0.bs b o e).1
  have noL : s.heap.NoLimit := e0.mod.nolimit.keeps fun b o e => (e0.bs b o e).1
  have kinds : ∀ y ∈ ps.zip us, (defScope st).names.lookup y.1 = some .local ∨ ((defScope st).names.lookup y.1 = some .cell ∧ ((cellsFrom (s.heap.objs.size + 1) (defScope st).names []).lookup y.1).isSome = true) := by
    intro y hy
    rcases S.par y.1 (List.of_mem_zip hy).1 with q | q
    · exact .inl q
    · exact .inr ⟨q, PySem.W.cellsFrom_some _ _ _ (.inl q)⟩
  refine codeAny_call_function hr.depth (inK _ _ lk) rfl S.co S.gen rfl (PySem.W.codeRec_of inK hcd) (hb _ _ _ _ ?_)
  refine wpAny_newFunctionEnv_cells S.kind kinds fun env he s1 made => ?_
  subst he
  refine ⟨noL.keeps made.toInCall.keep, codeAny_func ?_⟩
  obtain ⟨t, ht, hq⟩ := body cdv A outer s H vs Q E hgd (hr.deeper _) hsp
  have J0 : Inv (cxOf CX0 P w K mg base N qual (defScope st) f cdv A outer s H E) [] (start N vs) H s1 := inv_start S hr.hd e0 (len _ _ _ _ hsp) rv made
  refine wpAny_mono (ht.nox.run [] s1 (start N vs) H _ J0 hq) (fun fl s' hs => ?_) fun _ _ hs => hs
  match fl, hs with
  | .ret u, hs =>
    obtain ⟨v, σ', H', J, rv', q⟩ := hs
    exact ⟨v, H', J.os, J.bare, J.base, J.hok, rv', q⟩
  | .next, hs =>
    obtain ⟨σ', H', J, q⟩ := hs
    exact ⟨V.non, H', J.os, J.bare, J.base, J.hok, rfl, q⟩
  | .brk, hs => exact (hs.choose_spec.choose_spec.2 : False).elim
  | .cont, hs => exact (hs.choose_spec.choose_spec.2 : False).elim
end Ft

/-! The law's call, from a promise that holds where no repr is under way. -/
namespace Ft
open PySem L2 PySem.Spec PyProof.Rows

/-- the heap behind the top, seen with the script tracked (or nothing) -/
theorem call_of {P : Program} {w : World} {K : PySem.W.Frag} {mg mb : Str → Option Value} {k : Nat} {fa a : Addr} {fd : FuncData} {x : Str} {sp : Sp} {s1 : Shared} {vs : List Value} {H : Hp}
    (inK : K.In s1.heap) (hns : s1.heap.Ns mainGlobals mg) (hb : s1.heap.Ns builtinsNs mb) (hbb : ∀ x : Str, x ≠ "__name__" → mb x = bootBuiltins x) (hlim : s1.heap.NoLimit) (hg : s1.gens = #[])
    (ha : s1.heap.get? a = some { cls := .type "list", data := .seq vs.toArray }) (hr : Room k callerA)
    (F : ∀ base : Heap, K.In base → base.Ns mainGlobals mg → FnG P w K mg base k fa fd [x] sp) (hbind : ∀ (s : Shared) (u : Value), BindsTo s fd ⟨[u], []⟩ [(x, u)])
    (hO : Only H) (hp : sp [.ref a] H (fun v _ => v = .bl true) fun _ _ _ => False) (hok : HOk P w H s1.heap) (only : ∀ b, H b ≠ none → b = a) (notK : H a ≠ none → K.lookup a = none) :
    codeAny (model P w) callerA (.call (.ref fa) ⟨[.ref a], []⟩) (fun r s2 => r = .ok (.ret (.bool true)) ∧ OldK s1.heap s2.heap ∧ s2.os = s1.os ∧ AllBare s2.gens) s1 := by
  have below : ∀ {b : Addr} {o : Obj}, s1.heap.get? b = some o → H b = none → (hidT s1.heap H).get? b = some o := fun e n => hidT_get e n
  have dictFree : ∀ {b : Addr} {o : Obj} {es : Array DictEntry} {ep : Nat}, s1.heap.get? b = some o → o.data = .dict es ep → H b = none := by
    intro b o es ep e d
    cases q : H b with
    | none => rfl
    | some z =>
      obtain rfl : b = a := only b (fun n => by rw [n] at q; cases q)
      rw [ha] at e
      cases e
      exact absurd (show Data.seq vs.toArray _ = Data.dict es ep from d) (fun z => by cases z)
  have spaces : ∀ {b : Addr} {m : Str → Option Value}, s1.heap.Ns b m → (hidT s1.heap H).Ns b m := fun {b m} ⟨o, es, ep, e, d, r⟩ => ⟨o, es, ep, below e (dictFree e d), d, r⟩
  have inB : K.In (hidT s1.heap H) := by
    intro b o e
    refine below (inK b o e) ?_
    cases q : H b with
    | none => rfl
    | some z =>
      have nz : H b ≠ none := fun n => by rw [n] at q; cases q
      obtain rfl : b = a := only b nz
      rw [notK nz] at e
      cases e
  have hM : Mod K mg (hidT s1.heap H) := ⟨inB, spaces hns, ⟨mb, spaces hb, hbb⟩, hlim.elim fun mc z => ⟨mc, spaces z.1, z.2⟩⟩
  have noFr : ∀ b ∈ frs ([] : List Env), H b = none := fun b z => absurd (show b ∈ ([] : List Addr) from z) List.not_mem_nil
  have e0 : Env0 P w K mg (hidT s1.heap H) callerA [] s1 H := ⟨rfl, hM, fun b o e => of_hidT e, Nat.le_of_eq (hidT_size _ _), trivial, noFr, hok, .of_eq hg⟩
  refine codeAny_mono ((F _ inB (spaces hns)).go callerA [] s1 H ⟨[.ref a], []⟩ [.ref a] [.ref a] _ _ rfl hr e0 (hbind s1 (.ref a)) (.cons rfl .nil) hp) fun r s2 h => ?_
  match r, h with
  | .error _, h => exact (h : False).elim
  | .ok .next, h => exact (h : False).elim
  | .ok .brk, h => exact (h : False).elim
  | .ok .cont, h => exact (h : False).elim
  | .ok (.ret u), h =>
    obtain ⟨v, H2, os, bare, un, hok2, rv, q⟩ := h
    obtain rfl : v = .bl true := q
    obtain rfl : u = Value.bool true := rv
    refine ⟨rfl, OldK.of_keep fun b o e => ?_, os, bare⟩
    cases q : H b with
    | none => exact un.keep b o e q (fun z => absurd (show b ∈ ([] : List Addr) from z) List.not_mem_nil) List.not_mem_nil
    | some z =>
      rcases hO b with n | ⟨ob, xs, y⟩
      · rw [q] at n; cases n
      · have k1 := (hok b _ y).1
        have k2 := (hok2 b _ (un.frzs b ob _ y)).1
        rw [e] at k1
        cases k1
        exact k2
/-- what k_head leaves, from the law's promise -/
theorem walk_g {l : PySem.W.OpenLaw} {n k : Nat} {q : Program} {loose : List Str} {XP : (Str → Option Value) → Heap → Prop} {YP : World → Heap → Prop} {d : DefRec} {K : Params → PySem.W.Frag} {sp : PySem.W.Frag → Sp} {x : Str}
    (hn : l.most = some n) (hn2 : n ≤ sizeLine) (hdf : d.params.defaults = []) (hr : Room k callerA)
    (hY : ∀ (w : World) (h : Heap), YP w h → (K w.params).In h)
    (F : ∀ (w : World) (mg : Str → Option Value) (fa : Addr) (h : Heap), (K w.params).In h → h.Ns mainGlobals mg → mg d.name = some (.ref fa) →
      ∃ fd : FuncData, (∀ (s : Shared) (u : Value), BindsTo s fd ⟨[u], []⟩ [(x, u)]) ∧
        ∀ base : Heap, (K w.params).In base → base.Ns mainGlobals mg → FnG l.prog w (K w.params) mg base k fa fd [x] (sp (K w.params)))
    (hsp : ∀ (K : PySem.W.Frag) (H : Hp) (a : Addr) (ns : List Int), ns.length ≤ n → SqL K H a (ns.map V.int) → sp K [.ref a] H (fun v _ => v = .bl true) fun _ _ _ => False) :
    PySem.W.WalkO q loose XP YP l.row.toRowW d [] (fun f vs => PySem.call f vs) := by
  refine Att.attach_call hn hdf fun w s0 s1 mg mb fa o pm cd doc a vs ns G Y ho hd hcd hmg hobj hints hlen hg => ?_
  have inK := hY w _ Y
  obtain ⟨fd, hb, hF⟩ := F w mg fa _ inK G.T.g hmg
  have rv := vals_ints hints
  have lv := hints.length
  have main := fun (H : Hp) (hO : Only H) (hS : SqL (K w.params) H a (ns.map V.int)) => call_of (H := H) inK G.T.g G.T.b G.T.builtins G.T.nolimit hg hobj hr hF hb hO (hsp (K w.params) H a ns hlen hS)
  cases hk : (K w.params).lookup a with
  | some ob =>
    have e := inK a ob hk
    rw [hobj] at e
    cases e
    have none_ : ∀ {b : Addr} {z : HO}, (fun _ => none : Hp) b = some z → False := fun z => by cases z
    exact main (fun _ => none) (fun _ => .inl rfl) (.inr ⟨_, vs.toArray, _, hk, rfl, rfl, rfl, by rw [List.size_toArray, lv]; exact Nat.le_trans hlen hn2, by simpa using rv⟩) (fun b z y => (none_ (b := b) y).elim) (fun b z => absurd rfl z) fun z => absurd rfl z
  | none =>
    let ob : Obj := { cls := .type "list", data := .seq vs.toArray }
    have at_a : ∀ {b : Addr}, b = a → (fun b => if b = a then some (HO.frz ob (.lst (ns.map V.int))) else none : Hp) b = some (.frz ob (.lst (ns.map V.int))) := fun h => if_pos h
    have off_a : ∀ {b : Addr}, ¬ b = a → (fun b => if b = a then some (HO.frz ob (.lst (ns.map V.int))) else none : Hp) b = none := fun h => if_neg h
    refine main (fun b => if b = a then some (.frz ob (.lst (ns.map V.int))) else none) (fun b => ?_) (.inl (.inr ⟨ob, at_a rfl⟩)) (fun b u z => ?_) (fun b z => ?_) fun _ => hk
    · exact (Decidable.em (b = a)).elim (fun h => .inr ⟨_, _, at_a h⟩) fun h => .inl (off_a h)
    · by_cases h : b = a
      · have y := (at_a h).symm.trans z
        cases y
        subst h
        exact ⟨hobj, by rw [List.length_map]; exact Nat.le_trans hlen hn2, vs, _, rv, hobj⟩
      · exact absurd ((off_a h).symm.trans z) (fun y => by cases y)
    · exact (Decidable.em (b = a)).elim id fun h => absurd (off_a h) z
end Ft

/-! repr of data; the deck of draws -/
namespace Ft
open PySem L2 PySem.Spec PyProof.Rows

def rRepr (K : PySem.W.Frag) : List V → Hp → VK → Prop := fun xs H Q => ∃ a d, xs = [.ref a] ∧ Dp K H (.ref a) d ∧ d.showable = true ∧ d.hasDict = false ∧ d.depth ≤ 64 ∧ d.shown.length ≤ sizeLine ∧ Q (.str d.shown) H
theorem call_repr {X : Cx} {k : Nat} (hgd : X.A.guards = some []) (hr : Room k X.A) : CallR X (.builtin "repr") (rRepr X.K) := by
  intro pins s σ H xs us Q I r h
  obtain ⟨a, d, rfl, hd, h1, h2, h3, h4, q⟩ := h
  obtain ⟨u, rfl, rx⟩ := vals1 r
  obtain ⟨as, rd⟩ := Dp.reads I d (.ref a) u hd rx
  obtain rfl : u = Value.ref a := rx
  exact repr_of_reads' rd h1 (fun z => by rw [h2] at z; cases z) hgd (by have := hr.un; omega) (fun _ _ e => e) (fun h' u tk kept => ⟨.str d.shown, H, I.kept kept, ⟨_, rfl⟩, q⟩) h4

/-! ### the deck -/
def kCells : Key := .inr "cells"
def kMixed : Key := .inr "mixed"
def kDraws : Key := .inr "draws"
theorem ncm : ¬ kCells = kMixed := by decide +kernel
theorem ncd : ¬ kCells = kDraws := by decide +kernel
theorem nmd : ¬ kMixed = kDraws := by decide +kernel
theorem nmc : ¬ kMixed = kCells := by decide +kernel
theorem ndc : ¬ kDraws = kCells := by decide +kernel
def deckL (l : Addr) (mx dr : Int) : List (Key × V) := [(kCells, .ref l), (kMixed, .int mx), (kDraws, .int dr)]
theorem deck_cells {l : Addr} {mx dr : Int} : valV (deckL l mx dr) kCells = some (.ref l) := valV_pos rfl
theorem deck_mixed {l : Addr} {mx dr : Int} : valV (deckL l mx dr) kMixed = some (.int mx) := by
  unfold deckL
  rw [valV_neg ncm]
  exact valV_pos rfl
theorem deck_draws {l : Addr} {mx dr : Int} : valV (deckL l mx dr) kDraws = some (.int dr) := by
  unfold deckL
  rw [valV_neg ncd, valV_neg nmd]
  exact valV_pos rfl
theorem deck_put {l : Addr} {mx dr z : Int} : putK (deckL l mx dr) kDraws (.int z) = deckL l mx z := by
  unfold putK deckL
  rw [if_pos (by simp)]
  simp only [List.map_cons, List.map_nil, if_neg ncd, if_neg nmd, if_true]
/-- a deck at d, its list at l -/
def DeckAt (H : Hp) (d l : Addr) : Prop := ∃ (mx dr : Int) (cs : List Int), H d = some (.dK (deckL l mx dr)) ∧ H l = some (.lst (cs.map V.int)) ∧ cs.length ≤ 63
/-- all that was tracked is as it was, but at d and l -/
def But (d l : Addr) (H H' : Hp) : Prop := ∀ b o, H b = some o → b ≠ d → b ≠ l → H' b = some o
theorem But.refl {d l : Addr} {H : Hp} : But d l H H := fun _ _ h _ _ => h
theorem But.trans {d l : Addr} {H H1 H2 : Hp} (a : But d l H H1) (b : But d l H1 H2) : But d l H H2 := fun c o h h1 h2 => b c o (a c o h h1 h2) h1 h2
theorem But.of {d l : Addr} {H H' : Hp} (s : Same H H') : But d l H H' := fun b o h _ _ => s b o h
theorem Same.upd_new {H : Hp} {p : Addr} {o : HO} (h : H p = none) : Same H (upd H p o) := fun b u e => by rw [upd_ne (ne_of_none e h)]; exact e
theorem DeckAt.same {H H' : Hp} {d l : Addr} (D : DeckAt H d l) (s : Same H H') : DeckAt H' d l := by
  obtain ⟨mx, dr, cs, h1, h2, h3⟩ := D
  exact ⟨mx, dr, cs, s _ _ h1, s _ _ h2, h3⟩
theorem DeckAt.ne {H : Hp} {d l : Addr} (D : DeckAt H d l) : d ≠ l := by
  obtain ⟨mx, dr, cs, h1, h2, h3⟩ := D
  exact ne_of h1 h2 (by intro z; cases z)
/-- a new address is neither -/
theorem DeckAt.new {H : Hp} {d l p : Addr} (D : DeckAt H d l) (h : H p = none) : p ≠ d ∧ p ≠ l := by
  obtain ⟨mx, dr, cs, h1, h2, h3⟩ := D
  exact ⟨fun e => (by rw [e, h1] at h; cases h), fun e => (by rw [e, h2] at h; cases h)⟩
/-- draws: from 0 to below many; the deck stays a deck, all else stays -/
def sp_draw : Sp := fun vs H Q _ => ∃ (d l : Addr) (n : Int), vs = [.ref d, .int n] ∧ DeckAt H d l ∧ 0 < n ∧ n < 2 ^ 64 ∧ ∀ (H' : Hp) (r : Int), DeckAt H' d l → But d l H H' → 0 ≤ r → r < n → Q (.int r) H'
theorem sp_draw_len : ∀ vs H Q E, sp_draw vs H Q E → vs.length = 2 := fun _ _ _ _ ⟨_, _, _, e, _⟩ => by rw [e]; rfl
theorem dp_ints {K : PySem.W.Frag} {H : Hp} : ∀ ns : List Int, DpAll K H (ns.map V.int) (ns.map PyData.int)
  | [] => .nil
  | n :: ns => .cons (.int n) (dp_ints ns)
theorem eqv_nil : ∀ ds : List PyData, PyData.eqv (.list ds) (.list []) = ds.isEmpty
  | [] => rfl
  | _ :: _ => rfl
theorem deck_merge {l : Addr} {mx dr : Int} : mergeK [] (deckL l mx dr) = deckL l mx dr := by
  unfold mergeK deckL
  simp only [List.foldl_cons, List.foldl_nil]
  have h1 : putK ([] : List (Key × V)) kCells (.ref l) = [(kCells, V.ref l)] := rfl
  rw [h1]
  have h2 : putK [(kCells, V.ref l)] kMixed (.int mx) = [(kCells, V.ref l), (kMixed, V.int mx)] := putK_new _ (by rw [valV_neg ncm]; rfl)
  rw [h2]
  exact putK_new _ (by rw [valV_neg ncd, valV_neg nmd]; rfl)
/-- a slice of ints is one -/
theorem cut_ints (ns : List Int) (lo hi : Option Int) : ∃ ms : List Int, cutV (ns.map V.int) lo hi = ms.map V.int ∧ ms.length ≤ ns.length := by
  have hl := cutV_length (ns.map V.int) lo hi
  rw [List.length_map] at hl
  have h : cutV (ns.map V.int) lo hi = ((ns.drop (HT.sIx (ns.map V.int).length 0 lo)).take (HT.sIx (ns.map V.int).length (ns.map V.int).length hi - HT.sIx (ns.map V.int).length 0 lo)).map V.int := by
    unfold cutV
    rw [List.map_take, List.map_drop]
  refine ⟨_, h, ?_⟩
  rw [h, List.length_map] at hl
  exact hl
theorem int_at {ns : List Int} {i : Nat} {v : V} (h : (ns.map V.int)[i]? = some v) : ∃ z, v = .int z ∧ ns[i]? = some z := by
  rw [List.getElem?_map] at h
  cases e : ns[i]? with
  | none => rw [e] at h; cases h
  | some z => rw [e] at h; exact ⟨z, (Option.some.inj h).symm, rfl⟩
def sp_deck (K : PySem.W.Frag) : Sp := fun vs H Q _ => ∃ (a : Addr) (ns : List Int), vs = [.ref a] ∧ SqL K H a (ns.map V.int) ∧ ns.length ≤ 63 ∧ ∀ (H' : Hp) (d l : Addr), DeckAt H' d l → Same H H' → H d = none → H l = none → Q (.ref d) H'
theorem sp_deck_len {K : PySem.W.Frag} : ∀ vs H Q E, sp_deck K vs H Q E → vs.length = 1 := fun _ _ _ _ ⟨_, _, e, _⟩ => by rw [e]; rfl
/-- an item of a list that stands -/
def sp_pick (K : PySem.W.Frag) : Sp := fun vs H Q _ => ∃ (d l p : Addr) (xs : List V), vs = [.ref d, .ref p] ∧ DeckAt H d l ∧ (H p = some (.lst xs) ∧ p ≠ l ∨ H p = some (.tup xs)) ∧ 0 < xs.length ∧ xs.length < 2 ^ 64 ∧
  ∀ (H' : Hp) (v : V), DeckAt H' d l → But d l H H' → v ∈ xs → Q v H'
theorem sp_pick_len {K : PySem.W.Frag} : ∀ vs H Q E, sp_pick K vs H Q E → vs.length = 2 := fun _ _ _ _ ⟨_, _, _, _, e, _⟩ => by rw [e]; rfl
end Ft

namespace Ft
open PySem L2

/-! ### the mirror of the program's defs -/
def valueTwo (s : Int) : Int := if s % 2 = 0 then 0 else if s % 8 = 1 then 1 else -1
/-- a sign as an int: true is 1 -/
def sg (v : Bool) : Int := if v = true then 1 else -1
def halve (b : Nat) : Nat → Nat → Bool → Nat × Bool
  | 0, t, v => (t, v)
  | f + 1, t, v => if t % 2 = 0 then halve b f (t / 2) (if b % 8 = 3 ∨ b % 8 = 5 then !v else v) else (t, v)
def jac : Nat → Nat → Nat → Bool → Nat × Bool
  | 0, _, b, v => (b, v)
  | f + 1, t, b, v => if t = 0 then (b, v) else
    let r := halve b t t v
    jac f (b % r.1) r.1 (if r.1 % 4 = 3 ∧ b % 4 = 3 then !r.2 else r.2)
def valueOdd (top : Int) (b : Nat) : Int :=
  let r := jac b (top % (b : Int)).toNat b true
  if r.1 = 1 then sg r.2 else 0
def twos (z : Int) : Nat → Nat → Int → Nat × Int
  | 0, r, v => (r, v)
  | f + 1, r, v => if r % 2 = 0 then twos z f (r / 2) (v * z) else (r, v)
def valueRest (s : Int) (r : Nat) : Int :=
  if r = 0 then (if s = 1 then 1 else 0) else
    let q := twos (valueTwo s) r r 1
    q.2 * valueOdd s q.1
def valueAt (s n : Int) : Int := valueRest s (n % (s.natAbs : Int)).toNat
def sqs (p : Nat) : Nat → Nat → Nat
  | 0, r => r
  | f + 1, r => if r % (p * p) = 0 then sqs p f (r / (p * p)) else r
def wsq : Nat → Nat → Int → Nat → Nat × Int
  | 0, r, b, _ => (r, b)
  | f + 1, r, b, p => if p * p * p ≤ r then
      let r1 := sqs p r r
      if r1 % p = 0 then wsq f (r1 / p) (b * p) (p + 1) else wsq f r1 b (p + 1)
    else (r, b)
def without (m : Int) : Int :=
  let q := wsq m.natAbs m.natAbs (if 0 < m then 1 else -1) 2
  if Float64.isqrt q.1 * Float64.isqrt q.1 = q.1 then q.2 else q.2 * q.1
def anySign (m : Int) : Int := if without m % 4 = 1 then without m else 4 * without m
def isSign (n : Int) : Bool := decide (-400 ≤ n) && (decide (n ≤ 400) && (decide (n ≠ 0) && decide (anySign n = n)))

/-! ### promises -/
def sp1 (C : Int → Prop) (g : Int → V) : Sp := fun vs H Q _ => ∃ n, vs = [.int n] ∧ C n ∧ Q (g n) H
def sp2 (C : Int → Int → Prop) (g : Int → Int → V) : Sp := fun vs H Q _ => ∃ m n, vs = [.int m, .int n] ∧ C m n ∧ Q (g m n) H
def sp3 (C : Int → Int → Int → Prop) (g : Int → Int → Int → V) : Sp := fun vs H Q _ => ∃ l m n, vs = [.int l, .int m, .int n] ∧ C l m n ∧ Q (g l m n) H
theorem sp1_len {C g} : ∀ vs H Q E, sp1 C g vs H Q E → vs.length = 1 := fun _ _ _ _ ⟨_, e, _⟩ => by rw [e]; rfl
theorem sp2_len {C g} : ∀ vs H Q E, sp2 C g vs H Q E → vs.length = 2 := fun _ _ _ _ ⟨_, _, e, _⟩ => by rw [e]; rfl
theorem sp3_len {C g} : ∀ vs H Q E, sp3 C g vs H Q E → vs.length = 3 := fun _ _ _ _ ⟨_, _, _, e, _⟩ => by rw [e]; rfl
def sp_is_integer : Sp := sp1 (fun _ => True) fun _ => .bl true
def sp_is_between : Sp := sp3 (fun _ _ _ => True) fun n a b => .bl (decide (a ≤ n) && decide (n ≤ b))
def sp_check_integer : Sp := sp1 (fun _ => True) fun _ => .non
def sp_is_sign : Sp := sp1 (fun _ => True) fun n => .bl (isSign n)
def sp_check_sign : Sp := sp1 (fun n => isSign n = true) fun _ => .non
def sp_value_at_two : Sp := sp1 (fun _ => True) fun n => .int (valueTwo n)
def sp_value_at_odd : Sp := sp2 (fun _ b => 0 < b) fun t b => .int (valueOdd t b.toNat)
def sp_value_at : Sp := sp2 (fun s _ => s ≠ 0) fun s n => .int (valueAt s n)
def sp_sign_at : Sp := sp2 (fun s _ => isSign s = true) fun s n => .int (valueAt s n)
def sp_without_squares : Sp := sp1 (fun m => m ≠ 0 ∧ m.natAbs ≤ 160000) fun m => .int (without m)
def sp_any_sign_of : Sp := sp1 (fun m => m ≠ 0 ∧ m.natAbs ≤ 160000) fun m => .int (anySign m)
def sp_joined_sign : Sp := sp2 (fun a b => isSign a = true ∧ isSign b = true) fun a b => .int (anySign (a * b))

section
variable {P : Program} {w : World} {K : PySem.W.Frag} {mg : Str → Option Value} {base : Heap}
theorem ok_is_integer (D : Df K mg "is_integer" s_is_integer ["thing"]) (B : Bi mg)  : Cal P w K mg base 1 "is_integer" sp_is_integer := by
  obtain ⟨f, fd, F, m, b⟩ := D.ex
  have sc := sc_is_integer
  refine ⟨f, fd, _, F.ok sc sp1_len (fun cdv A outer s H vs Q E hr h => ?_), m, F.kp, b⟩
  obtain ⟨n, rfl, _, q⟩ := h
  have hu := hu_of hr
  refine ⟨_, (pss_one (ps_ret (pe_and (pe_callB call_isi (by rfl) B.isinstance (by decide +kernel) (pa_cons (pv 0) (pa_cons (pe_ty (n := "int") (by rfl) B.int_ (by decide +kernel)) pa_nil))) (pe_one (pe_not (pe_callB call_isi (by rfl) B.isinstance (by decide +kernel) (pa_cons (pv 0) (pa_cons (pe_ty (n := "bool") (by rfl) B.bool (by decide +kernel)) pa_nil)))))))), ?_⟩
  refine ⟨_, rfl, _, _, _, _, true, rfl, .ty _, .base (.int n), kit_int_int, true, rfl, iteT ?_⟩
  refine ⟨_, rfl, _, _, _, _, false, rfl, .ty _, .base (.int n), kit_int_bool, false, rfl, ?_⟩
  exact q
theorem ok_is_between (D : Df K mg "is_between" s_is_between ["thing", "least", "most"]) (c_is_integer : Cal P w K mg base 1 "is_integer" sp_is_integer) : Cal P w K mg base 2 "is_between" sp_is_between := by
  obtain ⟨f, fd, F, m, b⟩ := D.ex
  have sc := sc_is_between
  refine ⟨f, fd, _, F.ok sc sp3_len (fun cdv A outer s H vs Q E hr h => ?_), m, F.kp, b⟩
  obtain ⟨n, lo, hi, rfl, _, q⟩ := h
  have hu := hu_of hr
  refine ⟨_, (pss_one (ps_ret (pe_and (pe_c c_is_integer hr (by decide) (by rfl) (pa_cons (pv 0) pa_nil)) (pe_one (pe_chain op_le op_le (pv 1) (pv 0) (pv 2)))))), ?_⟩
  refine ⟨_, rfl, n, rfl, trivial, true, rfl, iteT ?_⟩
  refine ⟨_, rfl, _, rfl, lo, n, rfl, rfl, _, rfl, ?_⟩
  refine ifD (fun h => ?_) fun h => ?_
  · refine ⟨_, rfl, n, hi, rfl, rfl, ?_⟩
    simp only [decide_eq_true h, Bool.true_and] at q
    exact q
  · simp only [decide_eq_false h, Bool.false_and] at q
    exact q
theorem ok_check_integer (D : Df K mg "check_integer" s_check_integer ["thing"]) (c_is_integer : Cal P w K mg base 1 "is_integer" sp_is_integer) : Cal P w K mg base 2 "check_integer" sp_check_integer := by
  obtain ⟨f, fd, F, m, b⟩ := D.ex
  have sc := sc_check_integer
  refine ⟨f, fd, _, F.ok sc sp1_len (fun cdv A outer s H vs Q E hr h => ?_), m, F.kp, b⟩
  obtain ⟨n, rfl, _, q⟩ := h
  refine ⟨_, (pss_one (ps_if (pt_not (pt_val (pe_c c_is_integer hr (by decide) (by rfl) (pa_cons (pv 0) pa_nil))))
      (pss_one ps_never)
      pss_nil)), ?_⟩
  refine ⟨_, rfl, n, rfl, trivial, true, rfl, iteF ?_⟩
  exact q
theorem ok_value_at_two (D : Df K mg "value_at_two" s_value_at_two ["sign"]) : Cal P w K mg base 1 "value_at_two" sp_value_at_two := by
  obtain ⟨f, fd, F, m, b⟩ := D.ex
  have sc := sc_value_at_two
  refine ⟨f, fd, _, F.ok sc sp1_len (fun cdv A outer s H vs Q E hr h => ?_), m, F.kp, b⟩
  obtain ⟨n, rfl, _, q⟩ := h
  refine ⟨_, (pss_cons (ps_if (pt_cmpR op_eq (pe_op op_mod (pv 0) pe_int) pe_int (nomark _))
      (pss_one (ps_ret pe_int))
      pss_nil)
      (pss_one (ps_ret (pe_ifExp (pt_cmpR op_eq (pe_op op_mod (pv 0) pe_int) pe_int (nomark _)) pe_int (pe_un un_neg pe_int))))), ?_⟩
  replace q : Q (.int (valueTwo n)) H := q
  unfold valueTwo at q
  refine ⟨_, rfl, _, _, rfl, rfl, (by show (0 : Int) < 2; decide), rfl, _, rfl, ifI (fun e => ?_) fun e => ?_⟩
  · rw [if_pos e] at q; exact q
  · rw [if_neg e] at q
    refine ⟨_, rfl, _, _, rfl, rfl, (by show (0 : Int) < 8; decide), rfl, _, rfl, ifI (fun e2 => ?_) fun e2 => ?_⟩
    · rw [if_pos e2] at q; exact q
    · rw [if_neg e2] at q; exact ⟨_, rfl, q⟩
end
end Ft

namespace Ft
open PySem L2
theorem sg_not (v : Bool) : -(sg v) = sg (!v) := by cases v <;> decide
theorem sg_true : sg true = 1 := by decide
/-- the int in slot i, as a measure -/
def m0 (i : Nat) (σ : L2.St) : Nat := match σ[i]? with
  | some (some (.int z)) => z.toNat
  | _ => 0
theorem st3 {a b c a' b' c' : Int} (h1 : a = a') (h2 : b = b') (h3 : c = c') : [some (V.int a), some (V.int b), some (V.int c)] = [some (V.int a'), some (V.int b'), some (V.int c')] := by rw [h1, h2, h3]
theorem halve_go {b f t : Nat} {v : Bool} (h : t % 2 = 0) : halve b (f + 1) t v = halve b f (t / 2) (if b % 8 = 3 ∨ b % 8 = 5 then !v else v) := by
  show (if t % 2 = 0 then _ else _) = _
  rw [if_pos h]
theorem halve_stop {b f t : Nat} {v : Bool} (h : ¬ t % 2 = 0) : halve b f t v = (t, v) := by
  cases f with
  | zero => rfl
  | succ f => show (if t % 2 = 0 then _ else _) = _; rw [if_neg h]
theorem jac_stop {b f : Nat} {v : Bool} : jac f 0 b v = (b, v) := by
  cases f with
  | zero => rfl
  | succ f => show (if (0:Nat) = 0 then _ else _) = _; rw [if_pos rfl]
theorem jac_go {b f t t' : Nat} {v v' : Bool} (h : t ≠ 0) (e : halve b t t v = (t', v')) : jac (f + 1) t b v = jac f (b % t') t' (if t' % 4 = 3 ∧ b % 4 = 3 then !v' else v') := by
  show (if t = 0 then _ else _) = _
  rw [if_neg h]
  dsimp only
  rw [e]

section
variable {P : Program} {w : World} {K : PySem.W.Frag} {mg : Str → Option Value} {base : Heap}
theorem ok_value_at_odd (D : Df K mg "value_at_odd" s_value_at_odd ["top", "bottom"]) : Cal P w K mg base 1 "value_at_odd" sp_value_at_odd := by
  obtain ⟨f, fd, F, m, b⟩ := D.ex
  have sc := sc_value_at_odd
  refine ⟨f, fd, _, F.ok sc sp2_len (fun cdv A outer s H vs Q E hr h => ?_), m, F.kp, b⟩
  obtain ⟨t, b0, rfl, hb, q⟩ := h
  replace hb : 0 < b0 := hb
  replace q : Q (.int (valueOdd t b0.toNat)) H := q
  refine ⟨_, (pss_cons (ps_set (i := 2) sc.nd rfl (Or.inl rfl) pe_int)
      (pss_cons (ps_set (i := 0) sc.nd rfl (Or.inl rfl) (pe_op op_mod (pv 0) (pv 1)))
      (pss_cons (ps_while PassesOwn.never (pt_cmpR op_ne (pv 0) pe_int (nomark _))
      (pss_cons (ps_while PassesOwn.never (pt_cmpR op_eq (pe_op op_mod (pv 0) pe_int) pe_int (nomark _))
        (pss_cons (ps_set (i := 0) sc.nd rfl (Or.inl rfl) (pe_op op_fdivW (pv 0) pe_int))
          (pss_one (ps_if (PW.pt (pw_or (pt_cmpR op_eq (pe_op op_mod (pv 1) pe_int) pe_int (nomark _)) (pw_or1 (pt_cmpR op_eq (pe_op op_mod (pv 1) pe_int) pe_int (nomark _)))))
          (pss_one (ps_set (i := 2) sc.nd rfl (Or.inl rfl) (pe_un un_neg (pv 2))))
          pss_nil))))
        (pss_cons (ps_if (PW.pt (pw_and (pt_cmpR op_eq (pe_op op_mod (pv 0) pe_int) pe_int (nomark _)) (pw_and1 (pt_cmpR op_eq (pe_op op_mod (pv 1) pe_int) pe_int (nomark _)))))
        (pss_one (ps_set (i := 2) sc.nd rfl (Or.inl rfl) (pe_un un_neg (pv 2))))
        pss_nil)
        (pss_one (ps_par (i := 0) (j := 1) (by rfl) sc.nd rfl rfl (by decide) rfl rfl (pa_cons (pe_op op_mod (pv 1) (pv 0)) (pa_cons (pv 0) pa_nil)) (by rfl))))))
      (pss_one (ps_ret (pe_ifExp (pt_cmpR op_eq (pv 1) pe_int (nomark _)) (pv 2) pe_int)))))), ?_⟩
  obtain ⟨n0, rfl⟩ : ∃ n : Nat, b0 = n := ⟨b0.toNat, by omega⟩
  have hn : 0 < n0 := by omega
  have hm := Int.emod_nonneg t (b := (n0 : Int)) (by omega)
  have hl := Int.emod_lt_of_pos t hb
  obtain ⟨t0, ht0⟩ : ∃ n : Nat, t % (n0 : Int) = n := ⟨(t % (n0 : Int)).toNat, by omega⟩
  have qe : valueOdd t n0 = if (jac n0 t0 n0 true).1 = 1 then sg (jac n0 t0 n0 true).2 else 0 := by
    unfold valueOdd
    rw [ht0]
    rfl
  rw [Int.toNat_natCast, qe] at q
  refine ⟨_, rfl, _, rfl, _, _, rfl, rfl, hb, ?_⟩
  refine while_go (fun σ H' => H = H' ∧ ∃ (f tn bn : Nat) (v : Bool), σ = [some (.int (tn : Nat)), some (.int (bn : Nat)), some (.int (sg v))] ∧ 0 < bn ∧ tn ≤ f ∧ jac f tn bn v = jac n0 t0 n0 true) (fun σ _ => m0 0 σ)
    ⟨rfl, n0, t0, n0, true, st3 ht0 rfl rfl, hn, by omega, rfl⟩ ?_
  rintro σ _ ⟨rfl, f, tn, bn, v, rfl, hbn, hf, hj⟩
  refine ⟨_, rfl, rfl, _, rfl, ifNI (fun hne => ?_) fun he => ?_⟩
  · have htn : tn ≠ 0 := by omega
    obtain ⟨f', rfl⟩ : ∃ n, f = n + 1 := ⟨f - 1, by omega⟩
    refine ⟨fun σ' H' => H = H' ∧ ∃ (f tn' bn : Nat) (v : Bool), σ' = [some (.int (tn' : Nat)), some (.int (bn : Nat)), some (.int (sg v))] ∧ 0 < bn ∧ tn' ≤ f ∧ jac f tn' bn v = jac n0 t0 n0 true ∧ tn' < tn, ?_, ?_⟩
    · rintro σ' _ ⟨rfl, f2, tn', bn', v', rfl, h1, h2, h3, h4⟩
      exact ⟨_, (by show ((tn' : Int)).toNat < ((tn : Int)).toNat; omega), rfl, rfl, f2, tn', bn', v', rfl, h1, h2, h3⟩
    refine while_go (fun σ H' => H = H' ∧ ∃ (g tm : Nat) (u : Bool), σ = [some (.int (tm : Nat)), some (.int (bn : Nat)), some (.int (sg u))] ∧ 0 < tm ∧ tm ≤ g ∧ tm ≤ tn ∧ halve bn g tm u = halve bn tn tn v) (fun σ _ => m0 0 σ)
      ⟨rfl, tn, tn, v, rfl, by omega, Nat.le_refl _, Nat.le_refl _, rfl⟩ ?_
    rintro σ _ ⟨rfl, g, tm, u, rfl, h1, h2, h2b, h3⟩
    refine ⟨_, rfl, _, _, rfl, rfl, (by show (0 : Int) < 2; decide), rfl, _, rfl, ifI (fun e => ?_) fun e => ?_⟩
    · have e' : tm % 2 = 0 := by omega
      obtain ⟨g', rfl⟩ : ∃ n, g = n + 1 := ⟨g - 1, by omega⟩
      rw [halve_go e'] at h3
      refine ⟨fun σ' H' => H = H' ∧ ∃ (g tm' : Nat) (u : Bool), σ' = [some (.int (tm' : Nat)), some (.int (bn : Nat)), some (.int (sg u))] ∧ 0 < tm' ∧ tm' ≤ g ∧ tm' ≤ tn ∧ halve bn g tm' u = halve bn tn tn v ∧ tm' < tm, ?_, ?_⟩
      · rintro σ' _ ⟨rfl, f2, tn', v', rfl, h1, h2, h2b, h3, h4⟩
        exact ⟨_, (by show ((tn' : Int)).toNat < ((tm : Int)).toNat; omega), rfl, rfl, f2, tn', v', rfl, h1, h2, h2b, h3⟩
      refine ⟨_, rfl, _, _, rfl, rfl, ⟨by decide, by decide⟩, ?_⟩
      have ed : (tm : Int) / 2 = ((tm / 2 : Nat) : Int) := by omega
      refine ⟨_, rfl, _, _, rfl, rfl, (by show (0 : Int) < 8; decide), rfl, _, rfl, ifI (fun e3 => ?_) fun e3 => ?_⟩
      · have c : bn % 8 = 3 ∨ bn % 8 = 5 := by omega
        rw [if_pos c] at h3
        refine iteT ?_
        refine ⟨_, rfl, _, rfl, ?_⟩
        exact ⟨rfl, g', tm / 2, !u, st3 ed rfl (sg_not u), by omega, by omega, by omega, h3, by omega⟩
      · refine ⟨_, rfl, _, _, rfl, rfl, (by show (0 : Int) < 8; decide), rfl, _, rfl, ifI (fun e5 => ?_) fun e5 => ?_⟩
        · have c : bn % 8 = 3 ∨ bn % 8 = 5 := by omega
          rw [if_pos c] at h3
          refine ⟨_, rfl, _, rfl, ?_⟩
          exact ⟨rfl, g', tm / 2, !u, st3 ed rfl (sg_not u), by omega, by omega, by omega, h3, by omega⟩
        · have c : ¬ (bn % 8 = 3 ∨ bn % 8 = 5) := by omega
          rw [if_neg c] at h3
          exact ⟨rfl, g', tm / 2, u, st3 ed rfl rfl, by omega, by omega, by omega, h3, by omega⟩
    · have e' : ¬ tm % 2 = 0 := by omega
      rw [halve_stop e'] at h3
      have hg := jac_go (f := f') (b := bn) htn h3.symm
      rw [hj] at hg
      have hmod : bn % tm < tm := Nat.mod_lt _ h1
      have em : (bn : Int) % (tm : Int) = ((bn % tm : Nat) : Int) := by omega
      refine ⟨_, rfl, _, _, rfl, rfl, (by show (0 : Int) < 4; decide), rfl, _, rfl, ifI (fun e3 => ?_) fun e3 => ?_⟩
      · refine ⟨_, rfl, _, _, rfl, rfl, (by show (0 : Int) < 4; decide), rfl, _, rfl, ifI (fun e4 => ?_) fun e4 => ?_⟩
        · have c : tm % 4 = 3 ∧ bn % 4 = 3 := by omega
          rw [if_pos c] at hg
          refine ⟨_, rfl, _, rfl, ?_⟩
          refine ⟨_, rfl, _, rfl, _, _, rfl, rfl, (by show (0 : Int) < (tm : Int); omega), _, rfl, _, _, rfl, ?_⟩
          exact ⟨rfl, f', _, tm, !u, st3 em rfl (sg_not u), h1, by omega, hg.symm, by omega⟩
        · have c : ¬ (tm % 4 = 3 ∧ bn % 4 = 3) := by omega
          rw [if_neg c] at hg
          refine ⟨_, rfl, _, rfl, _, _, rfl, rfl, (by show (0 : Int) < (tm : Int); omega), _, rfl, _, _, rfl, ?_⟩
          exact ⟨rfl, f', _, tm, u, st3 em rfl rfl, h1, by omega, hg.symm, by omega⟩
      · have c : ¬ (tm % 4 = 3 ∧ bn % 4 = 3) := by omega
        rw [if_neg c] at hg
        refine iteF ?_
        refine ⟨_, rfl, _, rfl, _, _, rfl, rfl, (by show (0 : Int) < (tm : Int); omega), _, rfl, _, _, rfl, ?_⟩
        exact ⟨rfl, f', _, tm, u, st3 em rfl rfl, h1, by omega, hg.symm, by omega⟩
  · have htn : tn = 0 := by omega
    subst htn
    rw [jac_stop] at hj
    rw [← hj] at q
    dsimp only at q
    refine ⟨_, rfl, rfl, _, rfl, ifI (fun e => ?_) fun e => ?_⟩
    · rw [if_pos (by omega)] at q
      exact ⟨_, rfl, q⟩
    · rw [if_neg (by omega)] at q
      exact q
end
end Ft

namespace Ft
open PySem L2
theorem st4 {a b c d a' b' c' d' : Int} (h1 : a = a') (h2 : b = b') (h3 : c = c') (h4 : d = d') : [some (V.int a), some (V.int b), some (V.int c), some (V.int d)] = [some (V.int a'), some (V.int b'), some (V.int c'), some (V.int d')] := by rw [h1, h2, h3, h4]
theorem cdivN {i : Int} {n : Nat} (h0 : 0 < n) (h : n < 2 ^ 64) : CDivW i (n : Int) := wide_div (b := 64) (by omega) (by omega) (by decide) (by decide)
theorem cmulL {i : Int} {n : Nat} (h : n < 2 ^ 64) : CMul (n : Int) i := .inl ⟨by omega, by omega⟩
theorem cmulR {i : Int} {n : Nat} (h : n < 2 ^ 64) : CMul i (n : Int) := .inr ⟨by omega, by omega⟩
theorem twos_go {z : Int} {f r : Nat} {v : Int} (h : r % 2 = 0) : twos z (f + 1) r v = twos z f (r / 2) (v * z) := by
  show (if r % 2 = 0 then _ else _) = _
  rw [if_pos h]
theorem twos_stop {z : Int} {f r : Nat} {v : Int} (h : ¬ r % 2 = 0) : twos z f r v = (r, v) := by
  cases f with
  | zero => rfl
  | succ f => show (if r % 2 = 0 then _ else _) = _; rw [if_neg h]
theorem valueTwo_le (s : Int) : -1 ≤ valueTwo s ∧ valueTwo s ≤ 1 := by
  unfold valueTwo
  split
  · omega
  · split <;> omega
theorem sqs_go {p f r : Nat} (h : r % (p * p) = 0) : sqs p (f + 1) r = sqs p f (r / (p * p)) := by
  show (if r % (p * p) = 0 then _ else _) = _
  rw [if_pos h]
theorem sqs_stop {p f r : Nat} (h : ¬ r % (p * p) = 0) : sqs p f r = r := by
  cases f with
  | zero => rfl
  | succ f => show (if r % (p * p) = 0 then _ else _) = _; rw [if_neg h]
theorem wsq_stop {f r p : Nat} {b : Int} (h : ¬ p * p * p ≤ r) : wsq f r b p = (r, b) := by
  cases f with
  | zero => rfl
  | succ f => show (if p * p * p ≤ r then _ else _) = _; rw [if_neg h]
theorem wsq_go1 {f r p r1 : Nat} {b : Int} (h : p * p * p ≤ r) (e : sqs p r r = r1) (h1 : r1 % p = 0) : wsq (f + 1) r b p = wsq f (r1 / p) (b * p) (p + 1) := by
  show (if p * p * p ≤ r then _ else _) = _
  rw [if_pos h]
  dsimp only
  rw [e, if_pos h1]
theorem wsq_go2 {f r p r1 : Nat} {b : Int} (h : p * p * p ≤ r) (e : sqs p r r = r1) (h1 : ¬ r1 % p = 0) : wsq (f + 1) r b p = wsq f r1 b (p + 1) := by
  show (if p * p * p ≤ r then _ else _) = _
  rw [if_pos h]
  dsimp only
  rw [e, if_neg h1]
theorem cube_le {p r : Nat} (h : p * p * p ≤ r) (hp : 2 ≤ p) : p < r := by
  have h1 : 2 * p ≤ p * p := Nat.mul_le_mul_right p hp
  have h2 : p * p * 2 ≤ p * p * p := Nat.mul_le_mul_left (p * p) hp
  omega
theorem div_small {r q : Nat} (h : r % q = 0) (hr : 0 < r) (hq : 2 ≤ q) : 0 < r / q ∧ r / q < r := by
  refine ⟨?_, Nat.div_lt_self hr hq⟩
  have e := Nat.div_add_mod r q
  rw [h, Nat.add_zero] at e
  refine Nat.pos_of_ne_zero fun z => ?_
  rw [z, Nat.mul_zero] at e
  omega
theorem sq_small {p : Nat} (h : p ≤ 160001) : p * p < 2 ^ 64 := Nat.lt_of_le_of_lt (Nat.mul_le_mul h h) (by decide)
theorem isqrt_le (n : Nat) : Float64.isqrt n ≤ n := by
  have h := (Float64.isqrt_spec n).1
  rcases Nat.eq_zero_or_pos (Float64.isqrt n) with z | z
  · omega
  · exact Nat.le_trans (Nat.le_mul_of_pos_left _ z) h

section
variable {P : Program} {w : World} {K : PySem.W.Frag} {mg : Str → Option Value} {base : Heap}
theorem ok_value_at (D : Df K mg "value_at" s_value_at ["sign", "n"]) (B : Bi mg) (c_value_at_two : Cal P w K mg base 1 "value_at_two" sp_value_at_two) (c_value_at_odd : Cal P w K mg base 1 "value_at_odd" sp_value_at_odd) : Cal P w K mg base 2 "value_at" sp_value_at := by
  obtain ⟨f, fd, F, m, b⟩ := D.ex
  have sc := sc_value_at
  refine ⟨f, fd, _, F.ok sc sp2_len (fun cdv A outer s H vs Q E hr h => ?_), m, F.kp, b⟩
  obtain ⟨z, n, rfl, hz, q⟩ := h
  replace q : Q (.int (valueAt z n)) H := q
  replace hz : z ≠ 0 := hz
  refine ⟨_, (pss_cons (ps_set (i := 2) sc.nd rfl (Or.inl rfl) (pe_op op_mod (pv 1) (pe_callB call_abs (by rfl) B.abs (by decide +kernel) (pa_cons (pv 0) pa_nil))))
      (pss_cons (ps_if (pt_cmpR op_eq (pv 2) pe_int (nomark _))
      (pss_one (ps_ret (pe_ifExp (pt_cmpR op_eq (pv 0) pe_int (nomark _)) pe_int pe_int)))
      pss_nil)
      (pss_cons (ps_set (i := 3) sc.nd rfl (Or.inl rfl) pe_int)
      (pss_cons (ps_while PassesOwn.never (pt_cmpR op_eq (pe_op op_mod (pv 2) pe_int) pe_int (nomark _))
      (pss_cons (ps_set (i := 2) sc.nd rfl (Or.inl rfl) (pe_op op_fdivW (pv 2) pe_int))
        (pss_one (ps_set (i := 3) sc.nd rfl (Or.inl rfl) (pe_op op_mul (pv 3) (pe_c c_value_at_two hr (by decide) (by rfl) (pa_cons (pv 0) pa_nil)))))))
      (pss_one (ps_ret (pe_op op_mul (pv 3) (pe_c c_value_at_odd hr (by decide) (by rfl) (pa_cons (pv 0) (pa_cons (pv 2) pa_nil)))))))))), ?_⟩
  have ea : (if z < 0 then -z else z) = (z.natAbs : Int) := by split <;> omega
  have hp : (0 : Int) < (z.natAbs : Int) := by omega
  have hm := Int.emod_nonneg n (b := (z.natAbs : Int)) (by omega)
  obtain ⟨r, hrr⟩ : ∃ r : Nat, n % (z.natAbs : Int) = r := ⟨(n % (z.natAbs : Int)).toNat, by omega⟩
  unfold valueAt at q
  rw [hrr, Int.toNat_natCast] at q
  unfold valueRest at q
  refine ⟨_, rfl, _, rfl, z, rfl, n, _, rfl, rfl, (by show 0 < (if z < 0 then -z else z); rw [ea]; exact hp), ?_⟩
  have es : n % (if z < 0 then -z else z) = (r : Int) := by rw [ea]; exact hrr
  refine ⟨_, rfl, rfl, _, rfl, ifI (fun e => ?_) fun e => ?_⟩
  · have r0 : r = 0 := by rw [es] at e; omega
    rw [if_pos r0] at q
    refine ⟨_, rfl, rfl, _, rfl, ifI (fun e2 => ?_) fun e2 => ?_⟩
    · rw [if_pos e2] at q; exact q
    · rw [if_neg e2] at q; exact q
  · have r0 : r ≠ 0 := by rw [es] at e; omega
    rw [if_neg r0] at q
    dsimp only at q
    refine while_go (fun σ H' => H = H' ∧ ∃ (g t : Nat) (v : Int), σ = [some (.int z), some (.int n), some (.int (t : Nat)), some (.int v)] ∧ 0 < t ∧ t ≤ g ∧ -1 ≤ v ∧ v ≤ 1 ∧ twos (valueTwo z) g t v = twos (valueTwo z) r r 1) (fun σ _ => m0 2 σ)
      ⟨rfl, r, r, 1, st4 rfl rfl es rfl, by omega, Nat.le_refl _, by decide, by decide, rfl⟩ ?_
    rintro σ _ ⟨rfl, g, t, v, rfl, h1, h2, h3, h4, h5⟩
    refine ⟨_, rfl, _, _, rfl, rfl, (by show (0 : Int) < 2; decide), rfl, _, rfl, ifI (fun e => ?_) fun e => ?_⟩
    · have e' : t % 2 = 0 := by omega
      obtain ⟨g', rfl⟩ : ∃ n, g = n + 1 := ⟨g - 1, by omega⟩
      rw [twos_go e'] at h5
      refine ⟨fun σ' H' => H = H' ∧ ∃ (g t' : Nat) (v : Int), σ' = [some (.int z), some (.int n), some (.int (t' : Nat)), some (.int v)] ∧ 0 < t' ∧ t' ≤ g ∧ -1 ≤ v ∧ v ≤ 1 ∧ twos (valueTwo z) g t' v = twos (valueTwo z) r r 1 ∧ t' < t, ?_, ?_⟩
      · rintro σ' _ ⟨rfl, g2, t', v', rfl, k1, k2, k3, k4, k5, k6⟩
        exact ⟨_, (by show ((t' : Int)).toNat < ((t : Int)).toNat; omega), rfl, rfl, g2, t', v', rfl, k1, k2, k3, k4, k5⟩
      refine ⟨_, rfl, _, _, rfl, rfl, ⟨by decide, by decide⟩, ?_⟩
      have vt := valueTwo_le z
      have hv : -1 ≤ v * valueTwo z ∧ v * valueTwo z ≤ 1 := by
        obtain h | h | h : v = -1 ∨ v = 0 ∨ v = 1 := by omega
        all_goals (rw [h]; omega)
      refine ⟨_, rfl, _, rfl, z, rfl, trivial, _, _, rfl, rfl, .inl ⟨by omega, by omega⟩, ?_⟩
      exact ⟨rfl, g', t / 2, _, rfl, by omega, by omega, hv.1, hv.2, h5, by omega⟩
    · rw [twos_stop (by omega)] at h5
      rw [← h5] at q
      dsimp only at q
      refine ⟨_, rfl, _, rfl, _, rfl, z, _, rfl, (by show (0 : Int) < (t : Int); omega), _, _, rfl, rfl, .inl ⟨by omega, by omega⟩, ?_⟩
      exact q
theorem ok_without_squares (D : Df K mg "without_squares" s_without_squares ["m"]) (B : Bi mg)  : Cal P w K mg base 1 "without_squares" sp_without_squares := by
  obtain ⟨f, fd, F, m, b⟩ := D.ex
  have sc := sc_without_squares
  refine ⟨f, fd, _, F.ok sc sp1_len (fun cdv A outer s H vs Q E hr h => ?_), m, F.kp, b⟩
  obtain ⟨z, rfl, ⟨hz, hz2⟩, q⟩ := h
  replace q : Q (.int (without z)) H := q
  refine ⟨_, (pss_cons (ps_set (i := 1) sc.nd rfl (Or.inl rfl) (pe_callB call_abs (by rfl) B.abs (by decide +kernel) (pa_cons (pv 0) pa_nil)))
      (pss_cons (ps_set (i := 2) sc.nd rfl (Or.inl rfl) (pe_ifExp (pt_cmpR op_gt (pv 0) pe_int (nomark _)) pe_int (pe_un un_neg pe_int)))
      (pss_cons (ps_set (i := 3) sc.nd rfl (Or.inl rfl) pe_int)
      (pss_cons (ps_while PassesOwn.never (pt_cmpR op_le (pe_op op_mul (pe_op op_mul (pv 3) (pv 3)) (pv 3)) (pv 1) (nomark _))
      (pss_cons (ps_while PassesOwn.never (pt_cmpR op_eq (pe_op op_mod (pv 1) (pe_op op_mul (pv 3) (pv 3))) pe_int (nomark _))
        (pss_one (ps_set (i := 1) sc.nd rfl (Or.inl rfl) (pe_op op_fdivW (pv 1) (pe_op op_mul (pv 3) (pv 3))))))
        (pss_cons (ps_if (pt_cmpR op_eq (pe_op op_mod (pv 1) (pv 3)) pe_int (nomark _))
        (pss_cons (ps_set (i := 1) sc.nd rfl (Or.inl rfl) (pe_op op_fdivW (pv 1) (pv 3)))
          (pss_one (ps_set (i := 2) sc.nd rfl (Or.inl rfl) (pe_op op_mul (pv 2) (pv 3)))))
        pss_nil)
        (pss_one (ps_aug (i := 3) sc.nd rfl (Or.inl rfl) pe_int ip_add)))))
      (pss_cons (ps_set (i := 4) sc.nd rfl (Or.inl rfl) (pe_callBfun cr_isqrt (by rfl) B.isqrt (pa_cons (pv 1) pa_nil)))
      (pss_one (ps_ret (pe_ifExp (pt_cmpR op_eq (pe_op op_mul (pv 4) (pv 4)) (pv 1) (nomark _)) (pv 2) (pe_op op_mul (pv 2) (pv 1)))))))))), ?_⟩
  have ea : (if z < 0 then -z else z) = (z.natAbs : Int) := by split <;> omega
  have st5 : ∀ {b2 c2 d2 b' c' d' : Int} {x : Option V}, b2 = b' → c2 = c' → d2 = d' → [some (V.int z), some (V.int b2), some (V.int c2), some (V.int d2), x] = [some (V.int z), some (V.int b'), some (V.int c'), some (V.int d'), x] := fun h1 h2 h3 => by rw [h1, h2, h3]
  have st5r : ∀ {b2 c2 d2 b' : Int} {x : Option V}, b2 = b' → [some (V.int z), some (V.int b2), some (V.int c2), some (V.int d2), x] = [some (V.int z), some (V.int b'), some (V.int c2), some (V.int d2), x] := fun h1 => by rw [h1]
  unfold without at q
  refine ⟨_, rfl, z, rfl, ?_⟩
  refine ⟨_, rfl, _, _, rfl, rfl, _, rfl, ifD (fun e => ?_) fun e => ⟨_, rfl, ?_⟩⟩
  · rw [if_pos e] at q
    generalize hR : wsq z.natAbs z.natAbs 1 2 = R at q
    dsimp only at q
    refine while_go (fun σ H' => H = H' ∧ ∃ (f r p : Nat) (b : Int), σ = [some (.int z), some (.int (r : Nat)), some (.int b), some (.int (p : Nat)), none] ∧ 0 < r ∧ r ≤ 160000 ∧ 2 ≤ p ∧ p ≤ 160001 ∧ r < f + p ∧ wsq f r b p = R) (fun σ _ => m0 1 σ + 160002 - m0 3 σ)
      ⟨rfl, z.natAbs, z.natAbs, 2, _, st5 ea rfl rfl, by omega, by omega, by decide, by decide, by omega, hR⟩ ?_
    rintro σ _ ⟨rfl, f, r, p, b, rfl, r0, r1, p2, p3, hf, hw⟩
    have hpp := sq_small p3
    have hpl : p < 2 ^ 64 := by omega
    refine ⟨_, rfl, _, rfl, _, _, rfl, rfl, cmulL hpl, _, rfl, _, _, rfl, rfl, cmulR hpl, _, rfl, _, _, rfl, rfl, _, rfl, ifD (fun e => ?_) fun e => ?_⟩
    · have e' : p * p * p ≤ r := Int.ofNat_le.mp e
      have pr := cube_le e' p2
      have pp0 : 0 < p * p := Nat.mul_pos (by omega) (by omega)
      have pp2 : 2 ≤ p * p := Nat.le_trans p2 (Nat.le_mul_of_pos_left _ (by omega))
      obtain ⟨f', rfl⟩ : ∃ n, f = n + 1 := ⟨f - 1, by omega⟩
      refine ⟨fun σ' H' => H = H' ∧ ∃ (f r' p' : Nat) (b : Int), σ' = [some (.int z), some (.int (r' : Nat)), some (.int b), some (.int (p' : Nat)), none] ∧ 0 < r' ∧ r' ≤ 160000 ∧ 2 ≤ p' ∧ p' ≤ 160001 ∧ r' < f + p' ∧ wsq f r' b p' = R ∧ r' ≤ r ∧ p' = p + 1, ?_, ?_⟩
      · rintro σ' _ ⟨rfl, f2, r', p', b', rfl, k1, k2, k3, k4, k5, k6, k7, k8⟩
        exact ⟨_, (by show ((r' : Int)).toNat + 160002 - ((p' : Int)).toNat < ((r : Int)).toNat + 160002 - ((p : Int)).toNat; omega), rfl, rfl, f2, r', p', b', rfl, k1, k2, k3, k4, k5, k6⟩
      refine while_go (fun σ H' => H = H' ∧ ∃ (g t : Nat), σ = [some (.int z), some (.int (t : Nat)), some (.int b), some (.int (p : Nat)), none] ∧ 0 < t ∧ t ≤ g ∧ t ≤ r ∧ sqs p g t = sqs p r r) (fun σ _ => m0 1 σ)
        ⟨rfl, r, r, rfl, r0, Nat.le_refl _, Nat.le_refl _, rfl⟩ ?_
      rintro σ _ ⟨rfl, g, t, rfl, h1, h2, h3, h4⟩
      refine ⟨_, rfl, _, rfl, _, rfl, _, _, rfl, rfl, cmulL hpl, _, _, rfl, rfl, (by show (0 : Int) < ((p * p : Nat) : Int); omega), rfl, _, rfl, ifI (fun em => ?_) fun em => ?_⟩
      · have em' : t % (p * p) = 0 := Int.ofNat.inj em
        obtain ⟨g', rfl⟩ : ∃ n, g = n + 1 := ⟨g - 1, by omega⟩
        rw [sqs_go em'] at h4
        have ds := div_small em' h1 pp2
        refine ⟨fun σ' H' => H = H' ∧ ∃ (g t' : Nat), σ' = [some (.int z), some (.int (t' : Nat)), some (.int b), some (.int (p : Nat)), none] ∧ 0 < t' ∧ t' ≤ g ∧ t' ≤ r ∧ sqs p g t' = sqs p r r ∧ t' < t, ?_, ?_⟩
        · rintro σ' _ ⟨rfl, g2, t', rfl, k1, k2, k3, k4, k5⟩
          exact ⟨_, (by show ((t' : Int)).toNat < ((t : Int)).toNat; omega), rfl, rfl, g2, t', rfl, k1, k2, k3, k4⟩
        refine ⟨_, rfl, _, rfl, _, rfl, _, _, rfl, rfl, cmulL hpl, _, _, rfl, rfl, cdivN pp0 hpp, ?_⟩
        exact ⟨rfl, g', t / (p * p), rfl, ds.1, by omega, by omega, h4, ds.2⟩
      · have em' : ¬ t % (p * p) = 0 := fun z => em (congrArg Int.ofNat z)
        rw [sqs_stop em'] at h4
        refine ⟨_, rfl, _, rfl, _, _, rfl, rfl, (by show (0 : Int) < (p : Int); omega), rfl, _, rfl, ifI (fun ep => ?_) fun ep => ?_⟩
        · have ep' : t % p = 0 := Int.ofNat.inj ep
          have hg := wsq_go1 (f := f') (b := b) e' h4.symm ep'
          rw [hw] at hg
          have ds := div_small ep' h1 p2
          refine ⟨_, rfl, _, rfl, _, _, rfl, rfl, cdivN (by omega) hpl, ?_⟩
          refine ⟨_, rfl, _, rfl, _, _, rfl, rfl, cmulR hpl, ?_⟩
          refine ⟨_, rfl, _, _, rfl, rfl, ?_⟩
          exact ⟨rfl, f', t / p, p + 1, b * p, rfl, ds.1, by omega, by omega, by omega, by omega, hg.symm, by omega, rfl⟩
        · have ep' : ¬ t % p = 0 := fun z => ep (congrArg Int.ofNat z)
          have hg := wsq_go2 (f := f') (b := b) e' h4.symm ep'
          rw [hw] at hg
          refine ⟨_, rfl, _, _, rfl, rfl, ?_⟩
          exact ⟨rfl, f', t, p + 1, b, rfl, h1, by omega, by omega, by omega, by omega, hg.symm, by omega, rfl⟩
    · have e' : ¬ p * p * p ≤ r := fun z => e (Int.ofNat_le.mpr z)
      rw [wsq_stop e'] at hw
      subst hw
      dsimp only at q
      have hi := isqrt_le r
      refine ⟨_, rfl, _, rfl, by omega, by omega, ?_⟩
      refine ⟨_, rfl, _, rfl, _, _, rfl, rfl, cmulL (n := Float64.isqrt r) (by omega), _, rfl, rfl, _, rfl, ifI (fun er => ?_) fun er => ?_⟩
      · rw [if_pos (show Float64.isqrt r * Float64.isqrt r = r from Int.ofNat.inj er)] at q
        exact ⟨_, rfl, q⟩
      · rw [if_neg (show ¬ Float64.isqrt r * Float64.isqrt r = r from fun z => er (congrArg Int.ofNat z))] at q
        exact ⟨_, rfl, _, rfl, _, _, rfl, rfl, cmulR (by omega), q⟩
  · rw [if_neg e] at q
    generalize hR : wsq z.natAbs z.natAbs (-1) 2 = R at q
    dsimp only at q
    refine while_go (fun σ H' => H = H' ∧ ∃ (f r p : Nat) (b : Int), σ = [some (.int z), some (.int (r : Nat)), some (.int b), some (.int (p : Nat)), none] ∧ 0 < r ∧ r ≤ 160000 ∧ 2 ≤ p ∧ p ≤ 160001 ∧ r < f + p ∧ wsq f r b p = R) (fun σ _ => m0 1 σ + 160002 - m0 3 σ)
      ⟨rfl, z.natAbs, z.natAbs, 2, _, st5 ea rfl rfl, by omega, by omega, by decide, by decide, by omega, hR⟩ ?_
    rintro σ _ ⟨rfl, f, r, p, b, rfl, r0, r1, p2, p3, hf, hw⟩
    have hpp := sq_small p3
    have hpl : p < 2 ^ 64 := by omega
    refine ⟨_, rfl, _, rfl, _, _, rfl, rfl, cmulL hpl, _, rfl, _, _, rfl, rfl, cmulR hpl, _, rfl, _, _, rfl, rfl, _, rfl, ifD (fun e => ?_) fun e => ?_⟩
    · have e' : p * p * p ≤ r := Int.ofNat_le.mp e
      have pr := cube_le e' p2
      have pp0 : 0 < p * p := Nat.mul_pos (by omega) (by omega)
      have pp2 : 2 ≤ p * p := Nat.le_trans p2 (Nat.le_mul_of_pos_left _ (by omega))
      obtain ⟨f', rfl⟩ : ∃ n, f = n + 1 := ⟨f - 1, by omega⟩
      refine ⟨fun σ' H' => H = H' ∧ ∃ (f r' p' : Nat) (b : Int), σ' = [some (.int z), some (.int (r' : Nat)), some (.int b), some (.int (p' : Nat)), none] ∧ 0 < r' ∧ r' ≤ 160000 ∧ 2 ≤ p' ∧ p' ≤ 160001 ∧ r' < f + p' ∧ wsq f r' b p' = R ∧ r' ≤ r ∧ p' = p + 1, ?_, ?_⟩
      · rintro σ' _ ⟨rfl, f2, r', p', b', rfl, k1, k2, k3, k4, k5, k6, k7, k8⟩
        exact ⟨_, (by show ((r' : Int)).toNat + 160002 - ((p' : Int)).toNat < ((r : Int)).toNat + 160002 - ((p : Int)).toNat; omega), rfl, rfl, f2, r', p', b', rfl, k1, k2, k3, k4, k5, k6⟩
      refine while_go (fun σ H' => H = H' ∧ ∃ (g t : Nat), σ = [some (.int z), some (.int (t : Nat)), some (.int b), some (.int (p : Nat)), none] ∧ 0 < t ∧ t ≤ g ∧ t ≤ r ∧ sqs p g t = sqs p r r) (fun σ _ => m0 1 σ)
        ⟨rfl, r, r, rfl, r0, Nat.le_refl _, Nat.le_refl _, rfl⟩ ?_
      rintro σ _ ⟨rfl, g, t, rfl, h1, h2, h3, h4⟩
      refine ⟨_, rfl, _, rfl, _, rfl, _, _, rfl, rfl, cmulL hpl, _, _, rfl, rfl, (by show (0 : Int) < ((p * p : Nat) : Int); omega), rfl, _, rfl, ifI (fun em => ?_) fun em => ?_⟩
      · have em' : t % (p * p) = 0 := Int.ofNat.inj em
        obtain ⟨g', rfl⟩ : ∃ n, g = n + 1 := ⟨g - 1, by omega⟩
        rw [sqs_go em'] at h4
        have ds := div_small em' h1 pp2
        refine ⟨fun σ' H' => H = H' ∧ ∃ (g t' : Nat), σ' = [some (.int z), some (.int (t' : Nat)), some (.int b), some (.int (p : Nat)), none] ∧ 0 < t' ∧ t' ≤ g ∧ t' ≤ r ∧ sqs p g t' = sqs p r r ∧ t' < t, ?_, ?_⟩
        · rintro σ' _ ⟨rfl, g2, t', rfl, k1, k2, k3, k4, k5⟩
          exact ⟨_, (by show ((t' : Int)).toNat < ((t : Int)).toNat; omega), rfl, rfl, g2, t', rfl, k1, k2, k3, k4⟩
        refine ⟨_, rfl, _, rfl, _, rfl, _, _, rfl, rfl, cmulL hpl, _, _, rfl, rfl, cdivN pp0 hpp, ?_⟩
        exact ⟨rfl, g', t / (p * p), rfl, ds.1, by omega, by omega, h4, ds.2⟩
      · have em' : ¬ t % (p * p) = 0 := fun z => em (congrArg Int.ofNat z)
        rw [sqs_stop em'] at h4
        refine ⟨_, rfl, _, rfl, _, _, rfl, rfl, (by show (0 : Int) < (p : Int); omega), rfl, _, rfl, ifI (fun ep => ?_) fun ep => ?_⟩
        · have ep' : t % p = 0 := Int.ofNat.inj ep
          have hg := wsq_go1 (f := f') (b := b) e' h4.symm ep'
          rw [hw] at hg
          have ds := div_small ep' h1 p2
          refine ⟨_, rfl, _, rfl, _, _, rfl, rfl, cdivN (by omega) hpl, ?_⟩
          refine ⟨_, rfl, _, rfl, _, _, rfl, rfl, cmulR hpl, ?_⟩
          refine ⟨_, rfl, _, _, rfl, rfl, ?_⟩
          exact ⟨rfl, f', t / p, p + 1, b * p, rfl, ds.1, by omega, by omega, by omega, by omega, hg.symm, by omega, rfl⟩
        · have ep' : ¬ t % p = 0 := fun z => ep (congrArg Int.ofNat z)
          have hg := wsq_go2 (f := f') (b := b) e' h4.symm ep'
          rw [hw] at hg
          refine ⟨_, rfl, _, _, rfl, rfl, ?_⟩
          exact ⟨rfl, f', t, p + 1, b, rfl, h1, by omega, by omega, by omega, by omega, hg.symm, by omega, rfl⟩
    · have e' : ¬ p * p * p ≤ r := fun z => e (Int.ofNat_le.mpr z)
      rw [wsq_stop e'] at hw
      subst hw
      dsimp only at q
      have hi := isqrt_le r
      refine ⟨_, rfl, _, rfl, by omega, by omega, ?_⟩
      refine ⟨_, rfl, _, rfl, _, _, rfl, rfl, cmulL (n := Float64.isqrt r) (by omega), _, rfl, rfl, _, rfl, ifI (fun er => ?_) fun er => ?_⟩
      · rw [if_pos (show Float64.isqrt r * Float64.isqrt r = r from Int.ofNat.inj er)] at q
        exact ⟨_, rfl, q⟩
      · rw [if_neg (show ¬ Float64.isqrt r * Float64.isqrt r = r from fun z => er (congrArg Int.ofNat z))] at q
        exact ⟨_, rfl, _, rfl, _, _, rfl, rfl, cmulR (by omega), q⟩
theorem ok_any_sign_of (D : Df K mg "any_sign_of" s_any_sign_of ["m"]) (c_without_squares : Cal P w K mg base 1 "without_squares" sp_without_squares) : Cal P w K mg base 2 "any_sign_of" sp_any_sign_of := by
  obtain ⟨f, fd, F, m, b⟩ := D.ex
  have sc := sc_any_sign_of
  refine ⟨f, fd, _, F.ok sc sp1_len (fun cdv A outer s H vs Q E hr h => ?_), m, F.kp, b⟩
  obtain ⟨z, rfl, hz, q⟩ := h
  replace q : Q (.int (anySign z)) H := q
  refine ⟨_, (pss_cons (ps_set (i := 1) sc.nd rfl (Or.inl rfl) (pe_c c_without_squares hr (by decide) (by rfl) (pa_cons (pv 0) pa_nil)))
      (pss_one (ps_ret (pe_ifExp (pt_cmpR op_eq (pe_op op_mod (pv 1) pe_int) pe_int (nomark _)) (pv 1) (pe_op op_mul pe_int (pv 1)))))), ?_⟩
  unfold anySign at q
  refine ⟨_, rfl, z, rfl, hz, ?_⟩
  refine ⟨_, rfl, _, _, rfl, rfl, (by show (0 : Int) < 4; decide), rfl, _, rfl, ifI (fun e => ?_) fun e => ?_⟩
  · rw [if_pos e] at q; exact ⟨_, rfl, q⟩
  · rw [if_neg e] at q; exact ⟨_, rfl, _, _, rfl, rfl, .inl ⟨by decide, by decide⟩, q⟩
theorem ok_is_sign (D : Df K mg "is_sign" s_is_sign ["thing"]) (c_any_sign_of : Cal P w K mg base 2 "any_sign_of" sp_any_sign_of) (c_is_between : Cal P w K mg base 2 "is_between" sp_is_between) : Cal P w K mg base 3 "is_sign" sp_is_sign := by
  obtain ⟨f, fd, F, m, b⟩ := D.ex
  have sc := sc_is_sign
  refine ⟨f, fd, _, F.ok sc sp1_len (fun cdv A outer s H vs Q E hr h => ?_), m, F.kp, b⟩
  obtain ⟨z, rfl, _, q⟩ := h
  replace q : Q (.bl (isSign z)) H := q
  refine ⟨_, (pss_one (ps_ret (pe_and (pe_c c_is_between hr (by decide) (by rfl) (pa_cons (pv 0) (pa_cons (pe_un un_neg pe_int) (pa_cons pe_int pa_nil)))) (pe_and (pe_cmpR op_ne (pv 0) pe_int (nomark _)) (pe_one (pe_cmpR op_eq (pe_c c_any_sign_of hr (by decide) (by rfl) (pa_cons (pv 0) pa_nil)) (pv 0) (nomark _))))))), ?_⟩
  unfold isSign at q
  refine ⟨_, rfl, _, rfl, z, -400, 400, rfl, trivial, _, rfl, ?_⟩
  cases e1 : decide (-400 ≤ z)
  · rw [e1] at q; exact iteF q
  · cases e2 : decide (z ≤ 400)
    · rw [e1, e2] at q; exact iteF q
    · rw [e1, e2] at q
      refine iteT ?_
      refine ⟨_, rfl, rfl, _, rfl, ifNI (fun e => ?_) fun e => ?_⟩
      · rw [decide_eq_true e] at q
        have k1 := of_decide_eq_true e1
        have k2 := of_decide_eq_true e2
        refine ⟨_, rfl, z, rfl, ⟨e, by omega⟩, _, rfl, rfl, ?_⟩
        have ee : decide (V.int (anySign z) = V.int z) = decide (anySign z = z) := by
          by_cases h : anySign z = z
          · rw [decide_eq_true h, h]; exact decide_eq_true rfl
          · rw [decide_eq_false h]; exact decide_eq_false fun k => h (V.int.inj k)
        show Q (.bl (decide (V.int (anySign z) = V.int z))) H
        rw [ee]
        exact q
      · rw [show decide (z ≠ 0) = false from decide_eq_false fun k => k e] at q
        exact q
theorem ok_check_sign (D : Df K mg "check_sign" s_check_sign ["sign"]) (c_is_sign : Cal P w K mg base 3 "is_sign" sp_is_sign) : Cal P w K mg base 4 "check_sign" sp_check_sign := by
  obtain ⟨f, fd, F, m, b⟩ := D.ex
  have sc := sc_check_sign
  refine ⟨f, fd, _, F.ok sc sp1_len (fun cdv A outer s H vs Q E hr h => ?_), m, F.kp, b⟩
  obtain ⟨z, rfl, hs, q⟩ := h
  refine ⟨_, (pss_one (ps_if (pt_not (pt_val (pe_c c_is_sign hr (by decide) (by rfl) (pa_cons (pv 0) pa_nil))))
      (pss_one ps_never)
      pss_nil)), ?_⟩
  refine ⟨_, rfl, z, rfl, trivial, _, rfl, ?_⟩
  rw [show isSign z = true from hs]
  exact iteF q
theorem isSign_le {z : Int} (h : isSign z = true) : z.natAbs ≤ 400 ∧ z ≠ 0 ∧ anySign z = z := by
  unfold isSign at h
  simp only [Bool.and_eq_true, decide_eq_true_eq] at h
  omega
theorem fn_sign_at {f : Addr} {fd : FuncData} (F : Fun K "sign_at" "sign_at" s_sign_at f fd) (c_check_sign : Cal P w K mg base 4 "check_sign" sp_check_sign) (c_check_integer : Cal P w K mg base 2 "check_integer" sp_check_integer) (c_value_at : Cal P w K mg base 2 "value_at" sp_value_at) : FnOk P w K mg base CX0 5 f fd ["sign", "n"] sp_sign_at := by
  have sc := sc_sign_at
  refine F.ok sc sp2_len (fun cdv A outer s H vs Q E hr h => ?_)
  obtain ⟨z, n, rfl, hz, q⟩ := h
  have hl := isSign_le hz
  refine ⟨_, (pss_cons (ps_expr (pe_c c_check_sign hr (by decide) (by rfl) (pa_cons (pv 0) pa_nil)))
      (pss_cons (ps_expr (pe_c c_check_integer hr (by decide) (by rfl) (pa_cons (pv 1) pa_nil)))
      (pss_one (ps_ret (pe_c c_value_at hr (by decide) (by rfl) (pa_cons (pv 0) (pa_cons (pv 1) pa_nil))))))), ?_⟩
  refine ⟨_, rfl, z, rfl, hz, ?_⟩
  refine ⟨_, rfl, n, rfl, trivial, ?_⟩
  exact ⟨_, rfl, _, rfl, z, n, rfl, hl.2.1, q⟩
theorem ok_sign_at (D : Df K mg "sign_at" s_sign_at ["sign", "n"]) (c_check_sign : Cal P w K mg base 4 "check_sign" sp_check_sign) (c_check_integer : Cal P w K mg base 2 "check_integer" sp_check_integer) (c_value_at : Cal P w K mg base 2 "value_at" sp_value_at) : Cal P w K mg base 5 "sign_at" sp_sign_at := by
  obtain ⟨f, fd, F, m, b⟩ := D.ex
  exact ⟨f, fd, _, fn_sign_at F c_check_sign c_check_integer c_value_at, m, F.kp, b⟩
theorem mul_le_160000 {a b : Int} (ha : a.natAbs ≤ 400) (hb : b.natAbs ≤ 400) : (a * b).natAbs ≤ 160000 := by
  rw [Int.natAbs_mul]
  exact Nat.mul_le_mul ha hb
theorem ok_joined_sign (D : Df K mg "joined_sign" s_joined_sign ["one", "other"]) (c_check_sign : Cal P w K mg base 4 "check_sign" sp_check_sign) (c_any_sign_of : Cal P w K mg base 2 "any_sign_of" sp_any_sign_of) : Cal P w K mg base 5 "joined_sign" sp_joined_sign := by
  obtain ⟨f, fd, F, m, b⟩ := D.ex
  have sc := sc_joined_sign
  refine ⟨f, fd, _, F.ok sc sp2_len (fun cdv A outer s H vs Q E hr h => ?_), m, F.kp, b⟩
  obtain ⟨x, y, rfl, ⟨hx, hy⟩, q⟩ := h
  have lx := isSign_le hx
  have ly := isSign_le hy
  refine ⟨_, (pss_cons (ps_expr (pe_c c_check_sign hr (by decide) (by rfl) (pa_cons (pv 0) pa_nil)))
      (pss_cons (ps_expr (pe_c c_check_sign hr (by decide) (by rfl) (pa_cons (pv 1) pa_nil)))
      (pss_one (ps_ret (pe_c c_any_sign_of hr (by decide) (by rfl) (pa_cons (pe_op op_mul (pv 0) (pv 1)) pa_nil)))))), ?_⟩
  refine ⟨_, rfl, x, rfl, hx, ?_⟩
  refine ⟨_, rfl, y, rfl, hy, ?_⟩
  exact ⟨_, rfl, _, rfl, _, _, rfl, rfl, .inl ⟨by omega, by omega⟩, _, rfl, ⟨Int.mul_ne_zero lx.2.1 ly.2.1, mul_le_160000 lx.1 ly.1⟩, q⟩
end
end Ft

namespace Ft
open PySem L2
theorem canLay_ints : ∀ ns : List Int, PyData.canLayAll0 (ns.map PyData.int) = true
  | [] => rfl
  | n :: ns => by
    show (true && PyData.canLayAll0 (ns.map PyData.int)) = true
    rw [canLay_ints ns]
    rfl
theorem depth_ints : ∀ ns : List Int, PyData.depthAll (ns.map PyData.int) = 0
  | [] => rfl
  | n :: ns => by
    show max 0 (PyData.depthAll (ns.map PyData.int)) = 0
    rw [depth_ints ns]
    rfl
theorem shaped_ints (ns : List Int) : SeqAt.shaped (.list (ns.map PyData.int)) = true := by
  unfold SeqAt.shaped
  rw [show PyData.canLay0 (.list (ns.map PyData.int)) = true from canLay_ints ns, show PyData.depth (.list (ns.map PyData.int)) = 0 + 1 from by rw [← depth_ints ns]; rfl]
  rfl
section
variable {P : Program} {w : World} {K : PySem.W.Frag} {mg : Str → Option Value} {base : Heap}
theorem ok_draw (D : Df K mg "_law_draw" s__law_draw ["_law_deck_here", "_law_many"]) (B : Bi mg) : Cal P w K mg base 1 "_law_draw" sp_draw := by
  obtain ⟨f, fd, F, m, b⟩ := D.ex
  have sc := sc__law_draw
  refine ⟨f, fd, _, F.ok sc sp_draw_len (fun cdv A outer s H vs Q E hr h => ?_), m, F.kp, b⟩
  obtain ⟨d, l, n, rfl, DK, hn0, hn1, q⟩ := h
  have hu := hu_of hr
  have h64 : (A.deeper (PyProof.Rows.envOfC "_law_draw" (defScope s__law_draw) s.heap.objs.size f cdv)).units + 64 < cLine := by have := hr.un; omega
  refine ⟨_, (pss_cons (ps_dput hu (pv 0) pe_str (pe_op op_add (pe_dget hu (pv 0) pe_str (fun _ _ => rfl)) pe_int) rfl)
      (pss_cons (ps_set (i := 2) sc.nd rfl (Or.inl rfl) (pe_op op_add (pe_dget hu (pv 0) pe_str (fun _ _ => rfl)) (pe_op op_mul pe_int (pe_dget hu (pv 0) pe_str (fun _ _ => rfl)))))
      (pss_cons (ps_if (pt_cmpR (op_neD h64) (pe_dget hu (pv 0) pe_str (fun _ _ => rfl)) (pe_lst pa_nil) (nomark _))
      (pss_cons (ps_set (i := 3) sc.nd rfl (Or.inl rfl) (pe_bm0 PySem.F.plainAttrs_list PySem.F.slot_list_pop PySem.F.type_list_pop mt_pop (pe_dget hu (pv 0) pe_str (fun _ _ => rfl))))
        (pss_cons (ps_if (pt_cmpR op_ge (pv 3) (pe_op op_pow pe_int pe_int) (nomark _))
        (pss_cons (ps_expr (pe_bm PySem.F.plainAttrs_list PySem.F.slot_list_append PySem.F.type_list_append mt_append (pe_dget hu (pv 0) pe_str (fun _ _ => rfl)) (pa_cons (pe_op op_fdivW (pv 3) (pe_callB (call_max2 rfl) (by rfl) B.max_ (by decide +kernel) (pa_cons pe_int (pa_cons (pv 1) pa_nil)))) pa_nil)))
          (pss_one (ps_ret (pe_op op_mod (pe_callTy call_int1 (by rfl) B.int_ (by decide +kernel) (pa_cons (pv 3) pa_nil)) (pv 1)))))
        pss_nil)
        (pss_one (ps_set (i := 2) sc.nd rfl (Or.inl rfl) (pe_op op_add (pv 2) (pe_op op_mod (pe_callTy call_int1 (by rfl) B.int_ (by decide +kernel) (pa_cons (pv 3) pa_nil)) pe_int))))))
      pss_nil)
      (pss_cons (ps_set (i := 2) sc.nd rfl (Or.inl rfl) (pe_op op_mod (pe_callTy call_int1 (by rfl) B.int_ (by decide +kernel) (pa_cons (pe_op op_add (pe_op op_mul (pv 2) pe_int) pe_int) pa_nil)) pe_int))
      (pss_cons (ps_set (i := 2) sc.nd rfl (Or.inl rfl) (pe_op op_mod (pe_callTy call_int1 (by rfl) B.int_ (by decide +kernel) (pa_cons (pe_op op_add (pe_op op_add (pe_op op_mul (pv 2) (pv 2)) (pe_op op_mul pe_int (pe_dget hu (pv 0) pe_str (fun _ _ => rfl)))) pe_int) pa_nil)) pe_int))
      (pss_cons (ps_set (i := 2) sc.nd rfl (Or.inl rfl) (pe_op op_mod (pe_callTy call_int1 (by rfl) B.int_ (by decide +kernel) (pa_cons (pe_op op_mul (pv 2) pe_int) pa_nil)) pe_int))
      (pss_one (ps_ret (pe_op op_mod (pe_callTy call_int1 (by rfl) B.int_ (by decide +kernel) (pa_cons (pe_op op_fdivW (pv 2) pe_int) pa_nil)) (pv 1)))))))))), ?_⟩
  have dl := DK.ne
  obtain ⟨mx, dr, cs, hd, hl, hcs⟩ := DK
  -- draws + 1
  have gd := DGet.k (k := kDraws) hd
  rw [deck_draws] at gd
  have pd := DPut.k (k := kDraws) (v := .int (dr + 1)) hd (Nat.lt_of_le_of_lt (Nat.le_of_eq rfl : (deckL l mx dr).length ≤ 3) (by decide))
  rw [deck_put] at pd
  refine ⟨_, rfl, d, _, rfl, gd, _, _, rfl, rfl, _, rfl, d, _, rfl, pd, ?_⟩
  generalize hH1 : upd H d (.dK (deckL l mx (dr + 1))) = H1
  have hd1 : H1 d = some (.dK (deckL l mx (dr + 1))) := by rw [← hH1]; exact upd_same
  have hl1 : H1 l = some (.lst (cs.map V.int)) := by rw [← hH1, upd_ne dl.symm]; exact hl
  have b1 : But d l H H1 := fun b o e h1 h2 => by rw [← hH1, upd_ne h1]; exact e
  have gd1 := DGet.k (k := kDraws) hd1
  rw [deck_draws] at gd1
  have gm1 := DGet.k (k := kMixed) hd1
  rw [deck_mixed] at gm1
  have gc1 := DGet.k (k := kCells) hd1
  rw [deck_cells] at gc1
  refine ⟨_, rfl, d, _, rfl, gm1, _, rfl, d, _, rfl, gd1, _, _, rfl, rfl, .inl ⟨by decide, by decide⟩, _, _, rfl, rfl, ?_⟩
  dsimp only [gName]
  refine tSeq_join (fun σ H2 => ∃ (z : Int) (o : Option V), σ = [some (.ref d), some (.int n), some (.int z), o] ∧ DeckAt H2 d l ∧ But d l H H2) (fun N hN => ?_) ?_
  · -- if cells != []
    refine ⟨_, rfl, d, _, rfl, gc1, Nat.zero_le _, fun p hp => ?_⟩
    have s2 : Same H1 (upd H1 p (.lst [])) := Same.upd_new hp
    generalize hH2 : upd H1 p (.lst []) = H2 at s2
    have hd2 := s2 _ _ hd1
    have hl2 := s2 _ _ hl1
    have hp2 : H2 p = some (.lst []) := by rw [← hH2]; exact upd_same
    have b2 : But d l H H2 := b1.trans (But.of s2)
    have gc2 := DGet.k (k := kCells) hd2
    rw [deck_cells] at gc2
    refine ⟨_, _, .lst (SqL.of hl2) (dp_ints cs), .lst (SqL.of hp2) .nil, shaped_ints cs, by decide, _, rfl, ?_⟩
    rw [eqv_nil]
    cases hcc : cs with
    | nil =>
      refine iteF ?_
      exact hN _ _ ⟨_, none, rfl, ⟨mx, dr + 1, [], hd2, by rw [hcc] at hl2; exact hl2, by decide⟩, b2⟩
    | cons c0 cr =>
      refine iteT ?_
      -- cell = cells.pop()
      have hlast : ∃ c, (cs.map V.int)[(cs.map V.int).length - 1]? = some (V.int c) := by
        have hn : cs.length - 1 < cs.length := by rw [hcc]; exact Nat.sub_lt (Nat.succ_pos _) (by decide)
        exact ⟨cs[cs.length - 1], by rw [List.length_map, List.getElem?_map, List.getElem?_eq_getElem hn]; rfl⟩
      obtain ⟨c, hlast⟩ := hlast
      have hdrop : (cs.map V.int).dropLast = cs.dropLast.map V.int := by rw [List.map_dropLast]
      have ldrop : cs.dropLast.length ≤ 62 := by rw [List.length_dropLast]; omega
      have hne : l ≠ d := dl.symm
      refine ⟨_, rfl, d, _, rfl, gc2, .inl ⟨rfl, _, SqL.of hl2⟩, l, _, _, rfl, rfl, hl2, hlast, ?_⟩
      rw [hdrop]
      generalize hH3 : upd H2 l (.lst (cs.dropLast.map V.int)) = H3
      have hl3 : H3 l = some (.lst (cs.dropLast.map V.int)) := by rw [← hH3]; exact upd_same
      have hd3 : H3 d = some (.dK (deckL l mx (dr + 1))) := by rw [← hH3, upd_ne dl]; exact hd2
      have b3 : But d l H H3 := b2.trans fun b o e _ h2 => by rw [← hH3, upd_ne h2]; exact e
      have gc3 := DGet.k (k := kCells) hd3
      rw [deck_cells] at gc3
      refine ⟨_, rfl, _, _, rfl, rfl, ⟨by decide, by decide, by decide⟩, _, _, rfl, rfl, _, rfl, ifD (fun hbig => ?_) fun hbig => ?_⟩
      · -- cells.append(cell // max(2, many)); return int(cell) % many
        have hmx : (if n > 2 then n else 2) = max 2 n := by by_cases h : n > 2 <;> simp only [h, if_true, if_false] <;> omega
        refine ⟨_, rfl, d, _, rfl, gc3, .inl ⟨rfl, _, SqL.of hl3⟩, _, rfl, _, rfl, 2, n, rfl, _, _, rfl, rfl, ?_, ?_⟩
        · show CDivW c (if n > 2 then n else 2)
          exact wide_div (b := 64) (by split <;> omega) (by split <;> omega) (by decide) (by decide)
        refine ⟨l, _, _, rfl, rfl, hl3, Nat.lt_of_le_of_lt (by rw [List.length_map]; exact ldrop) (by decide : (62 : Nat) < sizeLine), ?_⟩
        have happ : cs.dropLast.map V.int ++ [V.int (c / (if n > 2 then n else 2))] = (cs.dropLast ++ [c / (if n > 2 then n else 2)]).map V.int := by rw [List.map_append]; rfl
        refine ⟨_, rfl, .inl ⟨c, rfl, ?_⟩⟩
        refine ⟨_, rfl, _, _, rfl, rfl, hn0, ?_⟩
        refine q _ _ ⟨mx, dr + 1, cs.dropLast ++ [c / (if n > 2 then n else 2)], by rw [upd_ne dl]; exact hd3, by rw [upd_same]; exact congrArg (fun z => some (HO.lst z)) happ, by rw [List.length_append]; exact Nat.add_le_add ldrop (Nat.le_refl 1)⟩ (b3.trans fun b o e _ h2 => by rw [upd_ne h2]; exact e) (Int.emod_nonneg _ (by omega)) (Int.emod_lt_of_pos _ hn0)
      · refine ⟨_, rfl, _, rfl, .inl ⟨c, rfl, ?_⟩⟩
        refine ⟨_, _, rfl, rfl, (by show (0 : Int) < 2147483629; decide), _, _, rfl, rfl, ?_⟩
        exact hN _ _ ⟨_, _, rfl, ⟨mx, dr + 1, cs.dropLast, hd3, hl3, Nat.le_trans ldrop (by decide)⟩, b3⟩
  · rintro _ H4 ⟨z, o, rfl, DK4, b4⟩
    obtain ⟨mx, dr, cs, hd4, hl4, hcs4⟩ := id DK4
    have gd4 := DGet.k (k := kDraws) hd4
    rw [deck_draws] at gd4
    refine ⟨_, rfl, _, _, rfl, rfl, .inr ⟨by decide, by decide⟩, _, _, rfl, rfl, .inl ⟨_, rfl, _, _, rfl, rfl, (by show (0 : Int) < 2147483647; decide), ?_⟩⟩
    have y0 := Int.emod_nonneg (z * 39373 + 31) (b := 2147483647) (by decide)
    have y1 := Int.emod_lt_of_pos (z * 39373 + 31) (b := 2147483647) (by decide)
    refine ⟨_, rfl, _, rfl, _, _, rfl, rfl, .inl ⟨by omega, by omega⟩, _, rfl, d, _, rfl, gd4, _, _, rfl, rfl, .inl ⟨by decide, by decide⟩, _, _, rfl, rfl, _, _, rfl, rfl, .inl ⟨_, rfl, _, _, rfl, rfl, (by show (0 : Int) < 2147483587; decide), ?_⟩⟩
    refine ⟨_, rfl, _, _, rfl, rfl, .inr ⟨by decide, by decide⟩, .inl ⟨_, rfl, _, _, rfl, rfl, (by show (0 : Int) < 2147483563; decide), ?_⟩⟩
    refine ⟨_, rfl, _, _, rfl, rfl, ⟨by decide, by decide⟩, .inl ⟨_, rfl, _, rfl, _, _, rfl, rfl, hn0, ?_⟩⟩
    exact q _ _ DK4 b4 (Int.emod_nonneg _ (by omega)) (Int.emod_lt_of_pos _ hn0)
end
end Ft

namespace Ft
open PySem L2
section
variable {P : Program} {w : World} {K : PySem.W.Frag} {mg : Str → Option Value} {base : Heap}
theorem ok_pick (D : Df K mg "_law_pick" s__law_pick ["_law_deck_here", "_law_some"]) (B : Bi mg) (c__law_draw : Cal P w K mg base 1 "_law_draw" sp_draw) : Cal P w K mg base 2 "_law_pick" (sp_pick K) := by
  obtain ⟨f, fd, F, m, b⟩ := D.ex
  have sc := sc__law_pick
  refine ⟨f, fd, _, F.ok sc sp_pick_len (fun cdv A outer s H vs Q E hr h => ?_), m, F.kp, b⟩
  obtain ⟨d, l, p, xs, rfl, DK, hp, h0, h1, q⟩ := h
  refine ⟨_, (pss_one (ps_ret (pe_ix ix_seq (pv 1) (pe_c c__law_draw hr (by decide) (by rfl) (pa_cons (pv 0) (pa_cons (pe_callB call_len_seq (by rfl) B.len_ (by decide +kernel) (pa_cons (pv 1) pa_nil)) pa_nil))) (fun _ _ => rfl)))), ?_⟩
  have hs : SqL K H p xs ∨ SqT K H p xs := hp.imp (fun z => SqL.of z.1) SqT.of
  refine ⟨_, rfl, _, rfl, _, rfl, p, xs, rfl, hs, d, l, _, rfl, DK, by omega, by omega, fun H1 r DK1 b1 r0 r1 => ?_⟩
  obtain ⟨n, rfl⟩ : ∃ n : Nat, r = n := ⟨r.toNat, by omega⟩
  have hn : n < xs.length := by omega
  obtain ⟨mx, dr, cs, hd, hl, _⟩ := DK
  rcases hp with ⟨hp, hpl⟩ | hp
  · have hp1 := b1 _ _ hp (ne_of hp hd (by intro z; cases z)) hpl
    exact .inl ⟨p, xs, _, _, rfl, rfl, SqL.of hp1, atI_nat (List.getElem?_eq_getElem hn), q _ _ DK1 b1 (List.getElem_mem hn)⟩
  · have hp1 := b1 _ _ hp (ne_of hp hd (by intro z; cases z)) (ne_of hp hl (by intro z; cases z))
    exact .inr (.inl ⟨p, xs, _, _, rfl, rfl, SqT.of hp1, atI_nat (List.getElem?_eq_getElem hn), q _ _ DK1 b1 (List.getElem_mem hn)⟩)
theorem ok_deck (D : Df K mg "_law_deck" s__law_deck ["_law_script"]) (B : Bi mg)  : Cal P w K mg base 1 "_law_deck" (sp_deck K) := by
  obtain ⟨f, fd, F, m, b⟩ := D.ex
  have sc := sc__law_deck
  refine ⟨f, fd, _, F.ok sc sp_deck_len (fun cdv A outer s H vs Q E hr h => ?_), m, F.kp, b⟩
  obtain ⟨a, ns, rfl, hS, hlen, q⟩ := h
  have hu := hu_of hr
  refine ⟨_, (pss_cons (ps_set (i := 1) sc.nd rfl (Or.inl rfl) pe_int)
      (pss_cons (ps_for PassesOwn.never rfl (pi_list (pe_slice sl_list (pv 0) po_none (po_some pe_int))) (pg_name (i := 2) sc.nd rfl (Or.inl rfl))
      (pss_one (ps_set (i := 1) sc.nd rfl (Or.inl rfl) (pe_op op_mod (pe_callTy call_int1 (by rfl) B.int_ (by decide +kernel) (pa_cons (pe_op op_add (pe_op op_add (pe_op op_mul (pv 1) pe_int) (pe_op op_mod (pe_callTy call_int1 (by rfl) B.int_ (by decide +kernel) (pa_cons (pv 2) pa_nil)) pe_int)) pe_int) pa_nil)) pe_int))))
      (pss_one (ps_ret (pe_disp (pps_cons pe_str (pe_revL (pe_callTy call_list_of (by rfl) B.list (by decide +kernel) (pa_cons (pe_slice sl_list (pv 0) po_none (po_some pe_int)) pa_nil))) (pps_cons pe_str (pv 1) (pps_cons pe_str pe_int pps_nil))) (by rfl) (by rfl) (fun z => by cases z) (by decide)))))), ?_⟩
  refine ⟨_, rfl, _, rfl, a, _, rfl, hS, fun p hp => ?_⟩
  obtain ⟨ms, hms, lms⟩ := cut_ints ns none (some 63)
  rw [hms]
  have s1 : Same H (upd H p (.lst (ms.map V.int))) := Same.upd_new hp
  generalize hH1 : upd H p (.lst (ms.map V.int)) = H1 at s1
  have hp1 : H1 p = some (.lst (ms.map V.int)) := by rw [← hH1]; exact upd_same
  refine ⟨p, rfl, ⟨_, SqL.of hp1⟩, for_list (K := K) (a := p) (xs := ms.map V.int) (fun i σ H2 => H1 = H2 ∧ ∃ (z : Int) (o : Option V), σ = [some (.ref a), some (.int z), o]) ⟨rfl, _, none, rfl⟩ (fun i σ H2 _ ⟨e, _⟩ => by rw [← e]; exact SqL.of hp1) ?_ ?_⟩
  · rintro i x σ _ hi ⟨rfl, z, o, rfl⟩
    obtain ⟨c, rfl, _⟩ := int_at hi
    refine ⟨_, rfl, _, _, rfl, rfl, .inr ⟨by decide, by decide⟩, _, rfl, .inl ⟨c, rfl, _, _, rfl, rfl, (by show (0 : Int) < 2147483629; decide), _, _, rfl, rfl, _, _, rfl, rfl, .inl ⟨_, rfl, _, _, rfl, rfl, (by show (0 : Int) < 2147483587; decide), ?_⟩⟩⟩
    exact ⟨rfl, _, _, rfl⟩
  · rintro σ _ ⟨rfl, z, o, rfl⟩
    intro d hd
    have s2 : Same H1 (upd H1 d (.dK [])) := Same.upd_new hd
    generalize hH2 : upd H1 d (.dK []) = H2 at s2
    have hd2 : H2 d = some (.dK []) := by rw [← hH2]; exact upd_same
    refine ⟨_, rfl, _, rfl, a, _, rfl, s2.seq (s1.seq hS), fun p2 hp2 => ?_⟩
    rw [hms]
    have s3 : Same H2 (upd H2 p2 (.lst (ms.map V.int))) := Same.upd_new hp2
    generalize hH3 : upd H2 p2 (.lst (ms.map V.int)) = H3 at s3
    have h3 : H3 p2 = some (.lst (ms.map V.int)) := by rw [← hH3]; exact upd_same
    refine ⟨p2, _, rfl, .inl (SqL.of h3), fun p3 hp3 => ?_⟩
    have s4 : Same H3 (upd H3 p3 (.lst (ms.map V.int))) := Same.upd_new hp3
    generalize hH4 : upd H3 p3 (.lst (ms.map V.int)) = H4 at s4
    have h4 : H4 p3 = some (.lst (ms.map V.int)) := by rw [← hH4]; exact upd_same
    refine ⟨p3, _, rfl, SqL.of h4, fun l hl => ?_⟩
    have s5 : Same H4 (upd H4 l (.lst (ms.map V.int).reverse)) := Same.upd_new hl
    generalize hH5 : upd H4 l (.lst (ms.map V.int).reverse) = H5 at s5
    have h5 : H5 l = some (.lst (ms.reverse.map V.int)) := by rw [← hH5, List.map_reverse]; exact upd_same
    have sA := s1.trans (s2.trans (s3.trans (s4.trans s5)))
    have hd5 : H5 d = some (.dK []) := s5 _ _ (s4 _ _ (s3 _ _ hd2))
    have dl : d ≠ l := ne_of hd5 h5 (by intro z; cases z)
    refine ⟨_, rfl, hd5, deckL l z 0, rfl, (by show (3 : Nat) ≤ 15; decide), ?_⟩
    rw [deck_merge]
    have hd0 : H d = none := s1.free hd
    have hl0 : H l = none := s1.free (s2.free (s3.free (s4.free hl)))
    refine q _ d l ⟨z, 0, ms.reverse, upd_same, by rw [upd_ne dl.symm]; exact h5, by rw [List.length_reverse]; omega⟩ (fun b u e => ?_) hd0 hl0
    rw [upd_ne (ne_of_none e hd0)]
    exact sA _ _ e
end
end Ft

namespace Ft
open PySem L2
/-! ### the law's own defs, mirrored -/
def lawBad (n : Int) : Bool := decide (n = 0) || (decide (400 < n.natAbs) || (!decide (n % 4 = 1) && !(decide (n % 16 = 8) || decide (n % 16 = 12))))
def lawM (n : Int) : Int := if n % 4 = 1 then n else n / 4
def lawHit (m : Int) (i : Nat) : Bool := decide (m % (((2 + i) * (2 + i) : Nat) : Int) = 0)
def lawSign (n : Int) : Bool := if lawBad n = true then false else ((List.range 19).filter (lawHit (lawM n))).isEmpty
def lawVal (s n z : Int) : Bool := if Nat.gcd s.natAbs n.natAbs = 1 then decide (z = 1) || decide (z = -1) else decide (z = 0)
def sp_lawSign : Sp := fun vs H Q _ => ∃ n : Int, vs = [.int n] ∧ ∀ H', Same H H' → Q (.bl (lawSign n)) H'
def sp_common : Sp := fun vs H Q _ => ∃ a b : Int, vs = [.int a, .int b] ∧ Q (.int ((Nat.gcd a.natAbs b.natAbs : Nat) : Int)) H
def sp_lawVal : Sp := fun vs H Q _ => ∃ s n z : Int, vs = [.int s, .int n, .int z] ∧ ∀ H', Same H H' → Q (.bl (lawVal s n z)) H'
def sp_number : Sp := fun vs H Q _ => ∃ (d l : Addr), vs = [.ref d] ∧ DeckAt H d l ∧ ∀ (H' : Hp) (r : Int), DeckAt H' d l → But d l H H' → r.natAbs < 2 ^ 90 → Q (.int r) H'
theorem abs_if (z : Int) : (if z < 0 then -z else z) = (z.natAbs : Int) := by split <;> omega
section
variable {P : Program} {w : World} {K : PySem.W.Frag} {mg : Str → Option Value} {base : Heap}
theorem ok_common (D : Df K mg "_law_common" s__law_common ["_law_one", "_law_other"]) (B : Bi mg)  : Cal P w K mg base 1 "_law_common" sp_common := by
  obtain ⟨f, fd, F, m, b⟩ := D.ex
  have sc := sc__law_common
  refine ⟨f, fd, _, F.ok sc (fun _ _ _ _ ⟨_, _, e, _⟩ => by rw [e]; rfl) (fun cdv A outer s H vs Q E hr h => ?_), m, F.kp, b⟩
  obtain ⟨x, y, rfl, q⟩ := h
  refine ⟨_, (pss_cons (ps_par (i := 0) (j := 1) (by rfl) sc.nd rfl rfl (by decide) rfl rfl (pa_cons (pe_callB call_abs (by rfl) B.abs (by decide +kernel) (pa_cons (pv 0) pa_nil)) (pa_cons (pe_callB call_abs (by rfl) B.abs (by decide +kernel) (pa_cons (pv 1) pa_nil)) pa_nil)) (by rfl))
      (pss_cons (ps_while PassesOwn.never (pt_cmpR op_ne (pv 1) pe_int (nomark _))
      (pss_one (ps_par (i := 0) (j := 1) (by rfl) sc.nd rfl rfl (by decide) rfl rfl (pa_cons (pv 1) (pa_cons (pe_op op_mod (pe_callTy call_int1 (by rfl) B.int_ (by decide +kernel) (pa_cons (pv 0) pa_nil)) (pv 1)) pa_nil)) (by rfl))))
      (pss_one (ps_ret (pv 0))))), ?_⟩
  refine ⟨_, rfl, x, rfl, _, rfl, y, rfl, _, _, rfl, ?_⟩
  refine while_go (fun σ H' => H = H' ∧ ∃ a b : Nat, σ = [some (.int (a : Nat)), some (.int (b : Nat))] ∧ Nat.gcd a b = Nat.gcd x.natAbs y.natAbs) (fun σ _ => m0 1 σ)
    ⟨rfl, x.natAbs, y.natAbs, by show [some (V.int (if x < 0 then -x else x)), some (V.int (if y < 0 then -y else y))] = _; rw [abs_if, abs_if], rfl⟩ ?_
  rintro σ _ ⟨rfl, a, b, rfl, hg⟩
  refine ⟨_, rfl, rfl, _, rfl, ifNI (fun hne => ?_) fun he => ?_⟩
  · have hb : 0 < b := by omega
    refine ⟨fun σ' H' => H = H' ∧ ∃ a' b' : Nat, σ' = [some (.int (a' : Nat)), some (.int (b' : Nat))] ∧ Nat.gcd a' b' = Nat.gcd x.natAbs y.natAbs ∧ b' < b, ?_, ?_⟩
    · rintro σ' _ ⟨rfl, a', b', rfl, h1, h2⟩
      exact ⟨_, (by show ((b' : Int)).toNat < ((b : Int)).toNat; omega), rfl, rfl, a', b', rfl, h1⟩
    refine ⟨_, rfl, _, rfl, .inl ⟨_, rfl, _, rfl, _, _, rfl, rfl, (by show (0 : Int) < (b : Int); omega), _, _, rfl, ?_⟩⟩
    refine ⟨rfl, b, a % b, rfl, ?_, Nat.mod_lt _ hb⟩
    rw [← hg, Nat.gcd_comm b, ← Nat.gcd_rec, Nat.gcd_comm]
  · have hb : b = 0 := by omega
    subst hb
    rw [Nat.gcd_zero_right] at hg
    refine ⟨_, rfl, ?_⟩
    rw [hg]
    exact q
theorem ok_lawVal (D : Df K mg "_law_is_value" s__law_is_value ["_law_sign_here", "_law_n", "_law_told"]) (B : Bi mg) (c__law_common : Cal P w K mg base 1 "_law_common" sp_common) : Cal P w K mg base 2 "_law_is_value" sp_lawVal := by
  obtain ⟨f, fd, F, m, b⟩ := D.ex
  have sc := sc__law_is_value
  refine ⟨f, fd, _, F.ok sc (fun _ _ _ _ ⟨_, _, _, e, _⟩ => by rw [e]; rfl) (fun cdv A outer s H vs Q E hr h => ?_), m, F.kp, b⟩
  obtain ⟨x, n, z, rfl, q⟩ := h
  refine ⟨_, (pss_cons (ps_if (PW.pt (pw_or (pt_not (pt_val (pe_callB call_isi (by rfl) B.isinstance (by decide +kernel) (pa_cons (pv 2) (pa_cons (pe_ty (n := "int") (by rfl) B.int_ (by decide +kernel)) pa_nil))))) (pw_or1 (pt_val (pe_callB call_isi (by rfl) B.isinstance (by decide +kernel) (pa_cons (pv 2) (pa_cons (pe_ty (n := "bool") (by rfl) B.bool (by decide +kernel)) pa_nil)))))))
      (pss_one (ps_ret pe_bl))
      pss_nil)
      (pss_one (ps_ret (pe_ifExp (pt_cmpR op_eq (pe_c c__law_common hr (by decide) (by rfl) (pa_cons (pv 0) (pa_cons (pv 1) pa_nil))) pe_int (nomark _)) (pe_cmpR op_in_seq (pv 2) (pe_tup (pa_cons pe_int (pa_cons (pe_un un_neg pe_int) pa_nil))) (by rfl)) (pe_cmpR op_eq (pv 2) pe_int (nomark _)))))), ?_⟩
  refine ⟨_, rfl, _, _, _, _, true, rfl, .ty _, .base (.int z), kit_int_int, true, rfl, iteF ?_⟩
  refine ⟨_, rfl, _, _, _, _, false, rfl, .ty _, .base (.int z), kit_int_bool, false, rfl, iteF ?_⟩
  unfold lawVal at q
  refine ⟨_, rfl, _, rfl, x, n, rfl, rfl, _, rfl, ifI (fun e => ?_) fun e => ?_⟩
  · have e' : Nat.gcd x.natAbs n.natAbs = 1 := by omega
    simp only [if_pos e'] at q
    refine ⟨_, rfl, ⟨_, rfl, by decide, fun p hp => ?_⟩⟩
    refine ⟨p, _, rfl, .inr (SqT.of upd_same), rfl, rfl, ?_⟩
    have ee : inV (V.int z) [V.int 1, V.int (-1)] = (decide (z = 1) || decide (z = -1)) := by
      unfold inV
      simp only [List.any_cons, List.any_nil, eqV, Bool.or_false]
      have h : ∀ a b : Int, (a == b) = decide (b = a) := fun a b => by
        by_cases k : b = a
        · subst k; simp
        · rw [decide_eq_false k]; exact beq_eq_false_iff_ne.mpr (Ne.symm k)
      rw [h, h]
    show Q (.bl (inV (V.int z) [V.int 1, V.int (-1)])) _
    rw [ee]
    exact q _ (Same.upd_new hp)
  · have e' : ¬ Nat.gcd x.natAbs n.natAbs = 1 := by omega
    simp only [if_neg e'] at q
    refine ⟨_, rfl, rfl, ?_⟩
    have ee : decide (V.int z = V.int 0) = decide (z = 0) := by
      by_cases h : z = 0
      · rw [h]; decide
      · rw [decide_eq_false h]; exact decide_eq_false fun k => h (V.int.inj k)
    rw [ee]
    exact q _ (Same.refl H)
theorem ok_number (D : Df K mg "_law_number" s__law_number ["_law_deck_here"]) (B : Bi mg) (c__law_draw : Cal P w K mg base 1 "_law_draw" sp_draw) : Cal P w K mg base 2 "_law_number" sp_number := by
  obtain ⟨f, fd, F, m, b⟩ := D.ex
  have sc := sc__law_number
  refine ⟨f, fd, _, F.ok sc (fun _ _ _ _ ⟨_, _, e, _⟩ => by rw [e]; rfl) (fun cdv A outer s H vs Q E hr h => ?_), m, F.kp, b⟩
  obtain ⟨d, l, rfl, DK, q⟩ := h
  refine ⟨_, (pss_cons (ps_par (i := 1) (j := 2) (by rfl) sc.nd rfl rfl (by decide) rfl rfl (pa_cons (pe_c c__law_draw hr (by decide) (by rfl) (pa_cons (pv 0) (pa_cons pe_int pa_nil))) (pa_cons (pe_c c__law_draw hr (by decide) (by rfl) (pa_cons (pv 0) (pa_cons pe_int pa_nil))) pa_nil)) (by rfl))
      (pss_cons (ps_for PassesOwn.never rfl (pi_range1 rfl B.range (pa_cons (pv 2) pa_nil)) (pg_name (i := 3) sc.nd rfl (Or.inl rfl))
      (pss_one (ps_set (i := 1) sc.nd rfl (Or.inl rfl) (pe_op op_add (pe_op op_mul (pv 1) pe_int) (pe_c c__law_draw hr (by decide) (by rfl) (pa_cons (pv 0) (pa_cons pe_int pa_nil)))))))
      (pss_cons (ps_set (i := 1) sc.nd rfl (Or.inl rfl) (pe_ifExp (pt_cmpR op_eq (pv 2) pe_int (nomark _)) (pe_op op_fdivW (pv 1) pe_int) (pv 1)))
      (pss_one (ps_ret (pe_ifExp (pt_cmpR op_eq (pe_c c__law_draw hr (by decide) (by rfl) (pa_cons (pv 0) (pa_cons pe_int pa_nil))) pe_int (nomark _)) (pv 1) (pe_un un_neg (pv 1)))))))), ?_⟩
  refine ⟨_, rfl, d, l, _, rfl, DK, by decide, by decide, fun H1 r D1 b1 r0 r1 => ?_⟩
  refine ⟨_, rfl, d, l, _, rfl, D1, by decide, by decide, fun H2 t D2 b2 t0 t1 => ?_⟩
  refine ⟨_, _, rfl, ?_⟩
  have b12 := b1.trans b2
  refine ⟨_, rfl, t, rfl, by omega, by omega, for_range (lo := 0) (n := t.toNat) (fun i σ H' => DeckAt H' d l ∧ But d l H H' ∧ i ≤ 3 ∧ ∃ (z : Int) (o : Option V), σ = [some (.ref d), some (.int z), some (.int t), o] ∧ 0 ≤ z ∧ z < 1000000 ^ (i + 1)) ⟨D2, b12, by decide, r, none, rfl, r0, by omega⟩ ?_ ?_⟩
  · rintro i σ H3 hi ⟨D3, b3, hi3, z, o, rfl, z0, z1⟩
    refine ⟨_, rfl, _, _, rfl, rfl, .inr ⟨by decide, by decide⟩, _, rfl, d, l, _, rfl, D3, by decide, by decide, fun H4 y D4 b4 y0 y1 => ?_⟩
    refine ⟨_, _, rfl, rfl, ?_⟩
    refine ⟨D4, b3.trans b4, by omega, _, _, rfl, by omega, ?_⟩
    rw [Int.pow_succ]
    omega
  · rintro σ H3 ⟨D3, b3, hi3, z, o, rfl, z0, z1⟩
    have hz : z < 1000000 ^ 4 := by
      refine Int.lt_of_lt_of_le z1 ?_
      obtain h | h | h | h : t.toNat = 0 ∨ t.toNat = 1 ∨ t.toNat = 2 ∨ t.toNat = 3 := by omega
      all_goals (rw [h]; decide)
    have tail : ∀ u : Int, u.natAbs < 2 ^ 90 → True := fun _ _ => trivial
    refine ⟨_, rfl, rfl, _, rfl, ifI (fun e => ?_) fun e => ?_⟩
    · refine ⟨_, rfl, _, _, rfl, rfl, ⟨by decide, by decide⟩, ?_⟩
      refine ⟨_, rfl, d, l, _, rfl, D3, by decide, by decide, fun H4 y D4 b4 y0 y1 => ?_⟩
      refine ⟨rfl, _, rfl, ifI (fun e2 => ?_) fun e2 => ?_⟩
      · exact ⟨_, rfl, q _ _ D4 (b3.trans b4) (by omega)⟩
      · exact ⟨_, rfl, _, rfl, q _ _ D4 (b3.trans b4) (by omega)⟩
    · refine ⟨_, rfl, ?_⟩
      refine ⟨_, rfl, d, l, _, rfl, D3, by decide, by decide, fun H4 y D4 b4 y0 y1 => ?_⟩
      refine ⟨rfl, _, rfl, ifI (fun e2 => ?_) fun e2 => ?_⟩
      · exact ⟨_, rfl, q _ _ D4 (b3.trans b4) (by omega)⟩
      · exact ⟨_, rfl, _, rfl, q _ _ D4 (b3.trans b4) (by omega)⟩
end
end Ft

namespace Ft
open PySem L2
theorem app_some {α : Type} (xs : List α) (x : α) : (xs ++ [x]).isEmpty = false := by cases xs <;> rfl
theorem sign_check : (List.range 805).all (fun i => !(lawSign ((i : Int) - 402)) || isSign ((i : Int) - 402)) = true := by decide +kernel
theorem lawSign_isSign {z : Int} (h : z.natAbs ≤ 402) (hs : lawSign z = true) : isSign z = true := by
  have c := List.all_eq_true.mp sign_check (z + 402).toNat (List.mem_range.mpr (by omega))
  have e : (((z + 402).toNat : Nat) : Int) - 402 = z := by omega
  rw [e, hs] at c
  exact c
section
variable {P : Program} {w : World} {K : PySem.W.Frag} {mg : Str → Option Value} {base : Heap}
theorem ok_lawSign (D : Df K mg "_law_is_sign" s__law_is_sign ["_law_number_here"]) (B : Bi mg) : Cal P w K mg base 1 "_law_is_sign" sp_lawSign := by
  obtain ⟨f, fd, F, m, b⟩ := D.ex
  have sc := sc__law_is_sign
  refine ⟨f, fd, _, F.ok sc (fun _ _ _ _ ⟨_, e, _⟩ => by rw [e]; rfl) (fun cdv A outer s H vs Q E hr h => ?_), m, F.kp, b⟩
  obtain ⟨n, rfl, q⟩ := h
  have h64 : (A.deeper (PyProof.Rows.envOfC "_law_is_sign" (defScope s__law_is_sign) s.heap.objs.size f cdv)).units + 64 < cLine := by have := hr.un; omega
  refine ⟨_, (pss_cons (ps_if (PW.pt (pw_or (pt_cmpR op_eq (pv 0) pe_int (nomark _)) (pw_or (pt_cmpR op_gt (pe_callB call_abs (by rfl) B.abs (by decide +kernel) (pa_cons (pv 0) pa_nil)) pe_int (nomark _)) (pw_or1 (PW.pt (pw_and (pt_cmpR op_ne (pe_op op_mod (pe_callTy call_int1 (by rfl) B.int_ (by decide +kernel) (pa_cons (pv 0) pa_nil)) pe_int) pe_int (nomark _)) (pw_and1 (pt_cmpR op_notIn_seq (pe_op op_mod (pe_callTy call_int1 (by rfl) B.int_ (by decide +kernel) (pa_cons (pv 0) pa_nil)) pe_int) (pe_tup (pa_cons pe_int (pa_cons pe_int pa_nil))) (by rfl)))))))))
      (pss_one (ps_ret pe_bl))
      pss_nil)
      (pss_cons (ps_set (i := 1) sc.nd rfl (Or.inr rfl) (pe_ifExp (pt_cmpR op_eq (pe_op op_mod (pe_callTy call_int1 (by rfl) B.int_ (by decide +kernel) (pa_cons (pv 0) pa_nil)) pe_int) pe_int (nomark _)) (pv 0) (pe_op op_fdivW (pv 0) pe_int)))
      (pss_one (ps_ret (pe_cmpR (op_eqD h64) (pe_lc (own := [("_law_k", 2)]) (g := gName 2)  (by rfl) sc.nd (pi_range2 (by rfl) B.range (pa_cons pe_int (pa_cons pe_int pa_nil))) (blkOk_by (own := [("_law_k", 2)]) (N := N__law_is_sign) (sc := defScope s__law_is_sign) (by decide +kernel)) (fun _ _ _ _ _ => (pg_name (i := 2) sc.nd rfl (Or.inl rfl))) (fun _ _ _ _ _ => (pts_one (pt_cmpR op_eq (pe_op op_mod (pe_callTy call_int1 (by rfl) B.int_ (by decide +kernel) (pa_cons (pv 1) pa_nil)) (pe_op op_mul (pv 2) (pv 2))) pe_int (nomark _)))) (fun _ _ _ _ _ => (pv 2))) (pe_lst pa_nil) (nomark _)))))), ?_⟩
  -- behind the first test
  have rest : ∀ H1 : Hp, Same H H1 → lawBad n = false → (∀ H', Same H1 H' → Q (.bl (((List.range 19).filter (lawHit (lawM n))).isEmpty)) H') := fun H1 s1 hb H' s2 => by
    have e := q H' (s1.trans s2)
    unfold lawSign at e
    rw [if_neg (by rw [hb]; decide)] at e
    exact e
  have bad : ∀ H1 : Hp, Same H H1 → lawBad n = true → Q (.bl false) H1 := fun H1 s1 hb => by
    have e := q H1 s1
    unfold lawSign at e
    rw [if_pos hb] at e
    exact e
  refine tSeq_join (fun σ H1 => σ = [some (.int n), none, none] ∧ Same H H1 ∧ lawBad n = false) (fun N hN => ?_) ?_
  · refine ⟨_, rfl, rfl, _, rfl, ifI (fun e => ?_) fun e => ?_⟩
    · refine bad H (Same.refl H) ?_
      unfold lawBad
      rw [decide_eq_true e, Bool.true_or]
    have e1 : decide (n = 0) = false := decide_eq_false e
    refine ⟨_, rfl, n, rfl, _, _, rfl, rfl, _, rfl, ifD (fun e => ?_) fun e => ?_⟩
    · refine bad H (Same.refl H) ?_
      rw [abs_if] at e
      unfold lawBad
      rw [e1, decide_eq_true (show 400 < n.natAbs by omega), Bool.true_or, Bool.or_true]
    rw [abs_if] at e
    have e2 : decide (400 < n.natAbs) = false := decide_eq_false (by omega)
    refine ⟨_, rfl, .inl ⟨n, rfl, _, _, rfl, rfl, (by show (0 : Int) < 4; decide), rfl, _, rfl, ifNI (fun e => ?_) fun e => ?_⟩⟩
    · have e3 : decide (n % 4 = 1) = false := decide_eq_false e
      refine ⟨_, rfl, .inl ⟨n, rfl, _, _, rfl, rfl, (by show (0 : Int) < 16; decide), (by decide), fun p hp => ?_⟩⟩
      refine ⟨p, _, rfl, .inr (SqT.of upd_same), rfl, rfl, _, rfl, ?_⟩
      have ee : inV (V.int (n % 16)) [V.int 8, V.int 12] = (decide (n % 16 = 8) || decide (n % 16 = 12)) := by
        unfold inV
        simp only [List.any_cons, List.any_nil, eqV, Bool.or_false]
        have h : ∀ a b : Int, (a == b) = decide (b = a) := fun a b => by
          by_cases k : b = a
          · subst k; simp
          · rw [decide_eq_false k]; exact beq_eq_false_iff_ne.mpr (Ne.symm k)
        rw [h, h]
      show if (!inV (V.int (n % 16)) [V.int 8, V.int 12]) = true then _ else _
      rw [ee]
      have s1 : Same H (upd H p (.tup [V.int 8, V.int 12])) := Same.upd_new hp
      cases hc : (decide (n % 16 = 8) || decide (n % 16 = 12)) with
      | false =>
        refine iteT ?_
        refine bad _ s1 ?_
        unfold lawBad
        rw [e1, e2, e3, hc]
        rfl
      | true =>
        refine iteF ?_
        refine hN _ _ ⟨rfl, s1, ?_⟩
        unfold lawBad
        rw [e1, e2, e3, hc]
        rfl
    · have e3 : decide (n % 4 = 1) = true := decide_eq_true e
      refine iteF ?_
      refine hN _ _ ⟨rfl, Same.refl H, ?_⟩
      unfold lawBad
      rw [e1, e2, e3]
      rfl
  · rintro _ H1 ⟨rfl, s1, hb⟩
    have rest1 := rest H1 s1 hb
    refine tSeq_join (fun σ H2 => H1 = H2 ∧ σ = [some (.int n), some (.int (lawM n)), none]) (fun N hN => ?_) ?_
    · unfold lawM at hN
      refine ⟨_, rfl, .inl ⟨n, rfl, _, _, rfl, rfl, (by show (0 : Int) < 4; decide), rfl, _, rfl, ifI (fun e => ?_) fun e => ?_⟩⟩
      · rw [if_pos e] at hN
        exact ⟨_, rfl, hN _ _ ⟨rfl, rfl⟩⟩
      · rw [if_neg e] at hN
        exact ⟨_, rfl, _, _, rfl, rfl, ⟨by decide, by decide⟩, hN _ _ ⟨rfl, rfl⟩⟩
    · rintro _ _ ⟨rfl, rfl⟩
      refine ⟨2, 21, rfl, (by decide), fun D hD => ?_⟩
      refine lc_range (lo := 2) (n := 19) (fun i H' => Same H1 H' ∧ ∃ acc : List Int, H' D = some (.lst (acc.map V.int)) ∧ acc.length ≤ i ∧ acc.isEmpty = ((List.range i).filter (lawHit (lawM n))).isEmpty) ⟨Same.upd_new hD, [], upd_same, Nat.le_refl _, rfl⟩ ?_ ?_
      · rintro i H' hi ⟨s2, acc, hacc, hl, he⟩
        refine ⟨rfl, ?_⟩
        have hrange : (List.range (i + 1)).filter (lawHit (lawM n)) = (List.range i).filter (lawHit (lawM n)) ++ if lawHit (lawM n) i = true then [i] else [] := by
          rw [List.range_succ, List.filter_append]
          congr 1
          cases h : lawHit (lawM n) i <;> simp [h]
        have hk : (2 : Int) + (i : Int) = ((2 + i : Nat) : Int) := by omega
        have hkk : ((2 : Int) + (i : Int)) * ((2 : Int) + (i : Int)) = (((2 + i) * (2 + i) : Nat) : Int) := by rw [hk]; rfl
        have hpos : 0 < (2 + i) * (2 + i) := Nat.mul_pos (by omega) (by omega)
        refine ⟨_, rfl, .inl ⟨_, rfl, _, rfl, _, rfl, _, _, rfl, rfl, .inl ⟨by omega, by omega⟩, _, _, rfl, rfl, (by show (0 : Int) < ((2 : Int) + (i : Int)) * ((2 : Int) + (i : Int)); rw [hkk]; omega), rfl, _, rfl, ifI (fun e => ?_) fun e => ?_⟩⟩
        · rw [hkk] at e
          have hh : lawHit (lawM n) i = true := decide_eq_true e
          refine ⟨_, rfl, acc.map V.int, hacc, Nat.lt_of_le_of_lt (by rw [List.length_map]; omega : (acc.map V.int).length ≤ 19) (by decide), ?_⟩
          refine ⟨fun b u e2 => ?_, acc ++ [(2 : Int) + (i : Int)], by rw [upd_same, List.map_append]; rfl, by rw [List.length_append]; exact Nat.add_le_add hl (Nat.le_refl 1), ?_⟩
          · rw [upd_ne (ne_of_none e2 hD)]
            exact s2 _ _ e2
          · rw [hrange, hh, if_pos rfl, app_some, app_some]
        · rw [hkk] at e
          have hh : lawHit (lawM n) i = false := decide_eq_false e
          refine ⟨s2, acc, hacc, by omega, ?_⟩
          rw [hrange, hh, if_neg Bool.false_ne_true, List.append_nil]
          exact he
      · rintro H' ⟨s2, acc, hacc, hl, he⟩
        refine ⟨Nat.zero_le _, fun p hp => ?_⟩
        have s3 : Same H' (upd H' p (.lst [])) := Same.upd_new hp
        have hacc2 := s3 _ _ hacc
        refine ⟨_, _, .lst (SqL.of hacc2) (dp_ints acc), .lst (SqL.of upd_same) .nil, shaped_ints acc, by decide, ?_⟩
        rw [eqv_nil, List.isEmpty_map, he]
        exact rest1 _ (s2.trans s3)
/-- a sign of the law is one of the program -/
def sp_sign : Sp := fun vs H Q _ => ∃ (d l : Addr), vs = [.ref d] ∧ DeckAt H d l ∧ ∀ (H' : Hp) (z : Int), DeckAt H' d l → But d l H H' → isSign z = true → Q (.int z) H'
theorem ok_sign (D : Df K mg "_law_sign" s__law_sign ["_law_deck_here"]) (B : Bi mg) (c__law_draw : Cal P w K mg base 1 "_law_draw" sp_draw) (c__law_pick : Cal P w K mg base 2 "_law_pick" (sp_pick K)) (c__law_is_sign : Cal P w K mg base 1 "_law_is_sign" sp_lawSign) : Cal P w K mg base 3 "_law_sign" sp_sign := by
  obtain ⟨f, fd, F, m, b⟩ := D.ex
  have sc := sc__law_sign
  refine ⟨f, fd, _, F.ok sc (fun _ _ _ _ ⟨_, _, e, _⟩ => by rw [e]; rfl) (fun cdv A outer s H vs Q E hr h => ?_), m, F.kp, b⟩
  obtain ⟨d, l, rfl, DK, q⟩ := h
  refine ⟨_, (pss_cons (ps_if (pt_cmpR op_eq (pe_c c__law_draw hr (by decide) (by rfl) (pa_cons (pv 0) (pa_cons pe_int pa_nil))) pe_int (nomark _))
      (pss_one (ps_ret (pe_c c__law_pick hr (by decide) (by rfl) (pa_cons (pv 0) (pa_cons (pe_lst (pa_cons pe_int (pa_cons (pe_un un_neg pe_int) (pa_cons (pe_un un_neg pe_int) (pa_cons pe_int (pa_cons (pe_un un_neg pe_int) (pa_cons pe_int (pa_cons (pe_un un_neg pe_int) (pa_cons pe_int (pa_cons pe_int (pa_cons (pe_un un_neg pe_int) (pa_cons pe_int pa_nil)))))))))))) pa_nil)))))
      pss_nil)
      (pss_cons (ps_set (i := 1) sc.nd rfl (Or.inl rfl) (pe_op op_sub (pe_c c__law_draw hr (by decide) (by rfl) (pa_cons (pv 0) (pa_cons pe_int pa_nil))) pe_int))
      (pss_cons (ps_for PassesOwn.never rfl (pi_range1 rfl B.range (pa_cons pe_int pa_nil)) (pg_name (i := 2) sc.nd rfl (Or.inl rfl))
      (pss_one (ps_if (pt_val (pe_c c__law_is_sign hr (by decide) (by rfl) (pa_cons (pe_op op_add (pv 1) (pv 2)) pa_nil)))
        (pss_one (ps_ret (pe_op op_add (pv 1) (pv 2))))
        pss_nil)))
      (pss_one (ps_ret pe_int))))), ?_⟩
  refine ⟨_, rfl, d, l, _, rfl, DK, by decide, by decide, fun H1 r D1 b1 r0 r1 => ?_⟩
  refine ⟨rfl, _, rfl, ifI (fun e => ?_) fun e => ?_⟩
  · refine ⟨_, rfl, ?_⟩
    refine ⟨_, rfl, _, rfl, _, rfl, _, rfl, _, rfl, (by decide), fun p hp => ?_⟩
    have n1 := D1.new hp
    refine ⟨d, l, p, _, rfl, D1.same (Same.upd_new hp), .inl ⟨upd_same, n1.2⟩, (by show 0 < 11; decide), (by show 11 < 2 ^ 64; decide), fun H2 v D2 b2 hv => ?_⟩
    have hz : ∃ z : Int, v = .int z ∧ isSign z = true := by
      simp only [List.mem_cons, List.not_mem_nil, or_false] at hv
      rcases hv with h | h | h | h | h | h | h | h | h | h | h <;> exact ⟨_, h, by decide +kernel⟩
    obtain ⟨z, rfl, hz⟩ := hz
    exact q _ z D2 ((b1.trans (But.of (Same.upd_new hp))).trans b2) hz
  · refine ⟨_, rfl, d, l, _, rfl, D1, by decide, by decide, fun H2 t D2 b2 t0 t1 => ?_⟩
    refine ⟨_, _, rfl, rfl, ?_⟩
    have b12 := b1.trans b2
    refine ⟨6, rfl, by decide, by decide, for_range (lo := 0) (n := 6) (fun i σ H' => DeckAt H' d l ∧ But d l H H' ∧ ∃ (o : Option V), σ = [some (.ref d), some (.int (t - 400)), o]) ⟨D2, b12, none, rfl⟩ ?_ ?_⟩
    · rintro i σ H3 hi ⟨D3, b3, o, rfl⟩
      refine ⟨_, rfl, _, rfl, _, _, rfl, rfl, _, rfl, fun H4 s4 => ⟨_, rfl, ?_⟩⟩
      cases hs : lawSign (t - 400 + (0 + (i : Int))) with
      | true =>
        refine iteT ?_
        refine ⟨_, rfl, _, rfl, _, _, rfl, rfl, ?_⟩
        exact q _ _ (D3.same s4) (b3.trans (But.of s4)) (lawSign_isSign (by omega) hs)
      | false =>
        refine iteF ?_
        exact ⟨D3.same s4, b3.trans (But.of s4), _, rfl⟩
    · rintro σ H3 ⟨D3, b3, o, rfl⟩
      exact q _ 1 D3 b3 (by decide +kernel)
end
end Ft

namespace Ft
open PySem L2
/-- what is true of the values of a sign -/
structure Chr (s : Int) : Prop where
  val : ∀ n : Int, lawVal s n (valueAt s n) = true
  mul : ∀ m n : Int, valueAt s m * valueAt s n = valueAt s (m * n)
  neg : ∀ n : Int, valueAt s (-n) = valueAt s n * (if 0 < s then 1 else -1)
  sum : ((List.range s.natAbs).map fun n : Nat => valueAt s (n : Int)).sum = if s = 1 then 1 else 0
def sp_period : Sp := fun vs H Q _ => ∃ s : Int, vs = [.int s] ∧ isSign s = true ∧ Chr s ∧ ∀ H', Same H H' → Q (.bl true) H'
theorem eqv_same (d : PyData) (h : SeqAt.shaped d = true) : PyData.eqv d d = true := SeqAt.eqv_refl d (SeqAt.canLay_of_shaped h)
theorem vals_range (s : Int) (g : Nat → Int) (i : Nat) : (List.range (i + 1)).map (fun n : Nat => V.int (g n)) = (List.range i).map (fun n : Nat => V.int (g n)) ++ [V.int (g i)] := by
  rw [List.range_succ, List.map_append]
  rfl
section
variable {P : Program} {w : World} {K : PySem.W.Frag} {mg : Str → Option Value} {base : Heap}
theorem ok_period (D : Df K mg "_law_is_period" s__law_is_period ["_law_sign_here"]) (B : Bi mg) (c_sign_at : Cal P w K mg base 5 "sign_at" sp_sign_at) (c__law_is_value : Cal P w K mg base 2 "_law_is_value" sp_lawVal) : Cal P w K mg base 6 "_law_is_period" sp_period := by
  obtain ⟨f, fd, F, m, b⟩ := D.ex
  have sc := sc__law_is_period
  refine ⟨f, fd, _, F.ok sc (fun _ _ _ _ ⟨_, e, _⟩ => by rw [e]; rfl) (fun cdv A outer s H vs Q E hr h => ?_), m, F.kp, b⟩
  obtain ⟨z, rfl, hz, C, q⟩ := h
  have h64 : (A.deeper (PyProof.Rows.envOfC "_law_is_period" (defScope s__law_is_period) s.heap.objs.size f cdv)).units + 64 < cLine := by have := hr.un; omega
  have hl := isSign_le hz
  refine ⟨_, (pss_cons (ps_set (i := 1) sc.nd rfl (Or.inl rfl) (pe_callB call_abs (by rfl) B.abs (by decide +kernel) (pa_cons (pv 0) pa_nil)))
      (pss_cons (ps_setLc (i := 3) (own := [("_law_n", 2)]) (g := gName 2) (tt := tYes) (by rfl) sc.nd rfl rfl (sw_true rfl rfl rfl (by decide +kernel)) (pi_range1 rfl B.range (pa_cons (pv 1) pa_nil)) (blkOk_by (own := [("_law_n", 2)]) (N := N__law_is_period) (sc := defScope s__law_is_period) (by decide +kernel)) (fun _ _ _ _ _ => (pg_name (i := 2) sc.nd rfl (Or.inl rfl))) (fun _ _ _ _ _ => pts_nil) (fun _ _ _ _ _ => (pe_c c_sign_at hr (by decide) (by rfl) (pa_cons (pv 0) (pa_cons (pv 2) pa_nil)))))
      (pss_cons (ps_if (pt_cmpR (op_neD h64) (pe_lc (own := [("_law_n", 2), ("_law_value", 4)]) (g := gTup K 2 (gCons (gName 2) (gCons (gName 4) gNil))) (by rfl) sc.nd (pi_enum (by rfl) B.enumerate (pa_cons (pv 3) pa_nil)) (blkOk_by (own := [("_law_n", 2), ("_law_value", 4)]) (N := N__law_is_period) (sc := defScope s__law_is_period) (by decide +kernel)) (fun _ _ _ _ _ => (pg_tup rfl (pgs_cons (pg_name (i := 2) sc.nd rfl (Or.inl rfl) (Or.inr rfl)) (pgs_cons (pg_name (i := 4) sc.nd rfl (Or.inl rfl) (Or.inr rfl)) pgs_nil)))) (fun _ _ _ _ _ => (pts_one (pt_not (pt_val (pe_c c__law_is_value hr (by decide) (by rfl) (pa_cons (pv 0) (pa_cons (pv 2) (pa_cons (pv 4) pa_nil)))))))) (fun _ _ _ _ _ => (pv 2))) (pe_lst pa_nil) (nomark _))
      (pss_one (ps_ret pe_bl))
      pss_nil)
      (pss_cons (ps_if (pt_cmpR op_ne (pe_callB (cr_sum rfl) (by rfl) B.sum (by decide +kernel) (pa_cons (pv 3) pa_nil)) (pe_ifExp (pt_cmpR op_eq (pv 0) pe_int (nomark _)) pe_int pe_int) (nomark _))
      (pss_one (ps_ret pe_bl))
      pss_nil)
      (pss_cons (ps_setLc (i := 5) (own := [("_law_n", 2)]) (g := gName 2) (tt := tYes) (by rfl) sc.nd rfl rfl (sw_true rfl rfl rfl (by decide +kernel)) (pi_range1 rfl B.range (pa_cons (pv 1) pa_nil)) (blkOk_by (own := [("_law_n", 2)]) (N := N__law_is_period) (sc := defScope s__law_is_period) (by decide +kernel)) (fun _ _ _ _ _ => (pg_name (i := 2) sc.nd rfl (Or.inl rfl))) (fun _ _ _ _ _ => pts_nil) (fun _ _ _ _ _ => (pe_c c_sign_at hr (by decide) (by rfl) (pa_cons (pv 0) (pa_cons (pe_un un_neg (pv 2)) pa_nil)))))
      (pss_one (ps_ret (pe_cmpR (op_eqD h64) (pv 5) (pe_lc (own := [("_law_value", 4)]) (g := gName 4) (tt := tYes) (by rfl) sc.nd (pi_list (pv 3)) (blkOk_by (own := [("_law_value", 4)]) (N := N__law_is_period) (sc := defScope s__law_is_period) (by decide +kernel)) (fun _ _ _ _ _ => (pg_name (i := 4) sc.nd rfl (Or.inl rfl))) (fun _ _ _ _ _ => pts_nil) (fun _ _ _ _ _ => (pe_ifExp (pt_cmpR op_gt (pv 0) pe_int (nomark _)) (pv 4) (pe_un un_neg (pv 4))))) (nomark _))))))))), ?_⟩
  have hN : z.natAbs ≤ 400 := hl.1
  generalize hm : z.natAbs = N at hN
  have ea : (if z < 0 then -z else z) = (N : Int) := by rw [abs_if, hm]
  have vlen : ∀ (g : Nat → Int) (i : Nat), i ≤ N → ((List.range i).map (fun n : Nat => V.int (g n))).length < sizeLine := fun g i hi => by
    rw [List.length_map, List.length_range]
    exact Nat.lt_of_le_of_lt (Nat.le_trans hi hN) (by decide)
  refine ⟨_, rfl, z, rfl, ?_⟩
  refine ⟨_, rfl, _, rfl, (by rw [ea]; omega), (by rw [ea]; omega), ?_⟩
  rw [ea]
  intro D1 hD1
  have e1 : ((N : Int)).toNat = N := by omega
  refine lc_range (lo := 0) (n := ((N : Int)).toNat) (fun i H' => Same H H' ∧ H' D1 = some (.lst ((List.range i).map fun n : Nat => V.int (valueAt z (n : Int))))) ⟨Same.upd_new hD1, upd_same⟩ ?_ ?_
  · rintro i H1 hi ⟨s1, h1⟩
    refine ⟨rfl, ?_⟩
    refine ⟨_, rfl, _, rfl, z, _, rfl, hz, _, h1, vlen (fun n => valueAt z n) i (by omega), fun b o e => ?_, ?_⟩
    · rw [upd_ne (ne_of_none e hD1)]
      exact s1 _ _ e
    · rw [upd_same, vals_range z (fun n => valueAt z n)]
      show some (HO.lst (_ ++ [V.int (valueAt z (0 + (i : Int)))])) = _
      rw [Int.zero_add]
  rintro H1 ⟨s1, h1⟩
  rw [e1] at h1
  -- if [.. enumerate ..] != []
  refine ⟨_, rfl, D1, _, rfl, SqL.of h1, fun D2 hD2 => ?_⟩
  have hlen1 : ((List.range N).map fun n : Nat => V.int (valueAt z (n : Int))).length = N := by rw [List.length_map, List.length_range]
  refine lc_it (walk_enum (xs := (List.range N).map fun n : Nat => V.int (valueAt z (n : Int)))) (fun i H' => Same H1 H' ∧ H' D2 = some (.lst [])) ⟨Same.upd_new hD2, upd_same⟩ (fun i H' _ ⟨s2, _⟩ => SqL.of (s2 _ _ h1)) ?_ ?_
  · rintro i x H2 H3 hi ⟨s2, h2⟩ ⟨T, u, v, rfl, hT, rfl, hu, hv⟩
    rw [hlen1] at hi
    have hu' : u = V.int (i : Nat) := (Option.some.inj hu).symm
    have hv' : v = V.int (valueAt z (i : Int)) := by
      dsimp only at hv
      rw [List.getElem?_map, List.getElem?_range hi] at hv
      exact (Option.some.inj hv).symm
    subst hu' hv'
    have s3 : Same H2 (upd H2 T (.tup [V.int (i : Nat), V.int (valueAt z (i : Int))])) := Same.upd_new hT
    refine ⟨T, _, rfl, SqT.of upd_same, rfl, ?_⟩
    refine ⟨_, _, rfl, _, _, rfl, rfl, rfl, ?_⟩
    refine ⟨_, rfl, _, rfl, _, rfl, z, _, _, rfl, fun H4 s4 => ⟨_, rfl, ?_⟩⟩
    rw [C.val (i : Int)]
    refine iteF ?_
    exact ⟨s2.trans (s3.trans s4), s4 _ _ (s3 _ _ h2)⟩
  rintro H2 ⟨s2, h2⟩
  refine ⟨Nat.zero_le _, fun p hp => ?_⟩
  have s3 : Same H2 (upd H2 p (.lst [])) := Same.upd_new hp
  generalize hH3 : upd H2 p (.lst []) = H3 at s3
  have hp3 : H3 p = some (.lst []) := by rw [← hH3]; exact upd_same
  refine ⟨_, _, .lst (SqL.of (s3 _ _ h2)) .nil, .lst (SqL.of hp3) .nil, by decide, by decide, _, rfl, iteF ?_⟩
  dsimp only [tNext]
  -- sum(values)
  have h1c : H3 D1 = some (.lst (((List.range N).map fun n : Nat => valueAt z (n : Int)).map V.int)) := by
    rw [List.map_map]
    exact s3 _ _ (s2 _ _ h1)
  have hsum := C.sum
  rw [hm] at hsum
  refine tSeq_join (fun σ H' => H3 = H' ∧ σ = [some (.int z), some (.int (N : Int)), none, some (.ref D1), none, none]) (fun M hM => ?_) ?_
  · refine ⟨_, rfl, D1, _, rfl, SqL.of h1c, ?_⟩
    refine ⟨_, rfl, rfl, _, rfl, ifI (fun e => ?_) fun e => ?_⟩
    · rw [if_pos e] at hsum
      refine ⟨rfl, _, rfl, ifNI (fun k => absurd hsum k) fun k => hM _ _ ⟨rfl, rfl⟩⟩
    · rw [if_neg e] at hsum
      refine ⟨rfl, _, rfl, ifNI (fun k => absurd hsum k) fun k => hM _ _ ⟨rfl, rfl⟩⟩
  rintro _ _ ⟨rfl, rfl⟩
  have s03 : Same H H3 := s1.trans (s2.trans s3)
  have h13 := s3 _ _ (s2 _ _ h1)
  refine ⟨_, rfl, _, rfl, (by omega), (by omega), fun D3 hD3 => ?_⟩
  refine lc_range (lo := 0) (n := ((N : Int)).toNat) (fun i H' => Same H3 H' ∧ H' D3 = some (.lst ((List.range i).map fun n : Nat => V.int (valueAt z (-(n : Int)))))) ⟨Same.upd_new hD3, upd_same⟩ ?_ ?_
  · rintro i H4 hi ⟨s4, h4⟩
    refine ⟨rfl, ?_⟩
    refine ⟨_, rfl, _, rfl, _, rfl, z, _, rfl, hz, _, h4, vlen (fun n => valueAt z (-(n : Int))) i (by omega), fun b o e => ?_, ?_⟩
    · rw [upd_ne (ne_of_none e hD3)]
      exact s4 _ _ e
    · rw [upd_same, vals_range z (fun n => valueAt z (-(n : Int)))]
      show some (HO.lst (_ ++ [V.int (valueAt z (-(0 + (i : Int))))])) = _
      rw [Int.zero_add]
  rintro H4 ⟨s4, h4⟩
  rw [e1] at h4
  refine ⟨_, rfl, _, rfl, D1, rfl, ⟨_, SqL.of (s4 _ _ h13)⟩, fun D4 hD4 => ?_⟩
  refine lc_list (K := K) (a := D1) (xs := (List.range N).map fun n : Nat => V.int (valueAt z (n : Int))) (fun i H' => Same H4 H' ∧ H' D4 = some (.lst ((List.range i).map fun n : Nat => V.int (valueAt z (-(n : Int)))))) ⟨Same.upd_new hD4, upd_same⟩
    (fun i H' _ ⟨s5, _⟩ => SqL.of (s5 _ _ (s4 _ _ h13))) ?_ ?_
  · rintro i x H5 hx ⟨s5, h5⟩
    have hi : i < N := by
      have h := (List.getElem?_eq_some_iff.mp hx).1
      rw [hlen1] at h
      exact h
    rw [List.getElem?_map, List.getElem?_range hi] at hx
    obtain rfl : V.int (valueAt z (i : Int)) = x := Option.some.inj hx
    refine ⟨rfl, ?_⟩
    have hneg := C.neg (i : Int)
    have fin : ∀ y : Int, y = valueAt z (-(i : Int)) → ∃ acc, H5 D4 = some (HO.lst acc) ∧ acc.length < sizeLine ∧ Same H4 (upd H5 D4 (.lst (acc ++ [V.int y]))) ∧ (upd H5 D4 (.lst (acc ++ [V.int y]))) D4 = some (.lst ((List.range (i + 1)).map fun n : Nat => V.int (valueAt z (-(n : Int))))) := by
      rintro y rfl
      refine ⟨_, h5, vlen (fun n => valueAt z (-(n : Int))) i (by omega), fun b o e => ?_, ?_⟩
      · rw [upd_ne (ne_of_none e hD4)]
        exact s5 _ _ e
      · rw [upd_same, vals_range z (fun n => valueAt z (-(n : Int)))]
    refine ⟨_, rfl, _, _, rfl, rfl, _, rfl, ifD (fun e => ?_) fun e => ?_⟩
    · rw [if_pos e, Int.mul_one] at hneg
      exact ⟨_, rfl, fin _ hneg.symm⟩
    · rw [if_neg e, Int.mul_neg, Int.mul_one] at hneg
      exact ⟨_, rfl, _, rfl, fin _ hneg.symm⟩
  rintro H5 ⟨s5, h5⟩
  rw [hlen1] at h5
  have hmap : ((List.range N).map fun n : Nat => V.int (valueAt z (-(n : Int)))) = ((List.range N).map fun n : Nat => valueAt z (-(n : Int))).map V.int := by rw [List.map_map]; rfl
  rw [hmap] at h4 h5
  refine ⟨_, _, .lst (SqL.of (s5 _ _ h4)) (dp_ints _), .lst (SqL.of h5) (dp_ints _), shaped_ints _, shaped_ints _, ?_⟩
  rw [eqv_same _ (shaped_ints _)]
  exact q _ (s03.trans (s4.trans s5))
end
end Ft

namespace Ft
open PySem L2
/-- two keywords, in the other order -/
def swapV : List V → List V → List V := fun us zs => match us, zs with
  | [], [a, b] => [b, a]
  | _, _ => []
def swapU : List Value → List Value → List Value := fun us zs => match us, zs with
  | [], [a, b] => [b, a]
  | _, _ => []
theorem swap_rel : ∀ {vs : List V} {us : List Value} {zs : List V} {ws : List Value}, Vals vs us → Vals zs ws → Vals (swapV vs zs) (swapU us ws)
  | _, _, _, _, .nil, .nil => .nil
  | _, _, _, _, .nil, .cons _ .nil => .nil
  | _, _, _, _, .nil, .cons a (.cons b .nil) => .cons b (.cons a .nil)
  | _, _, _, _, .nil, .cons _ (.cons _ (.cons _ _)) => .nil
  | _, _, _, _, .cons _ _, _ => .nil
theorem kb_sign_at {K : PySem.W.Frag} {f : Addr} {fd : FuncData} (F : Fun K "sign_at" "sign_at" s_sign_at f fd) : KBinds K fd ["sign", "n"] ["n", "sign"] swapU swapV := by
  obtain ⟨oc, od, kV, doc, pm, an, cdv, ct, osl, rfl, lk, hcd⟩ := F.ex
  refine ⟨fun s us ws _ hl => ?_, swap_rel⟩
  match us, ws, hl with
  | [], [a, b], _ => exact .of_eq rfl
end Ft

namespace Ft
open PySem L2
/-- the mathematics that the law asks -/
structure Mat : Prop where
  chr : ∀ s : Int, isSign s = true → Chr s
  join : ∀ s t m : Int, isSign s = true → isSign t = true → isSign (anySign (s * t)) = true → Nat.gcd m.natAbs (s * t).natAbs = 1 → valueAt (anySign (s * t)) m = valueAt s m * valueAt t m
  turn : ∀ s t : Int, isSign s = true → isSign t = true → Nat.gcd s.natAbs t.natAbs = 1 → valueAt s (t.natAbs : Int) = valueAt t (s.natAbs : Int) * (if s < 0 ∧ t < 0 then -1 else 1)
  four : ∀ s : Int, isSign s = true → isSign (4 * s) = false
def sp_law (K : PySem.W.Frag) : Sp := fun vs H Q _ => ∃ (a : Addr) (ns : List Int), vs = [.ref a] ∧ SqL K H a (ns.map V.int) ∧ ns.length ≤ 63 ∧ ∀ H', Q (.bl true) H'
theorem Chr.le {s : Int} (C : Chr s) (n : Int) : -1 ≤ valueAt s n ∧ valueAt s n ≤ 1 := by
  have h := C.val n
  unfold lawVal at h
  split at h
  · simp only [Bool.or_eq_true, decide_eq_true_eq] at h
    omega
  · simp only [decide_eq_true_eq] at h
    omega
theorem at0 {a b c : V} : atI [a, b, c] 0 = some a := atI_nat (j := 0) rfl
theorem at1 {a b c : V} : atI [a, b, c] 1 = some b := atI_nat (j := 1) rfl
theorem at2 {a b c : V} : atI [a, b, c] 2 = some c := atI_nat (j := 2) rfl
theorem value_per (s m n : Int) : valueAt s (m + (s.natAbs : Int) * n) = valueAt s m := by
  unfold valueAt
  rw [Int.add_mul_emod_self_left]
theorem value_mod (s n : Int) : valueAt s (n % (s.natAbs : Int)) = valueAt s n := by
  unfold valueAt
  rw [Int.emod_emod]
section
variable {P : Program} {w : World} {K : PySem.W.Frag} {mg : Str → Option Value} {base : Heap}
theorem ok_law {f : Addr} {fd : FuncData} (F : Fun K "law" "law" s_law f fd) (M : Mat) (B : Bi mg) (c_deck : Cal P w K mg base 1 "_law_deck" (sp_deck K)) (c_sgn : Cal P w K mg base 3 "_law_sign" sp_sign) (c_is_sign : Cal P w K mg base 3 "is_sign" sp_is_sign)
    (c_period : Cal P w K mg base 6 "_law_is_period" sp_period) (c_pick : Cal P w K mg base 2 "_law_pick" (sp_pick K)) (c_number : Cal P w K mg base 2 "_law_number" sp_number) (c_draw : Cal P w K mg base 1 "_law_draw" sp_draw)
    (c_sign_at : Cal P w K mg base 5 "sign_at" sp_sign_at) (k_sign_at : CalK P w K mg base 5 "sign_at" ["n", "sign"] swapV sp_sign_at) (c_val : Cal P w K mg base 2 "_law_is_value" sp_lawVal) (c_joined_sign : Cal P w K mg base 5 "joined_sign" sp_joined_sign)
    (c_common : Cal P w K mg base 1 "_law_common" sp_common) : FnG P w K mg base 7 f fd ["_law_script"] (sp_law K) := by
  have sc := sc_law
  refine fun_g F sc (fun _ _ _ _ ⟨_, _, e, _⟩ => by rw [e]; rfl) (fun cdv A outer s H vs Q E hgd hr h => ?_)
  obtain ⟨a, ns, rfl, hS, hlen, q⟩ := h
  refine ⟨_, (pss_cons (ps_set (i := 1) sc.nd rfl (Or.inl rfl) (pe_c c_deck hr (by decide) (by rfl) (pa_cons (pv 0) pa_nil)))
    (pss_cons (ps_par (i := 2) (j := 3) (by rfl) sc.nd rfl rfl (by decide) rfl rfl (pa_cons (pe_c c_sgn hr (by decide) (by rfl) (pa_cons (pv 1) pa_nil)) (pa_cons (pe_c c_sgn hr (by decide) (by rfl) (pa_cons (pv 1) pa_nil)) pa_nil)) (by rfl))
    (pss_cons (ps_if (pt_cmpR op_ne (pe_callB (call_repr hgd hr) (by rfl) B.repr (by decide +kernel) (pa_cons (pe_tup (pa_cons (pe_c c_is_sign hr (by decide) (by rfl) (pa_cons (pv 2) pa_nil)) (pa_cons (pe_c c_is_sign hr (by decide) (by rfl) (pa_cons (pv 3) pa_nil)) (pa_cons (pe_c c_is_sign hr (by decide) (by rfl) (pa_cons (pe_op op_mul pe_int (pv 2)) pa_nil)) pa_nil)))) pa_nil)) (pe_callB (call_repr hgd hr) (by rfl) B.repr (by decide +kernel) (pa_cons (pe_tup (pa_cons pe_bl (pa_cons pe_bl (pa_cons pe_bl pa_nil)))) pa_nil)) (nomark _))
    (pss_one (ps_ret pe_bl))
    pss_nil)
    (pss_cons (ps_if (pt_not (pt_val (pe_c c_period hr (by decide) (by rfl) (pa_cons (pe_ifExp (pt_cmpR op_lt (pe_callB call_abs (by rfl) B.abs (by decide +kernel) (pa_cons (pv 2) pa_nil)) pe_int (nomark _)) (pv 2) (pe_c c_pick hr (by decide) (by rfl) (pa_cons (pv 1) (pa_cons (pe_lst (pa_cons (pv 2) (pa_cons pe_int (pa_cons (pe_un un_neg pe_int) (pa_cons (pe_un un_neg pe_int) pa_nil))))) pa_nil)))) pa_nil))))
    (pss_one (ps_ret pe_bl))
    pss_nil)
    (pss_cons (ps_for PassesOwn.never rfl (pi_range1 rfl B.range (pa_cons pe_int pa_nil)) (pg_name (i := 4) sc.nd rfl (Or.inl rfl))
    (pss_cons (ps_par (i := 5) (j := 6) (by rfl) sc.nd rfl rfl (by decide) rfl rfl (pa_cons (pe_c c_number hr (by decide) (by rfl) (pa_cons (pv 1) pa_nil)) (pa_cons (pe_c c_number hr (by decide) (by rfl) (pa_cons (pv 1) pa_nil)) pa_nil)) (by rfl))
      (pss_cons (ps_if (pt_cmpR op_eq (pe_c c_draw hr (by decide) (by rfl) (pa_cons (pv 1) (pa_cons pe_int pa_nil))) pe_int (nomark _))
      (pss_one (ps_set (i := 5) sc.nd rfl (Or.inl rfl) (pe_op op_add (pe_c c_draw hr (by decide) (by rfl) (pa_cons (pv 1) (pa_cons pe_int pa_nil))) pe_int)))
      pss_nil)
      (pss_cons (ps_for PassesOwn.never rfl (pi_tup (pe_tup (pa_cons (pv 2) (pa_cons (pv 3) pa_nil)))) (pg_name (i := 7) sc.nd rfl (Or.inl rfl))
      (pss_cons (ps_set (i := 8) sc.nd rfl (Or.inl rfl) (pe_tup (pa_cons (pe_c c_sign_at hr (by decide) (by rfl) (pa_cons (pv 7) (pa_cons (pv 5) pa_nil))) (pa_cons (pe_k0 k_sign_at hr (by decide) (by rfl) (pk_cons (pv 6) (pk_cons (pv 7) pk_nil))) (pa_cons (pe_c c_sign_at hr (by decide) (by rfl) (pa_cons (pv 7) (pa_cons (pe_op op_mulW (pv 5) (pv 6)) pa_nil))) pa_nil)))))
        (pss_cons (ps_if (PW.pt (pw_or (pt_not (pt_val (pe_c c_val hr (by decide) (by rfl) (pa_cons (pv 7) (pa_cons (pv 5) (pa_cons (pe_ix ix_seq (pv 8) pe_int (fun _ _ => rfl)) pa_nil)))))) (pw_or (pt_not (pt_val (pe_c c_val hr (by decide) (by rfl) (pa_cons (pv 7) (pa_cons (pv 6) (pa_cons (pe_ix ix_seq (pv 8) pe_int (fun _ _ => rfl)) pa_nil)))))) (pw_or1 (pt_cmpR op_ne (pe_op op_mul (pe_ix ix_seq (pv 8) pe_int (fun _ _ => rfl)) (pe_ix ix_seq (pv 8) pe_int (fun _ _ => rfl))) (pe_ix ix_seq (pv 8) pe_int (fun _ _ => rfl)) (nomark _))))))
        (pss_one (ps_ret pe_bl))
        pss_nil)
        (pss_cons (ps_if (PW.pt (pw_or (pt_cmpR op_ne (pe_c c_sign_at hr (by decide) (by rfl) (pa_cons (pv 7) (pa_cons (pe_op op_add (pv 5) (pe_op op_mul (pe_callB call_abs (by rfl) B.abs (by decide +kernel) (pa_cons (pv 7) pa_nil)) (pv 6))) pa_nil))) (pe_ix ix_seq (pv 8) pe_int (fun _ _ => rfl)) (nomark _)) (pw_or1 (pt_cmpR op_ne (pe_c c_sign_at hr (by decide) (by rfl) (pa_cons (pv 7) (pa_cons (pe_op op_mod (pe_callTy call_int1 (by rfl) B.int_ (by decide +kernel) (pa_cons (pv 6) pa_nil)) (pe_callB call_abs (by rfl) B.abs (by decide +kernel) (pa_cons (pv 7) pa_nil))) pa_nil))) (pe_ix ix_seq (pv 8) pe_int (fun _ _ => rfl)) (nomark _)))))
        (pss_one (ps_ret pe_bl))
        pss_nil)
        (pss_one (ps_if (PW.pt (pw_or (pt_cmpR op_ne (pe_c c_sign_at hr (by decide) (by rfl) (pa_cons (pv 7) (pa_cons (pe_op op_mulW (pv 5) (pv 5)) pa_nil))) (pe_op op_mul (pe_ix ix_seq (pv 8) pe_int (fun _ _ => rfl)) (pe_ix ix_seq (pv 8) pe_int (fun _ _ => rfl))) (nomark _)) (pw_or1 (pt_cmpR op_ne (pe_c c_sign_at hr (by decide) (by rfl) (pa_cons (pv 7) (pa_cons (pe_un un_neg (pv 5)) pa_nil))) (pe_op op_mul (pe_ix ix_seq (pv 8) pe_int (fun _ _ => rfl)) (pe_ifExp (pt_cmpR op_gt (pv 7) pe_int (nomark _)) pe_int (pe_un un_neg pe_int))) (nomark _)))))
        (pss_one (ps_ret pe_bl))
        pss_nil))))))
      (pss_cons (ps_set (i := 9) sc.nd rfl (Or.inl rfl) (pe_c c_joined_sign hr (by decide) (by rfl) (pa_cons (pv 2) (pa_cons (pv 3) pa_nil))))
      (pss_one (ps_if (PW.pt (pw_and (pt_cmpR op_eq (pe_c c_common hr (by decide) (by rfl) (pa_cons (pv 5) (pa_cons (pe_op op_mul (pv 2) (pv 3)) pa_nil))) pe_int (nomark _)) (pw_and (pt_val (pe_c c_is_sign hr (by decide) (by rfl) (pa_cons (pv 9) pa_nil))) (pw_and1 (pt_cmpR op_ne (pe_c c_sign_at hr (by decide) (by rfl) (pa_cons (pv 9) (pa_cons (pv 5) pa_nil))) (pe_op op_mul (pe_c c_sign_at hr (by decide) (by rfl) (pa_cons (pv 2) (pa_cons (pv 5) pa_nil))) (pe_c c_sign_at hr (by decide) (by rfl) (pa_cons (pv 3) (pa_cons (pv 5) pa_nil)))) (nomark _))))))
      (pss_one (ps_ret pe_bl))
      pss_nil)))))))
    (pss_cons (ps_if (pt_cmpR op_eq (pe_c c_common hr (by decide) (by rfl) (pa_cons (pv 2) (pa_cons (pv 3) pa_nil))) pe_int (nomark _))
    (pss_cons (ps_set (i := 10) sc.nd rfl (Or.inl rfl) (pe_op op_mul (pe_c c_sign_at hr (by decide) (by rfl) (pa_cons (pv 3) (pa_cons (pe_callB call_abs (by rfl) B.abs (by decide +kernel) (pa_cons (pv 2) pa_nil)) pa_nil))) (pe_ifExp (PW.pt (pw_and (pt_cmpR op_lt (pv 2) pe_int (nomark _)) (pw_and1 (pt_cmpR op_lt (pv 3) pe_int (nomark _))))) (pe_un un_neg pe_int) pe_int)))
      (pss_one (ps_ret (pe_cmpR op_eq (pe_c c_sign_at hr (by decide) (by rfl) (pa_cons (pv 2) (pa_cons (pe_callB call_abs (by rfl) B.abs (by decide +kernel) (pa_cons (pv 3) pa_nil)) pa_nil))) (pv 10) (nomark _)))))
    pss_nil)
    (pss_one (ps_ret (pe_and (pe_cmpR op_eq (pe_c c_sign_at hr (by decide) (by rfl) (pa_cons (pv 2) (pa_cons (pv 3) pa_nil))) pe_int (nomark _)) (pe_one (pe_cmpR op_eq (pe_c c_sign_at hr (by decide) (by rfl) (pa_cons (pv 3) (pa_cons (pv 2) pa_nil))) pe_int (nomark _)))))))))))), ?_⟩
  refine ⟨_, rfl, a, ns, rfl, hS, hlen, fun H1 d l D1 _ _ _ => ?_⟩
  refine ⟨_, rfl, d, l, rfl, D1, fun H2 x D2 b2 hx => ?_⟩
  refine ⟨_, rfl, d, l, rfl, D2, fun H3 y D3 b3 hy => ?_⟩
  refine ⟨_, _, rfl, ?_⟩
  have Cx := M.chr x hx
  have Cy := M.chr y hy
  have lx := isSign_le hx
  have ly := isSign_le hy
  -- repr((..)) != repr((True, True, False))
  refine ⟨_, rfl, x, rfl, trivial, _, rfl, y, rfl, trivial, _, rfl, _, _, rfl, rfl, .inl ⟨by decide, by decide⟩, _, rfl, trivial, (by show (3 : Nat) ≤ sizeLine; decide), fun p hp => ?_⟩
  have ht : upd H3 p (.tup [V.bl (isSign x), V.bl (isSign y), V.bl (isSign (4 * x))]) p = some (.tup [V.bl true, V.bl true, V.bl false]) := by rw [upd_same, hx, hy, M.four x hx]
  have s4 : Same H3 (upd H3 p (.tup [V.bl (isSign x), V.bl (isSign y), V.bl (isSign (4 * x))])) := Same.upd_new hp
  have dt : DpAll K (upd H3 p (.tup [V.bl (isSign x), V.bl (isSign y), V.bl (isSign (4 * x))])) [V.bl true, V.bl true, V.bl false] [.bool true, .bool true, .bool false] := .cons (.bl true) (.cons (.bl true) (.cons (.bl false) .nil))
  refine ⟨p, _, rfl, .tup (SqT.of ht) dt, rfl, rfl, (by decide), (by decide +kernel), ?_⟩
  refine ⟨(by decide), fun p2 hp2 => ?_⟩
  have dt2 : ∀ Hx : Hp, DpAll K Hx [V.bl true, V.bl true, V.bl false] [.bool true, .bool true, .bool false] := fun _ => .cons (.bl true) (.cons (.bl true) (.cons (.bl false) .nil))
  refine ⟨p2, _, rfl, .tup (SqT.of upd_same) (dt2 _), rfl, rfl, (by decide), (by decide +kernel), ?_⟩
  refine ⟨rfl, _, rfl, ifN (fun k => absurd rfl k) fun _ => ?_⟩
  generalize hH4 : upd (upd H3 p (.tup [V.bl (isSign x), V.bl (isSign y), V.bl (isSign (4 * x))])) p2 (.tup [V.bl true, V.bl true, V.bl false]) = H4
  have D4 : DeckAt H4 d l := by
    rw [← hH4]
    exact (D3.same s4).same (Same.upd_new hp2)
  dsimp only [tNext]
  refine tSeq_join (fun σ H' => DeckAt H' d l ∧ σ = [some (.ref a), some (.ref d), some (.int x), some (.int y), none, none, none, none, none, none, none]) (fun N hN => ?_) ?_
  · refine ⟨_, rfl, x, rfl, _, _, rfl, rfl, _, rfl, ifD (fun e => ?_) fun e => ?_⟩
    · exact ⟨_, rfl, x, rfl, hx, Cx, fun H5 s5 => ⟨true, rfl, iteF (hN _ _ ⟨D4.same s5, rfl⟩)⟩⟩
    · refine ⟨_, rfl, _, rfl, _, rfl, _, rfl, (by show (4 : Nat) ≤ sizeLine; decide), fun p3 hp3 => ?_⟩
      have n3 := D4.new hp3
      refine ⟨d, l, p3, _, rfl, D4.same (Same.upd_new hp3), .inl ⟨upd_same, n3.2⟩, (by show 0 < 4; decide), (by show 4 < 2 ^ 64; decide), fun H6 v D6 b6 hv => ?_⟩
      have hz : ∃ z : Int, v = .int z ∧ isSign z = true := by
        simp only [List.mem_cons, List.not_mem_nil, or_false] at hv
        rcases hv with h | h | h | h
        · exact ⟨_, h, hx⟩
        all_goals exact ⟨_, h, by decide +kernel⟩
      obtain ⟨z, rfl, hz⟩ := hz
      exact ⟨z, rfl, hz, M.chr z hz, fun H7 s7 => ⟨true, rfl, iteF (hN _ _ ⟨D6.same s7, rfl⟩)⟩⟩
  rintro _ H5 ⟨D5, rfl⟩
  refine ⟨4, rfl, by decide, by decide, for_range (lo := 0) (n := 4) (fun i σ H' => DeckAt H' d l ∧ ∃ o4 o5 o6 o7 o8 o9 : Option V, σ = [some (.ref a), some (.ref d), some (.int x), some (.int y), o4, o5, o6, o7, o8, o9, none]) ⟨D5, _, _, _, _, _, _, rfl⟩ ?_ ?_⟩
  · rintro i σ H6 hi ⟨D6, o4, o5, o6, o7, o8, o9, rfl⟩
    refine ⟨_, rfl, d, l, rfl, D6, fun H7 m D7 b7 hm => ?_⟩
    refine ⟨_, rfl, d, l, rfl, D7, fun H8 n D8 b8 hn => ?_⟩
    refine ⟨_, _, rfl, ?_⟩
    dsimp only
    refine tSeq_join (fun σ H' => DeckAt H' d l ∧ ∃ m : Int, m.natAbs < 2 ^ 90 ∧ σ = [some (.ref a), some (.ref d), some (.int x), some (.int y), some (.int (0 + (i : Nat))), some (.int m), some (.int n), o7, o8, o9, none]) (fun N hN => ?_) ?_
    · refine ⟨_, rfl, d, l, _, rfl, D8, by decide, by decide, fun H9 r D9 b9 r0 r1 => ?_⟩
      refine ⟨rfl, _, rfl, ifI (fun e => ?_) fun e => ?_⟩
      · refine ⟨_, rfl, d, l, _, rfl, D9, by decide, by decide, fun H10 r2 D10 b10 r3 r4 => ?_⟩
        exact ⟨_, _, rfl, rfl, hN _ _ ⟨D10, r2 + 1, by omega, rfl⟩⟩
      · exact hN _ _ ⟨D9, m, hm, rfl⟩
    clear hm
    rintro _ H9 ⟨D9, m, hm, rfl⟩
    refine tSeq_join (fun σ H' => DeckAt H' d l ∧ ∃ o7 o8 : Option V, σ = [some (.ref a), some (.ref d), some (.int x), some (.int y), some (.int (0 + (i : Nat))), some (.int m), some (.int n), o7, o8, o9, none]) (fun N hN => ?_) ?_
    · refine ⟨_, rfl, _, rfl, (by show (2 : Nat) ≤ sizeLine; decide), fun T hT => ?_⟩
      have sT : Same H9 (upd H9 T (.tup [V.int x, V.int y])) := Same.upd_new hT
      refine ⟨T, rfl, ⟨_, SqT.of upd_same⟩, for_tup (K := K) (a := T) (xs := [V.int x, V.int y]) (fun j σ H' => DeckAt H' d l ∧ H' T = some (.tup [V.int x, V.int y]) ∧ ∃ o7 o8 : Option V, σ = [some (.ref a), some (.ref d), some (.int x), some (.int y), some (.int (0 + (i : Nat))), some (.int m), some (.int n), o7, o8, o9, none])
        ⟨D9.same sT, upd_same, _, _, rfl⟩ (fun j σ H' _ ⟨_, z, _⟩ => SqT.of z) ?_ ?_⟩
      · rintro j v σ H10 hv ⟨D10, hT10, o7, o8, rfl⟩
        have hz : ∃ z : Int, v = .int z ∧ isSign z = true := by
          match j, hv with
          | 0, hv => exact ⟨x, (Option.some.inj hv).symm, hx⟩
          | 1, hv => exact ⟨y, (Option.some.inj hv).symm, hy⟩
        obtain ⟨z, rfl, hz⟩ := hz
        have C := M.chr z hz
        have lz := isSign_le hz
        have ez := abs_if z
        -- told
        refine ⟨_, rfl, _, rfl, z, m, rfl, hz, ?_⟩
        refine ⟨_, rfl, _, rfl, z, n, rfl, hz, ?_⟩
        refine ⟨_, rfl, _, rfl, _, rfl, _, _, rfl, rfl, wide_mul hm hn (by decide) (by decide) (by decide), z, _, rfl, hz, ?_⟩
        refine ⟨(by show (3 : Nat) ≤ sizeLine; decide), fun U hU => ?_⟩
        have sU : Same H10 (upd H10 U (.tup [V.int (valueAt z m), V.int (valueAt z n), V.int (valueAt z (m * n))])) := Same.upd_new hU
        generalize hH11 : upd H10 U (.tup [V.int (valueAt z m), V.int (valueAt z n), V.int (valueAt z (m * n))]) = H11 at sU
        have t11 : H11 U = some (.tup [V.int (valueAt z m), V.int (valueAt z n), V.int (valueAt z (m * n))]) := by rw [← hH11]; exact upd_same
        have b0 := C.le m
        have b1 := C.le n
        -- not is_value(..) or not is_value(..) or told[0] * told[1] != told[2]
        refine ⟨_, rfl, _, rfl, _, rfl, .inr (.inl ⟨U, _, _, _, rfl, rfl, SqT.of t11, at0, z, m, _, rfl, fun H12 s12 => ⟨_, rfl, ?_⟩⟩)⟩
        rw [C.val m]
        refine iteF ?_
        have t12 := s12 _ _ t11
        refine ⟨_, rfl, _, rfl, _, rfl, .inr (.inl ⟨U, _, _, _, rfl, rfl, SqT.of t12, at1, z, n, _, rfl, fun H13 s13 => ⟨_, rfl, ?_⟩⟩)⟩
        rw [C.val n]
        refine iteF ?_
        have t13 := s13 _ _ t12
        refine ⟨_, rfl, .inr (.inl ⟨U, _, _, _, rfl, rfl, SqT.of t13, at0, ?_⟩)⟩
        refine ⟨_, rfl, .inr (.inl ⟨U, _, _, _, rfl, rfl, SqT.of t13, at1, _, _, rfl, rfl, .inl ⟨by omega, by omega⟩, ?_⟩)⟩
        refine ⟨_, rfl, .inr (.inl ⟨U, _, _, _, rfl, rfl, SqT.of t13, at2, rfl, _, rfl, ifNI (fun k => absurd (C.mul m n) k) fun _ => ?_⟩)⟩
        -- periods
        refine ⟨_, rfl, _, rfl, _, rfl, z, rfl, _, rfl, _, _, rfl, rfl, .inl (by rw [ez]; exact ⟨by omega, by omega⟩), ?_⟩
        have hper : valueAt z (m + (if z < 0 then -z else z) * n) = valueAt z m := by rw [ez]; exact value_per z m n
        refine ⟨_, _, rfl, rfl, z, _, rfl, hz, ?_⟩
        refine ⟨_, rfl, .inr (.inl ⟨U, _, _, _, rfl, rfl, SqT.of t13, at0, rfl, _, rfl, ifNI (fun k => absurd hper k) fun _ => ?_⟩)⟩
        have hpos : (0 : Int) < (if z < 0 then -z else z) := by rw [ez]; omega
        have hmod : valueAt z (n % (if z < 0 then -z else z)) = valueAt z n := by rw [ez]; exact value_mod z n
        refine ⟨_, rfl, _, rfl, .inl ⟨n, rfl, _, rfl, z, rfl, _, _, rfl, rfl, hpos, z, _, rfl, hz, ?_⟩⟩
        refine ⟨_, rfl, .inr (.inl ⟨U, _, _, _, rfl, rfl, SqT.of t13, at1, rfl, _, rfl, ifNI (fun k => absurd hmod k) fun _ => ?_⟩)⟩
        -- squares, opposites
        refine ⟨_, rfl, _, rfl, _, rfl, _, _, rfl, rfl, wide_mul hm hm (by decide) (by decide) (by decide), z, _, rfl, hz, ?_⟩
        refine ⟨_, rfl, .inr (.inl ⟨U, _, _, _, rfl, rfl, SqT.of t13, at0, ?_⟩)⟩
        refine ⟨_, rfl, .inr (.inl ⟨U, _, _, _, rfl, rfl, SqT.of t13, at0, _, _, rfl, rfl, .inl ⟨by omega, by omega⟩, rfl, _, rfl, ifNI (fun k => absurd (C.mul m m).symm k) fun _ => ?_⟩)⟩
        have hneg := C.neg m
        refine ⟨_, rfl, _, rfl, _, rfl, z, _, rfl, hz, ?_⟩
        have D13 : DeckAt H13 d l := ((D10.same sU).same s12).same s13
        have T13 : H13 T = some (.tup [V.int x, V.int y]) := s13 _ _ (s12 _ _ (sU _ _ hT10))
        refine ⟨_, rfl, .inr (.inl ⟨U, _, _, _, rfl, rfl, SqT.of t13, at0, ?_⟩)⟩
        refine ⟨_, rfl, _, _, rfl, rfl, _, rfl, ifD (fun e => ?_) fun e => ?_⟩
        · rw [if_pos e] at hneg
          refine ⟨_, _, rfl, rfl, .inl ⟨by omega, by omega⟩, rfl, _, rfl, ifNI (fun k => absurd hneg k) fun _ => ?_⟩
          exact ⟨D13, T13, _, _, rfl⟩
        · rw [if_neg e] at hneg
          refine ⟨_, rfl, _, _, rfl, rfl, .inl ⟨by omega, by omega⟩, rfl, _, rfl, ifNI (fun k => absurd hneg k) fun _ => ?_⟩
          exact ⟨D13, T13, _, _, rfl⟩
      · rintro σ H10 ⟨D10, _, o7, o8, rfl⟩
        exact hN _ _ ⟨D10, _, _, rfl⟩
    rintro _ H10 ⟨D10, o7, o8, rfl⟩
    -- joined
    refine ⟨_, rfl, _, rfl, x, y, rfl, ⟨hx, hy⟩, ?_⟩
    refine ⟨_, rfl, _, rfl, _, rfl, _, _, rfl, rfl, .inl ⟨by omega, by omega⟩, m, x * y, rfl, rfl, _, rfl, ifI (fun e => ?_) fun e => iteF ⟨D10, _, _, _, _, _, _, rfl⟩⟩
    have hg : Nat.gcd m.natAbs (x * y).natAbs = 1 := by omega
    refine ⟨_, rfl, _, rfl, trivial, _, rfl, ?_⟩
    cases hj : isSign (anySign (x * y)) with
    | false =>
      exact iteF ⟨D10, _, _, _, _, _, _, rfl⟩
    | true =>
      refine iteT ?_
      have b0 := Cx.le m
      have b1 := Cy.le m
      refine ⟨_, rfl, _, rfl, _, _, rfl, hj, ?_⟩
      refine ⟨_, rfl, _, rfl, x, m, rfl, hx, _, rfl, _, rfl, y, m, rfl, hy, _, _, rfl, rfl, .inl ⟨by omega, by omega⟩, rfl, _, rfl, ifNI (fun k => absurd (M.join x y m hx hy hj hg) k) fun _ => ?_⟩
      exact ⟨D10, _, _, _, _, _, _, rfl⟩
  · rintro σ H6 ⟨D6, o4, o5, o6, o7, o8, o9, rfl⟩
    refine ⟨_, rfl, _, rfl, x, y, rfl, rfl, _, rfl, ifI (fun e => ?_) fun e => ?_⟩
    · have hg : Nat.gcd x.natAbs y.natAbs = 1 := by omega
      have ht := M.turn x y hx hy hg
      have b0 := Cy.le (x.natAbs : Int)
      have fin : ∀ u : Int, valueAt x (if y < 0 then -y else y) = u → Q (.bl (decide (V.int (valueAt x (if y < 0 then -y else y)) = V.int u))) H6 := by
        rintro u rfl
        rw [decide_eq_true rfl]
        exact q H6
      rw [← abs_if, ← abs_if] at ht
      rw [← abs_if] at b0
      refine ⟨_, rfl, _, rfl, x, rfl, y, _, rfl, hy, ?_⟩
      refine ⟨_, rfl, _, _, rfl, rfl, _, rfl, ifD (fun e1 => ?_) fun e1 => ?_⟩
      · refine ⟨_, rfl, _, _, rfl, rfl, _, rfl, ifD (fun e2 => ?_) fun e2 => ?_⟩
        · rw [if_pos (show x < 0 ∧ y < 0 from ⟨e1, e2⟩)] at ht
          refine ⟨_, rfl, _, _, rfl, rfl, .inl ⟨by omega, by omega⟩, ?_⟩
          exact ⟨_, rfl, _, rfl, y, rfl, x, _, rfl, hx, _, rfl, rfl, fin _ ht⟩
        · rw [if_neg (show ¬ (x < 0 ∧ y < 0) from fun k => e2 k.2)] at ht
          refine ⟨_, _, rfl, rfl, .inl ⟨by omega, by omega⟩, ?_⟩
          exact ⟨_, rfl, _, rfl, y, rfl, x, _, rfl, hx, _, rfl, rfl, fin _ ht⟩
      · rw [if_neg (show ¬ (x < 0 ∧ y < 0) from fun k => e1 k.1)] at ht
        refine ⟨_, _, rfl, rfl, .inl ⟨by omega, by omega⟩, ?_⟩
        exact ⟨_, rfl, _, rfl, y, rfl, x, _, rfl, hx, _, rfl, rfl, fin _ ht⟩
    · have hg : ¬ Nat.gcd x.natAbs y.natAbs = 1 := by omega
      have v1 := Cx.val y
      have v2 := Cy.val x
      unfold lawVal at v1 v2
      rw [if_neg hg] at v1
      rw [if_neg (fun k => hg (by rw [Nat.gcd_comm]; exact k))] at v2
      have w1 := of_decide_eq_true v1
      have w2 := of_decide_eq_true v2
      refine ⟨_, rfl, _, rfl, x, y, rfl, hx, rfl, _, rfl, ?_⟩
      show if decide (V.int (valueAt x y) = V.int 0) = true then _ else _
      rw [w1]
      refine iteT ?_
      refine ⟨_, rfl, _, rfl, y, x, rfl, hy, rfl, ?_⟩
      show Q (.bl (decide (V.int (valueAt y x) = V.int 0))) H6
      rw [w2]
      exact q H6
end
end Ft

namespace Ft
open PySem L2
theorem df_mk {K : PySem.W.Frag} {h : Heap} {mg : Str → Option Value} {x : Str} {st : Stmt} {ps : List Str} {f : Addr} {oc kV doc pm cdv ct : Value} {od an : Option Addr} {osl : Array (Option Value)} (X : K.In h) (G : h.Ns mainGlobals mg)
    (a : PySem.W.nsIn K mainGlobals x = some (some (.ref f))) (l : K.lookup f = some ⟨oc, od, .func (PySem.W.fnOf x x (defArgs st) (defBody st) (defScope st) .none kV doc pm an cdv ct), osl⟩) (c : PySem.W.codeIn K cdv x = true) (k : PySem.W.keepIn K (.ref f) = true)
    (hb : ∀ (kV doc pm : Value) (an : Option Addr) (cdv ct : Value) (us : List Value), us.length = ps.length → bindArgs (PySem.W.fnOf x x (defArgs st) (defBody st) (defScope st) .none kV doc pm an cdv ct) ⟨us, []⟩ = pure (ps.zip us)) : Df K mg x st ps :=
  have F := fun_mk (st := st) l c k
  ⟨f, _, F, PySem.W.mg_of X G a, F.binds hb⟩
theorem b1 {x : Str} {st : Stmt} {p : Str} (h : ∀ (kV doc pm : Value) (an : Option Addr) (cdv ct u : Value), bindArgs (PySem.W.fnOf x x (defArgs st) (defBody st) (defScope st) .none kV doc pm an cdv ct) ⟨[u], []⟩ = pure [(p, u)]) :
    ∀ (kV doc pm : Value) (an : Option Addr) (cdv ct : Value) (us : List Value), us.length = [p].length → bindArgs (PySem.W.fnOf x x (defArgs st) (defBody st) (defScope st) .none kV doc pm an cdv ct) ⟨us, []⟩ = pure ([p].zip us) :=
  fun kV doc pm an cdv ct us hl => match us, hl with | [u], _ => h kV doc pm an cdv ct u
theorem b2 {x : Str} {st : Stmt} {p p' : Str} (h : ∀ (kV doc pm : Value) (an : Option Addr) (cdv ct u v : Value), bindArgs (PySem.W.fnOf x x (defArgs st) (defBody st) (defScope st) .none kV doc pm an cdv ct) ⟨[u, v], []⟩ = pure [(p, u), (p', v)]) :
    ∀ (kV doc pm : Value) (an : Option Addr) (cdv ct : Value) (us : List Value), us.length = [p, p'].length → bindArgs (PySem.W.fnOf x x (defArgs st) (defBody st) (defScope st) .none kV doc pm an cdv ct) ⟨us, []⟩ = pure ([p, p'].zip us) :=
  fun kV doc pm an cdv ct us hl => match us, hl with | [u, v], _ => h kV doc pm an cdv ct u v
theorem b3 {x : Str} {st : Stmt} {p p' p'' : Str} (h : ∀ (kV doc pm : Value) (an : Option Addr) (cdv ct u v z : Value), bindArgs (PySem.W.fnOf x x (defArgs st) (defBody st) (defScope st) .none kV doc pm an cdv ct) ⟨[u, v, z], []⟩ = pure [(p, u), (p', v), (p'', z)]) :
    ∀ (kV doc pm : Value) (an : Option Addr) (cdv ct : Value) (us : List Value), us.length = [p, p', p''].length → bindArgs (PySem.W.fnOf x x (defArgs st) (defBody st) (defScope st) .none kV doc pm an cdv ct) ⟨us, []⟩ = pure ([p, p', p''].zip us) :=
  fun kV doc pm an cdv ct us hl => match us, hl with | [u, v, z], _ => h kV doc pm an cdv ct u v z
/-- the defs of the text, as the top has left them -/
structure Dfs (K : PySem.W.Frag) (mg : Str → Option Value) : Prop where
  is_integer : Df K mg "is_integer" s_is_integer ["thing"]
  is_between : Df K mg "is_between" s_is_between ["thing", "least", "most"]
  check_integer : Df K mg "check_integer" s_check_integer ["thing"]
  is_sign : Df K mg "is_sign" s_is_sign ["thing"]
  check_sign : Df K mg "check_sign" s_check_sign ["sign"]
  sign_at : Df K mg "sign_at" s_sign_at ["sign", "n"]
  value_at : Df K mg "value_at" s_value_at ["sign", "n"]
  value_at_two : Df K mg "value_at_two" s_value_at_two ["sign"]
  value_at_odd : Df K mg "value_at_odd" s_value_at_odd ["top", "bottom"]
  any_sign_of : Df K mg "any_sign_of" s_any_sign_of ["m"]
  without_squares : Df K mg "without_squares" s_without_squares ["m"]
  joined_sign : Df K mg "joined_sign" s_joined_sign ["one", "other"]
  deck : Df K mg "_law_deck" s__law_deck ["_law_script"]
  draw : Df K mg "_law_draw" s__law_draw ["_law_deck_here", "_law_many"]
  pick : Df K mg "_law_pick" s__law_pick ["_law_deck_here", "_law_some"]
  sgn : Df K mg "_law_sign" s__law_sign ["_law_deck_here"]
  lawSign : Df K mg "_law_is_sign" s__law_is_sign ["_law_number_here"]
  number : Df K mg "_law_number" s__law_number ["_law_deck_here"]
  common : Df K mg "_law_common" s__law_common ["_law_one", "_law_other"]
  val : Df K mg "_law_is_value" s__law_is_value ["_law_sign_here", "_law_n", "_law_told"]
  period : Df K mg "_law_is_period" s__law_is_period ["_law_sign_here"]
  law : Df K mg "law" s_law ["_law_script"]
theorem law_all {P : Program} {w : World} {K : PySem.W.Frag} {mg : Str → Option Value} {base : Heap} {f : Addr} {fd : FuncData} (M : Mat) (D : Dfs K mg) (B : Bi mg) (F : Fun K "law" "law" s_law f fd) : FnG P w K mg base 7 f fd ["_law_script"] (sp_law K) := by
  have c_int : Cal P w K mg base _ "is_integer" _ := ok_is_integer D.is_integer B
  have c_btw : Cal P w K mg base _ "is_between" _ := ok_is_between D.is_between c_int
  have c_chk : Cal P w K mg base _ "check_integer" _ := ok_check_integer D.check_integer c_int
  have c_wo : Cal P w K mg base _ "without_squares" _ := ok_without_squares D.without_squares B
  have c_any : Cal P w K mg base _ "any_sign_of" _ := ok_any_sign_of D.any_sign_of c_wo
  have c_is : Cal P w K mg base _ "is_sign" _ := ok_is_sign D.is_sign c_any c_btw
  have c_cs : Cal P w K mg base _ "check_sign" _ := ok_check_sign D.check_sign c_is
  have c_two : Cal P w K mg base _ "value_at_two" _ := ok_value_at_two D.value_at_two
  have c_odd : Cal P w K mg base _ "value_at_odd" _ := ok_value_at_odd D.value_at_odd
  have c_va : Cal P w K mg base _ "value_at" _ := ok_value_at D.value_at B c_two c_odd
  have c_sa : Cal P w K mg base _ "sign_at" _ := ok_sign_at D.sign_at c_cs c_chk c_va
  have k_sa : CalK P w K mg base 5 "sign_at" ["n", "sign"] swapV sp_sign_at := by
    obtain ⟨f, fd, F, m, b⟩ := D.sign_at.ex
    exact ⟨f, fd, _, _, fn_sign_at F c_cs c_chk c_va, m, F.kp, kb_sign_at F⟩
  have c_js : Cal P w K mg base _ "joined_sign" _ := ok_joined_sign D.joined_sign c_cs c_any
  have c_draw : Cal P w K mg base _ "_law_draw" _ := ok_draw D.draw B
  have c_pick : Cal P w K mg base _ "_law_pick" _ := ok_pick D.pick B c_draw
  have c_deck : Cal P w K mg base _ "_law_deck" _ := ok_deck D.deck B
  have c_ls : Cal P w K mg base _ "_law_is_sign" _ := ok_lawSign D.lawSign B
  have c_sgn : Cal P w K mg base _ "_law_sign" _ := ok_sign D.sgn B c_draw c_pick c_ls
  have c_number : Cal P w K mg base _ "_law_number" _ := ok_number D.number B c_draw
  have c_common : Cal P w K mg base _ "_law_common" _ := ok_common D.common B
  have c_val : Cal P w K mg base _ "_law_is_value" _ := ok_lawVal D.val B c_common
  have c_period : Cal P w K mg base _ "_law_is_period" _ := ok_period D.period B c_sa c_val
  exact ok_law F M B c_deck c_sgn c_is c_period c_pick c_number c_draw c_sa k_sa c_val c_js c_common
theorem walk {l : PySem.W.OpenLaw} {q : Program} {loose : List Str} {XP : (Str → Option Value) → Heap → Prop} {YP : World → Heap → Prop} {d : DefRec} {K : Params → PySem.W.Frag} (hn : l.most = some 63) (hdf : d.params.defaults = [])
    (hY : ∀ (w : World) (h : Heap), YP w h → (K w.params).In h)
    (F : ∀ (w : World) (mg : Str → Option Value) (fa : Addr) (h : Heap), (K w.params).In h → h.Ns mainGlobals mg → mg d.name = some (.ref fa) →
      ∃ fd : FuncData, (∀ (s : Shared) (u : Value), BindsTo s fd ⟨[u], []⟩ [("_law_script", u)]) ∧ ∀ base : Heap, (K w.params).In base → base.Ns mainGlobals mg → FnG l.prog w (K w.params) mg base 7 fa fd ["_law_script"] (sp_law (K w.params))) :
    PySem.W.WalkO q loose XP YP l.row.toRowW d [] (fun f vs => PySem.call f vs) :=
  walk_g (n := 63) (k := 7) (x := "_law_script") (sp := sp_law) hn (by decide) hdf ⟨rfl, by decide, by decide⟩ hY F (fun _ _ a ns hl hS => ⟨a, ns, rfl, hS, hl, fun _ => rfl⟩)
theorem law_at {l : PySem.W.OpenLaw} {w : World} {K : PySem.W.Frag} {mg : Str → Option Value} {h : Heap} {fa f : Addr} {oc kV doc pm cdv ct : Value} {od an : Option Addr} {osl : Array (Option Value)} (M : Mat) (X : K.In h) (G : h.Ns mainGlobals mg) (hfa : mg "law" = some (.ref fa))
    (a : PySem.W.nsIn K mainGlobals "law" = some (some (.ref f))) (lk : K.lookup f = some ⟨oc, od, .func (PySem.W.fnOf "law" "law" (defArgs s_law) (defBody s_law) (defScope s_law) .none kV doc pm an cdv ct), osl⟩) (c : PySem.W.codeIn K cdv "law" = true) (k : PySem.W.keepIn K (.ref f) = true)
    (D : Dfs K mg) (B : Bi mg) :
    ∃ fd : FuncData, (∀ (s : Shared) (u : Value), BindsTo s fd ⟨[u], []⟩ [("_law_script", u)]) ∧ ∀ base : Heap, K.In base → base.Ns mainGlobals mg → FnG l.prog w K mg base 7 fa fd ["_law_script"] (sp_law K) := by
  have e := hfa.symm.trans (PySem.W.mg_of X G a)
  cases e
  exact ⟨_, fun s u => .of_eq rfl, fun base _ _ => law_all M D B (fun_mk (st := s_law) lk c k)⟩
end Ft

namespace Ft
/-! The signs up to 400 from 0: their odd primes, whether 8 divides them, whether the sign by 4 is in them. -/
structure Ent where
  s : Int
  a : Nat
  ps : List Nat
  b2 : Bool
  b4 : Bool
def lg (p n : Nat) : Bool := !(Nat.beq (n ^ ((p - 1) / 2) % p) 1)
def l8 (n : Nat) : Bool := Nat.beq (n % 8) 3 || Nat.beq (n % 8) 5
def l4 (n : Nat) : Bool := Nat.beq (n % 4) 3
def lgs (n : Nat) : List Nat → Bool
  | [] => false
  | p :: r => xor (lg p n) (lgs n r)
def lam (e : Ent) (n : Nat) : Bool := xor (lgs n e.ps) (xor (e.b2 && l8 n) (e.b4 && l4 n))
def fv (e : Ent) (n : Nat) : Int := if Nat.beq (Nat.gcd e.a n) 1 = true then sg (!lam e n) else 0
def prs : List Nat := [3, 5, 7, 11, 13, 17, 19, 23, 29, 31, 37, 41, 43, 47, 53, 59, 61, 67, 71, 73, 79, 83, 89, 97, 101, 103, 107, 109, 113, 127, 131, 137, 139, 149, 151, 157, 163, 167, 173, 179, 181, 191, 193, 197, 199, 211, 223, 227, 229, 233, 239, 241, 251, 257, 263, 269, 271, 277, 281, 283, 293, 307, 311, 313, 317, 331, 337, 347, 349, 353, 359, 367, 373, 379, 383, 389, 397]
inductive Tre where
  | leaf
  | node (l : Tre) (e : Ent) (r : Tre)
def Tre.list : Tre → List Ent
  | .leaf => []
  | .node l e r => l.list ++ e :: r.list
def Tre.find (j : Int) : Tre → Option Ent
  | .leaf => none
  | .node l e r => if j < e.s then l.find j else if e.s < j then r.find j else some e
def tr0 : Tre := (.node (.node (.node (.node (.node .leaf ⟨-399, 399, [3, 7, 19], false, false⟩ .leaf) ⟨-395, 395, [5, 79], false, false⟩ (.node .leaf ⟨-391, 391, [17, 23], false, false⟩ .leaf)) ⟨-388, 388, [97], false, true⟩ (.node (.node .leaf ⟨-383, 383, [383], false, false⟩ .leaf) ⟨-379, 379, [379], false, false⟩ (.node .leaf ⟨-376, 376, [47], true, false⟩ .leaf))) ⟨-372, 372, [3, 31], false, true⟩ (.node (.node (.node .leaf ⟨-371, 371, [7, 53], false, false⟩ .leaf) ⟨-367, 367, [367], false, false⟩ (.node .leaf ⟨-359, 359, [359], false, false⟩ .leaf)) ⟨-356, 356, [89], false, true⟩ (.node (.node .leaf ⟨-355, 355, [5, 71], false, false⟩ .leaf) ⟨-347, 347, [347], false, false⟩ (.node .leaf ⟨-344, 344, [43], true, false⟩ .leaf)))) ⟨-340, 340, [5, 17], false, true⟩ (.node (.node (.node (.node .leaf ⟨-339, 339, [3, 113], false, false⟩ .leaf) ⟨-335, 335, [5, 67], false, false⟩ (.node .leaf ⟨-331, 331, [331], false, false⟩ .leaf)) ⟨-328, 328, [41], true, true⟩ (.node (.node .leaf ⟨-327, 327, [3, 109], false, false⟩ .leaf) ⟨-323, 323, [17, 19], false, false⟩ (.node .leaf ⟨-319, 319, [11, 29], false, false⟩ .leaf))) ⟨-312, 312, [3, 13], true, false⟩ (.node (.node (.node .leaf ⟨-311, 311, [311], false, false⟩ .leaf) ⟨-308, 308, [7, 11], false, true⟩ (.node .leaf ⟨-307, 307, [307], false, false⟩ .leaf)) ⟨-303, 303, [3, 101], false, false⟩ (.node (.node .leaf ⟨-299, 299, [13, 23], false, false⟩ .leaf) ⟨-296, 296, [37], true, true⟩ .leaf))))
def tr1 : Tre := (.node (.node (.node (.node (.node .leaf ⟨-292, 292, [73], false, true⟩ .leaf) ⟨-291, 291, [3, 97], false, false⟩ (.node .leaf ⟨-287, 287, [7, 41], false, false⟩ .leaf)) ⟨-283, 283, [283], false, false⟩ (.node (.node .leaf ⟨-280, 280, [5, 7], true, false⟩ .leaf) ⟨-276, 276, [3, 23], false, true⟩ (.node .leaf ⟨-271, 271, [271], false, false⟩ .leaf))) ⟨-267, 267, [3, 89], false, false⟩ (.node (.node (.node .leaf ⟨-264, 264, [3, 11], true, true⟩ .leaf) ⟨-263, 263, [263], false, false⟩ (.node .leaf ⟨-260, 260, [5, 13], false, true⟩ .leaf)) ⟨-259, 259, [7, 37], false, false⟩ (.node (.node .leaf ⟨-255, 255, [3, 5, 17], false, false⟩ .leaf) ⟨-251, 251, [251], false, false⟩ .leaf))) ⟨-248, 248, [31], true, false⟩ (.node (.node (.node (.node .leaf ⟨-247, 247, [13, 19], false, false⟩ .leaf) ⟨-244, 244, [61], false, true⟩ (.node .leaf ⟨-239, 239, [239], false, false⟩ .leaf)) ⟨-235, 235, [5, 47], false, false⟩ (.node (.node .leaf ⟨-232, 232, [29], true, true⟩ .leaf) ⟨-231, 231, [3, 7, 11], false, false⟩ (.node .leaf ⟨-228, 228, [3, 19], false, true⟩ .leaf))) ⟨-227, 227, [227], false, false⟩ (.node (.node (.node .leaf ⟨-223, 223, [223], false, false⟩ .leaf) ⟨-219, 219, [3, 73], false, false⟩ (.node .leaf ⟨-215, 215, [5, 43], false, false⟩ .leaf)) ⟨-212, 212, [53], false, true⟩ (.node (.node .leaf ⟨-211, 211, [211], false, false⟩ .leaf) ⟨-203, 203, [7, 29], false, false⟩ .leaf))))
def tr2 : Tre := (.node (.node (.node (.node (.node .leaf ⟨-195, 195, [3, 5, 13], false, false⟩ .leaf) ⟨-191, 191, [191], false, false⟩ (.node .leaf ⟨-187, 187, [11, 17], false, false⟩ .leaf)) ⟨-184, 184, [23], true, false⟩ (.node (.node .leaf ⟨-183, 183, [3, 61], false, false⟩ .leaf) ⟨-179, 179, [179], false, false⟩ (.node .leaf ⟨-168, 168, [3, 7], true, true⟩ .leaf))) ⟨-167, 167, [167], false, false⟩ (.node (.node (.node .leaf ⟨-164, 164, [41], false, true⟩ .leaf) ⟨-163, 163, [163], false, false⟩ (.node .leaf ⟨-159, 159, [3, 53], false, false⟩ .leaf)) ⟨-155, 155, [5, 31], false, false⟩ (.node (.node .leaf ⟨-152, 152, [19], true, false⟩ .leaf) ⟨-151, 151, [151], false, false⟩ (.node .leaf ⟨-148, 148, [37], false, true⟩ .leaf)))) ⟨-143, 143, [11, 13], false, false⟩ (.node (.node (.node (.node .leaf ⟨-139, 139, [139], false, false⟩ .leaf) ⟨-136, 136, [17], true, true⟩ (.node .leaf ⟨-132, 132, [3, 11], false, true⟩ .leaf)) ⟨-131, 131, [131], false, false⟩ (.node (.node .leaf ⟨-127, 127, [127], false, false⟩ .leaf) ⟨-123, 123, [3, 41], false, false⟩ (.node .leaf ⟨-120, 120, [3, 5], true, false⟩ .leaf))) ⟨-119, 119, [7, 17], false, false⟩ (.node (.node (.node .leaf ⟨-116, 116, [29], false, true⟩ .leaf) ⟨-115, 115, [5, 23], false, false⟩ (.node .leaf ⟨-111, 111, [3, 37], false, false⟩ .leaf)) ⟨-107, 107, [107], false, false⟩ (.node (.node .leaf ⟨-104, 104, [13], true, true⟩ .leaf) ⟨-103, 103, [103], false, false⟩ .leaf))))
def tr3 : Tre := (.node (.node (.node (.node (.node .leaf ⟨-91, 91, [7, 13], false, false⟩ .leaf) ⟨-88, 88, [11], true, false⟩ (.node .leaf ⟨-87, 87, [3, 29], false, false⟩ .leaf)) ⟨-84, 84, [3, 7], false, true⟩ (.node (.node .leaf ⟨-83, 83, [83], false, false⟩ .leaf) ⟨-79, 79, [79], false, false⟩ (.node .leaf ⟨-71, 71, [71], false, false⟩ .leaf))) ⟨-68, 68, [17], false, true⟩ (.node (.node (.node .leaf ⟨-67, 67, [67], false, false⟩ .leaf) ⟨-59, 59, [59], false, false⟩ (.node .leaf ⟨-56, 56, [7], true, false⟩ .leaf)) ⟨-55, 55, [5, 11], false, false⟩ (.node (.node .leaf ⟨-52, 52, [13], false, true⟩ .leaf) ⟨-51, 51, [3, 17], false, false⟩ .leaf))) ⟨-47, 47, [47], false, false⟩ (.node (.node (.node (.node .leaf ⟨-43, 43, [43], false, false⟩ .leaf) ⟨-40, 40, [5], true, true⟩ (.node .leaf ⟨-39, 39, [3, 13], false, false⟩ .leaf)) ⟨-35, 35, [5, 7], false, false⟩ (.node (.node .leaf ⟨-31, 31, [31], false, false⟩ .leaf) ⟨-24, 24, [3], true, false⟩ (.node .leaf ⟨-23, 23, [23], false, false⟩ .leaf))) ⟨-20, 20, [5], false, true⟩ (.node (.node (.node .leaf ⟨-19, 19, [19], false, false⟩ .leaf) ⟨-15, 15, [3, 5], false, false⟩ (.node .leaf ⟨-11, 11, [11], false, false⟩ .leaf)) ⟨-8, 8, [], true, true⟩ (.node (.node .leaf ⟨-7, 7, [7], false, false⟩ .leaf) ⟨-4, 4, [], false, true⟩ .leaf))))
def tr4 : Tre := (.node (.node (.node (.node (.node .leaf ⟨1, 1, [], false, false⟩ .leaf) ⟨5, 5, [5], false, false⟩ (.node .leaf ⟨8, 8, [], true, false⟩ .leaf)) ⟨12, 12, [3], false, true⟩ (.node (.node .leaf ⟨13, 13, [13], false, false⟩ .leaf) ⟨17, 17, [17], false, false⟩ (.node .leaf ⟨21, 21, [3, 7], false, false⟩ .leaf))) ⟨24, 24, [3], true, true⟩ (.node (.node (.node .leaf ⟨28, 28, [7], false, true⟩ .leaf) ⟨29, 29, [29], false, false⟩ (.node .leaf ⟨33, 33, [3, 11], false, false⟩ .leaf)) ⟨37, 37, [37], false, false⟩ (.node (.node .leaf ⟨40, 40, [5], true, false⟩ .leaf) ⟨41, 41, [41], false, false⟩ (.node .leaf ⟨44, 44, [11], false, true⟩ .leaf)))) ⟨53, 53, [53], false, false⟩ (.node (.node (.node (.node .leaf ⟨56, 56, [7], true, true⟩ .leaf) ⟨57, 57, [3, 19], false, false⟩ (.node .leaf ⟨60, 60, [3, 5], false, true⟩ .leaf)) ⟨61, 61, [61], false, false⟩ (.node (.node .leaf ⟨65, 65, [5, 13], false, false⟩ .leaf) ⟨69, 69, [3, 23], false, false⟩ (.node .leaf ⟨73, 73, [73], false, false⟩ .leaf))) ⟨76, 76, [19], false, true⟩ (.node (.node (.node .leaf ⟨77, 77, [7, 11], false, false⟩ .leaf) ⟨85, 85, [5, 17], false, false⟩ (.node .leaf ⟨88, 88, [11], true, true⟩ .leaf)) ⟨89, 89, [89], false, false⟩ (.node (.node .leaf ⟨92, 92, [23], false, true⟩ .leaf) ⟨93, 93, [3, 31], false, false⟩ .leaf))))
def tr5 : Tre := (.node (.node (.node (.node (.node .leaf ⟨101, 101, [101], false, false⟩ .leaf) ⟨104, 104, [13], true, false⟩ (.node .leaf ⟨105, 105, [3, 5, 7], false, false⟩ .leaf)) ⟨109, 109, [109], false, false⟩ (.node (.node .leaf ⟨113, 113, [113], false, false⟩ .leaf) ⟨120, 120, [3, 5], true, true⟩ (.node .leaf ⟨124, 124, [31], false, true⟩ .leaf))) ⟨129, 129, [3, 43], false, false⟩ (.node (.node (.node .leaf ⟨133, 133, [7, 19], false, false⟩ .leaf) ⟨136, 136, [17], true, false⟩ (.node .leaf ⟨137, 137, [137], false, false⟩ .leaf)) ⟨140, 140, [5, 7], false, true⟩ (.node (.node .leaf ⟨141, 141, [3, 47], false, false⟩ .leaf) ⟨145, 145, [5, 29], false, false⟩ .leaf))) ⟨149, 149, [149], false, false⟩ (.node (.node (.node (.node .leaf ⟨152, 152, [19], true, true⟩ .leaf) ⟨156, 156, [3, 13], false, true⟩ (.node .leaf ⟨157, 157, [157], false, false⟩ .leaf)) ⟨161, 161, [7, 23], false, false⟩ (.node (.node .leaf ⟨165, 165, [3, 5, 11], false, false⟩ .leaf) ⟨168, 168, [3, 7], true, false⟩ (.node .leaf ⟨172, 172, [43], false, true⟩ .leaf))) ⟨173, 173, [173], false, false⟩ (.node (.node (.node .leaf ⟨177, 177, [3, 59], false, false⟩ .leaf) ⟨181, 181, [181], false, false⟩ (.node .leaf ⟨184, 184, [23], true, true⟩ .leaf)) ⟨185, 185, [5, 37], false, false⟩ (.node (.node .leaf ⟨188, 188, [47], false, true⟩ .leaf) ⟨193, 193, [193], false, false⟩ .leaf))))
def tr6 : Tre := (.node (.node (.node (.node (.node .leaf ⟨201, 201, [3, 67], false, false⟩ .leaf) ⟨204, 204, [3, 17], false, true⟩ (.node .leaf ⟨205, 205, [5, 41], false, false⟩ .leaf)) ⟨209, 209, [11, 19], false, false⟩ (.node (.node .leaf ⟨213, 213, [3, 71], false, false⟩ .leaf) ⟨217, 217, [7, 31], false, false⟩ (.node .leaf ⟨220, 220, [5, 11], false, true⟩ .leaf))) ⟨221, 221, [13, 17], false, false⟩ (.node (.node (.node .leaf ⟨229, 229, [229], false, false⟩ .leaf) ⟨232, 232, [29], true, false⟩ (.node .leaf ⟨233, 233, [233], false, false⟩ .leaf)) ⟨236, 236, [59], false, true⟩ (.node (.node .leaf ⟨237, 237, [3, 79], false, false⟩ .leaf) ⟨241, 241, [241], false, false⟩ (.node .leaf ⟨248, 248, [31], true, true⟩ .leaf)))) ⟨249, 249, [3, 83], false, false⟩ (.node (.node (.node (.node .leaf ⟨253, 253, [11, 23], false, false⟩ .leaf) ⟨257, 257, [257], false, false⟩ (.node .leaf ⟨264, 264, [3, 11], true, false⟩ .leaf)) ⟨265, 265, [5, 53], false, false⟩ (.node (.node .leaf ⟨268, 268, [67], false, true⟩ .leaf) ⟨269, 269, [269], false, false⟩ (.node .leaf ⟨273, 273, [3, 7, 13], false, false⟩ .leaf))) ⟨277, 277, [277], false, false⟩ (.node (.node (.node .leaf ⟨280, 280, [5, 7], true, true⟩ .leaf) ⟨281, 281, [281], false, false⟩ (.node .leaf ⟨284, 284, [71], false, true⟩ .leaf)) ⟨285, 285, [3, 5, 19], false, false⟩ (.node (.node .leaf ⟨293, 293, [293], false, false⟩ .leaf) ⟨296, 296, [37], true, false⟩ .leaf))))
def tr7 : Tre := (.node (.node (.node (.node (.node .leaf ⟨305, 305, [5, 61], false, false⟩ .leaf) ⟨309, 309, [3, 103], false, false⟩ (.node .leaf ⟨312, 312, [3, 13], true, true⟩ .leaf)) ⟨313, 313, [313], false, false⟩ (.node (.node .leaf ⟨316, 316, [79], false, true⟩ .leaf) ⟨317, 317, [317], false, false⟩ (.node .leaf ⟨321, 321, [3, 107], false, false⟩ .leaf))) ⟨328, 328, [41], true, false⟩ (.node (.node (.node .leaf ⟨329, 329, [7, 47], false, false⟩ .leaf) ⟨332, 332, [83], false, true⟩ (.node .leaf ⟨337, 337, [337], false, false⟩ .leaf)) ⟨341, 341, [11, 31], false, false⟩ (.node (.node .leaf ⟨344, 344, [43], true, true⟩ .leaf) ⟨345, 345, [3, 5, 23], false, false⟩ .leaf))) ⟨348, 348, [3, 29], false, true⟩ (.node (.node (.node (.node .leaf ⟨349, 349, [349], false, false⟩ .leaf) ⟨353, 353, [353], false, false⟩ (.node .leaf ⟨357, 357, [3, 7, 17], false, false⟩ .leaf)) ⟨364, 364, [7, 13], false, true⟩ (.node (.node .leaf ⟨365, 365, [5, 73], false, false⟩ .leaf) ⟨373, 373, [373], false, false⟩ (.node .leaf ⟨376, 376, [47], true, true⟩ .leaf))) ⟨377, 377, [13, 29], false, false⟩ (.node (.node (.node .leaf ⟨380, 380, [5, 19], false, true⟩ .leaf) ⟨381, 381, [3, 127], false, false⟩ (.node .leaf ⟨385, 385, [5, 7, 11], false, false⟩ .leaf)) ⟨389, 389, [389], false, false⟩ (.node (.node .leaf ⟨393, 393, [3, 131], false, false⟩ .leaf) ⟨397, 397, [397], false, false⟩ .leaf))))
def tre : Tre := (.node (.node (.node tr0 ⟨-295, 295, [5, 59], false, false⟩ tr1) ⟨-199, 199, [199], false, false⟩ (.node tr2 ⟨-95, 95, [5, 19], false, false⟩ tr3)) ⟨-3, 3, [3], false, false⟩ (.node (.node tr4 ⟨97, 97, [97], false, false⟩ tr5) ⟨197, 197, [197], false, false⟩ (.node tr6 ⟨301, 301, [7, 43], false, false⟩ tr7)))
def tab : List Ent := tre.list
/-- an odd prime, as far as the powers tell -/
def okP (p : Nat) : Bool := Nat.blt 2 p && (List.range p).all fun n => Nat.beq n 0 || (Nat.beq (n ^ ((p - 1) / 2) % p) 1 || Nat.beq (n ^ ((p - 1) / 2) % p + 1) p)
def okE (e : Ent) : Bool := Nat.beq e.s.natAbs e.a && (e.ps.all (fun p => Nat.beq (e.a % p) 0 && prs.contains p) && ((!e.b2 || Nat.beq (e.a % 8) 0) && (!e.b4 || Nat.beq (e.a % 4) 0)))
def okV (e : Ent) : Bool := (List.range e.a).all fun n => decide (valueRest e.s n = fv e n)
def okN (e : Ent) : Bool := decide (fv e (e.a - 1) = if 0 < e.s then 1 else -1)
def okS (e : Ent) : Bool := decide (((List.range e.a).map (fv e)).sum = if e.s = 1 then 1 else 0)
def ok4 (e : Ent) : Bool := !isSign (4 * e.s)
/-- what stands in one of the two alone -/
def xm : Nat → List Nat → List Nat → List Nat
  | 0, xs, ys => xs ++ ys
  | _ + 1, [], ys => ys
  | _ + 1, x :: xs, [] => x :: xs
  | k + 1, x :: xs, y :: ys => if Nat.blt x y = true then x :: xm k xs (y :: ys) else if Nat.blt y x = true then y :: xm k (x :: xs) ys else if Nat.beq x y = true then xm k xs ys else x :: xs ++ y :: ys
def okG (e f g : Ent) (j : Int) : Bool := decide (g.s = j) && (decide (g.ps = xm 10 e.ps f.ps) && ((g.b2 == xor e.b2 f.b2) && ((g.b4 == xor e.b4 f.b4) && Nat.beq ((e.a * f.a) ^ 3 % g.a) 0)))
def okJ (e f : Ent) : Bool := match tre.find (anySign (e.s * f.s)) with
  | some g => okG e f g (anySign (e.s * f.s))
  | none => !isSign (anySign (e.s * f.s))
def okT (e f : Ent) : Bool := !Nat.beq (Nat.gcd e.a f.a) 1 || decide (fv e f.a = fv f e.a * (if e.s < 0 ∧ f.s < 0 then -1 else 1))
def prsOf (f : Ent → Ent → Bool) : List Ent → Bool
  | [] => true
  | e :: r => (e :: r).all (f e) && prsOf f r
/-- the first k rows of it -/
def prsN (f : Ent → Ent → Bool) : Nat → List Ent → Bool
  | 0, _ => true
  | _ + 1, [] => true
  | k + 1, e :: r => (e :: r).all (f e) && prsN f k r
theorem prs_cut {f : Ent → Ent → Bool} : ∀ (k : Nat) (l : List Ent), prsN f k l = true → prsOf f (l.drop k) = true → prsOf f l = true
  | 0, l, _, h => h
  | _ + 1, [], _, _ => rfl
  | k + 1, e :: r, h1, h2 => by
    unfold prsN at h1
    rw [Bool.and_eq_true] at h1
    unfold prsOf
    rw [Bool.and_eq_true]
    exact ⟨h1.1, prs_cut k r h1.2 h2⟩
theorem tab_all : (((List.range 801).filter fun i : Nat => isSign ((i : Int) - 400)).map fun i : Nat => (i : Int) - 400) = tab.map Ent.s := by decide +kernel
theorem prs_all : prs.all okP = true := by decide +kernel
theorem tab_E : tab.all okE = true := by decide +kernel
theorem tab_4 : tab.all ok4 = true := by decide +kernel
end Ft

namespace Ft
/-! from the table to all integers -/
theorem beq_ {a b : Nat} : Nat.beq a b = true ↔ a = b := by
  constructor
  · exact Nat.eq_of_beq_eq_true
  · rintro rfl; exact Nat.beq_refl a
theorem gcd_mod (a n : Nat) : Nat.gcd a (n % a) = Nat.gcd a n := by
  rw [Nat.gcd_comm, ← Nat.gcd_rec]
theorem gcd_emod {a : Nat} (n : Int) (ha : 0 < a) : Nat.gcd a (n % (a : Int)).toNat = Nat.gcd a n.natAbs := by
  have hr := Int.emod_nonneg n (b := (a : Int)) (by omega)
  have e := Int.emod_add_mul_ediv n (a : Int)
  have er : (((n % (a : Int)).toNat : Nat) : Int) = n % (a : Int) := Int.toNat_of_nonneg hr
  apply Nat.dvd_antisymm
  · refine Nat.dvd_gcd (Nat.gcd_dvd_left _ _) ?_
    have h1 : ((Nat.gcd a (n % (a : Int)).toNat : Nat) : Int) ∣ (a : Int) := Int.natCast_dvd_natCast.mpr (Nat.gcd_dvd_left _ _)
    have h2 : ((Nat.gcd a (n % (a : Int)).toNat : Nat) : Int) ∣ n % (a : Int) := by
      have := Int.natCast_dvd_natCast.mpr (Nat.gcd_dvd_right a (n % (a : Int)).toNat)
      rw [er] at this
      exact this
    refine (Int.natAbs_dvd_natAbs (a := ((Nat.gcd a (n % (a : Int)).toNat : Nat) : Int)) (b := n)).mpr ?_
    have h3 := Int.dvd_add h2 (Int.dvd_trans h1 (Int.dvd_mul_right (a : Int) (n / (a : Int))))
    rw [e] at h3
    exact h3
  · refine Nat.dvd_gcd (Nat.gcd_dvd_left _ _) ?_
    have h1 : ((Nat.gcd a n.natAbs : Nat) : Int) ∣ (a : Int) := Int.natCast_dvd_natCast.mpr (Nat.gcd_dvd_left _ _)
    have h2 : ((Nat.gcd a n.natAbs : Nat) : Int) ∣ n := (Int.natAbs_dvd_natAbs (a := ((Nat.gcd a n.natAbs : Nat) : Int)) (b := n)).mp (Nat.gcd_dvd_right _ _)
    refine Int.natCast_dvd_natCast.mp ?_
    rw [er, Int.emod_def]
    exact Int.dvd_sub h2 (Int.dvd_trans h1 (Int.dvd_mul_right _ _))
/-! ### the logs -/
structure PrOk (p : Nat) : Prop where
  two : 2 < p
  val : ∀ n, n < p → n ≠ 0 → n ^ ((p - 1) / 2) % p = 1 ∨ n ^ ((p - 1) / 2) % p + 1 = p
theorem prOk {p : Nat} (h : p ∈ prs) : PrOk p := by
  have c := List.all_eq_true.mp prs_all p h
  unfold okP at c
  rw [Bool.and_eq_true] at c
  refine ⟨Nat.le_of_ble_eq_true c.1, fun n hn h0 => ?_⟩
  have d := List.all_eq_true.mp c.2 n (List.mem_range.mpr hn)
  rw [Bool.or_eq_true, Bool.or_eq_true, beq_, beq_, beq_] at d
  rcases d with d | d | d
  · exact absurd d h0
  · exact .inl d
  · exact .inr d
theorem lg_mod {p a : Nat} (n : Nat) (h : p ∣ a) : lg p (n % a) = lg p n := by
  unfold lg
  rw [Nat.pow_mod (n % a), Nat.mod_mod_of_dvd n h, ← Nat.pow_mod]
theorem lg_mul {p m n : Nat} (P : PrOk p) (hm : m % p ≠ 0) (hn : n % p ≠ 0) : lg p (m * n) = xor (lg p m) (lg p n) := by
  have t := P.two
  have hp : 0 < p := by omega
  have vm := P.val (m % p) (Nat.mod_lt _ hp) hm
  have vn := P.val (n % p) (Nat.mod_lt _ hp) hn
  rw [← Nat.pow_mod] at vm vn
  unfold lg
  rw [Nat.mul_pow, Nat.mul_mod]
  have b1 : ∀ {x : Nat}, x = 1 → Nat.beq x 1 = true := fun h => beq_.mpr h
  have b0 : ∀ {x : Nat}, x ≠ 1 → Nat.beq x 1 = false := fun h => by
    cases e : Nat.beq _ 1
    · rfl
    · exact absurd (beq_.mp e) h
  rcases vm with vm | vm <;> rcases vn with vn | vn
  · rw [vm, vn, Nat.mod_eq_of_lt (by omega : 1 * 1 < p)]; rfl
  · have e : n ^ ((p - 1) / 2) % p = p - 1 := by omega
    rw [vm, e, Nat.one_mul, Nat.mod_eq_of_lt (by omega), b0 (by omega), b1 rfl]; rfl
  · have e : m ^ ((p - 1) / 2) % p = p - 1 := by omega
    rw [vn, e, Nat.mul_one, Nat.mod_eq_of_lt (by omega), b0 (by omega), b1 rfl]; rfl
  · have e : n ^ ((p - 1) / 2) % p = p - 1 := by omega
    have e' : m ^ ((p - 1) / 2) % p = p - 1 := by omega
    have sq : (p - 1) * (p - 1) % p = 1 := by
      obtain ⟨q, rfl⟩ : ∃ q, p = q + 3 := ⟨p - 3, by omega⟩
      have : (q + 3 - 1) * (q + 3 - 1) = 1 + (q + 3) * (q + 1) := by
        rw [show q + 3 - 1 = q + 2 by omega, Nat.add_mul, Nat.mul_add, Nat.add_mul q 3, Nat.mul_add q q 1, Nat.mul_add 3]
        omega
      rw [this, Nat.add_mul_mod_self_left, Nat.mod_eq_of_lt (by omega)]
    rw [e, e', sq, b1 rfl, b0 (by omega)]; rfl
theorem l8_mod {a : Nat} (n : Nat) (h : 8 ∣ a) : l8 (n % a) = l8 n := by
  unfold l8
  rw [Nat.mod_mod_of_dvd n h]
theorem l4_mod {a : Nat} (n : Nat) (h : 4 ∣ a) : l4 (n % a) = l4 n := by
  unfold l4
  rw [Nat.mod_mod_of_dvd n h]
theorem l8_mul {m n : Nat} (hm : m % 2 = 1) (hn : n % 2 = 1) : l8 (m * n) = xor (l8 m) (l8 n) := by
  unfold l8
  rw [Nat.mul_mod]
  obtain h | h | h | h : m % 8 = 1 ∨ m % 8 = 3 ∨ m % 8 = 5 ∨ m % 8 = 7 := by omega
  all_goals
    obtain k | k | k | k : n % 8 = 1 ∨ n % 8 = 3 ∨ n % 8 = 5 ∨ n % 8 = 7 := by omega
    all_goals (rw [h, k]; rfl)
theorem l4_mul {m n : Nat} (hm : m % 2 = 1) (hn : n % 2 = 1) : l4 (m * n) = xor (l4 m) (l4 n) := by
  unfold l4
  rw [Nat.mul_mod]
  obtain h | h : m % 4 = 1 ∨ m % 4 = 3 := by omega
  all_goals
    obtain k | k : n % 4 = 1 ∨ n % 4 = 3 := by omega
    all_goals (rw [h, k]; rfl)
/-! ### an entry -/
structure EOk (e : Ent) : Prop where
  abs : e.s.natAbs = e.a
  ps : ∀ p ∈ e.ps, p ∣ e.a ∧ PrOk p
  d8 : e.b2 = true → 8 ∣ e.a
  d4 : e.b4 = true → 4 ∣ e.a
theorem eOk {e : Ent} (h : e ∈ tab) : EOk e := by
  have c := List.all_eq_true.mp tab_E e h
  unfold okE at c
  simp only [Bool.and_eq_true, Bool.or_eq_true, beq_, List.all_eq_true, Bool.not_eq_true'] at c
  obtain ⟨c1, c2, c3, c4⟩ := c
  refine ⟨c1, fun p hp => ⟨Nat.dvd_of_mod_eq_zero (c2 p hp).1, prOk (List.contains_iff_mem.mp (c2 p hp).2)⟩, fun k => ?_, fun k => ?_⟩
  · rcases c3 with c3 | c3
    · rw [k] at c3; cases c3
    · exact Nat.dvd_of_mod_eq_zero c3
  · rcases c4 with c4 | c4
    · rw [k] at c4; cases c4
    · exact Nat.dvd_of_mod_eq_zero c4
theorem lgs_mod {a : Nat} (n : Nat) : ∀ ps : List Nat, (∀ p ∈ ps, p ∣ a) → lgs (n % a) ps = lgs n ps
  | [], _ => rfl
  | p :: r, h => by
    unfold lgs
    rw [lg_mod n (h p List.mem_cons_self), lgs_mod n r fun q hq => h q (List.mem_cons_of_mem _ hq)]
theorem xor4 (a b c d : Bool) : xor (xor a b) (xor c d) = xor (xor a c) (xor b d) := by cases a <;> cases b <;> cases c <;> cases d <;> rfl
theorem lgs_mul {m n : Nat} : ∀ ps : List Nat, (∀ p ∈ ps, PrOk p ∧ m % p ≠ 0 ∧ n % p ≠ 0) → lgs (m * n) ps = xor (lgs m ps) (lgs n ps)
  | [], _ => rfl
  | p :: r, h => by
    have hp := h p List.mem_cons_self
    unfold lgs
    rw [lg_mul hp.1 hp.2.1 hp.2.2, lgs_mul r fun q hq => h q (List.mem_cons_of_mem _ hq), xor4]
theorem lam_mod {e : Ent} (E : EOk e) (n : Nat) : lam e (n % e.a) = lam e n := by
  unfold lam
  rw [lgs_mod n e.ps fun p hp => (E.ps p hp).1]
  have h8 : (e.b2 && l8 (n % e.a)) = (e.b2 && l8 n) := by
    cases k : e.b2
    · rfl
    · rw [l8_mod n (E.d8 k)]
  have h4 : (e.b4 && l4 (n % e.a)) = (e.b4 && l4 n) := by
    cases k : e.b4
    · rfl
    · rw [l4_mod n (E.d4 k)]
  rw [h8, h4]
theorem cop_mod {a n p : Nat} (h : Nat.gcd a n = 1) (hp : p ∣ a) (h2 : 2 ≤ p) : n % p ≠ 0 := fun k => by
  have := Nat.dvd_gcd hp (Nat.dvd_of_mod_eq_zero k)
  rw [h] at this
  have := Nat.le_of_dvd (by decide) this
  omega
theorem lam_mul {e : Ent} (E : EOk e) {m n : Nat} (hm : Nat.gcd e.a m = 1) (hn : Nat.gcd e.a n = 1) : lam e (m * n) = xor (lam e m) (lam e n) := by
  unfold lam
  rw [lgs_mul e.ps fun p hp => ⟨(E.ps p hp).2, cop_mod hm (E.ps p hp).1 (Nat.le_of_lt (E.ps p hp).2.two), cop_mod hn (E.ps p hp).1 (Nat.le_of_lt (E.ps p hp).2.two)⟩]
  have odd : ∀ {x : Nat}, Nat.gcd e.a x = 1 → 2 ∣ e.a → x % 2 = 1 := fun {x} h h2 => by
    have := cop_mod h h2 (Nat.le_refl 2)
    omega
  have h8 : (e.b2 && l8 (m * n)) = xor (e.b2 && l8 m) (e.b2 && l8 n) := by
    cases k : e.b2
    · rfl
    · have d := Nat.dvd_trans (by decide : 2 ∣ 8) (E.d8 k)
      exact l8_mul (odd hm d) (odd hn d)
  have h4 : (e.b4 && l4 (m * n)) = xor (e.b4 && l4 m) (e.b4 && l4 n) := by
    cases k : e.b4
    · rfl
    · have d := Nat.dvd_trans (by decide : 2 ∣ 4) (E.d4 k)
      exact l4_mul (odd hm d) (odd hn d)
  rw [h8, h4, xor4 (e.b2 && l8 m), xor4]
theorem fv_mod {e : Ent} (E : EOk e) (n : Nat) : fv e (n % e.a) = fv e n := by
  unfold fv
  rw [gcd_mod, lam_mod E]
theorem fv_co {e : Ent} {n : Nat} (h : Nat.gcd e.a n = 1) : fv e n = sg (!lam e n) := if_pos (beq_.mpr h)
theorem fv_non {e : Ent} {n : Nat} (h : ¬ Nat.gcd e.a n = 1) : fv e n = 0 := if_neg fun k => h (beq_.mp k)
theorem sg_xor (a b : Bool) : sg (!xor a b) = sg (!a) * sg (!b) := by cases a <;> cases b <;> decide
theorem fv_mul {e : Ent} (E : EOk e) (m n : Nat) : fv e m * fv e n = fv e (m * n) := by
  by_cases hm : Nat.gcd e.a m = 1
  · by_cases hn : Nat.gcd e.a n = 1
    · rw [fv_co hm, fv_co hn, fv_co (Nat.Coprime.mul_right hm hn), lam_mul E hm hn, sg_xor]
    · rw [fv_non hn, Int.mul_zero, fv_non fun k => hn (Nat.Coprime.coprime_mul_left_right k)]
  · rw [fv_non hm, Int.zero_mul, fv_non fun k => hm (Nat.Coprime.coprime_mul_right_right k)]
end Ft

namespace Ft
theorem lgs_app (n : Nat) : ∀ xs ys : List Nat, lgs n (xs ++ ys) = xor (lgs n xs) (lgs n ys)
  | [], ys => by
    show lgs n ys = xor false (lgs n ys)
    rw [Bool.false_xor]
  | x :: xs, ys => by
    show xor (lg x n) (lgs n (xs ++ ys)) = xor (xor (lg x n) (lgs n xs)) (lgs n ys)
    rw [lgs_app n xs ys, Bool.xor_assoc]
theorem lgs_cons (n x : Nat) (xs : List Nat) : lgs n (x :: xs) = xor (lg x n) (lgs n xs) := rfl
theorem lgs_xm (n : Nat) : ∀ (k : Nat) (xs ys : List Nat), lgs n (xm k xs ys) = xor (lgs n xs) (lgs n ys)
  | 0, xs, ys => lgs_app n xs ys
  | k + 1, [], ys => by
    show lgs n ys = xor false (lgs n ys)
    rw [Bool.false_xor]
  | k + 1, x :: xs, [] => by
    show lgs n (x :: xs) = xor (lgs n (x :: xs)) false
    rw [Bool.xor_false]
  | k + 1, x :: xs, y :: ys => by
    unfold xm
    split
    · rw [lgs_cons, lgs_xm n k xs (y :: ys), lgs_cons n x xs, Bool.xor_assoc]
    · split
      · rw [lgs_cons, lgs_xm n k (x :: xs) ys, lgs_cons n y ys]
        cases lg y n <;> cases lgs n (x :: xs) <;> cases lgs n ys <;> rfl
      · split
        · rename_i h
          have e : x = y := beq_.mp h
          subst e
          rw [lgs_xm n k xs ys, lgs_cons, lgs_cons]
          cases lg x n <;> cases lgs n xs <;> cases lgs n ys <;> rfl
        · exact lgs_app n (x :: xs) (y :: ys)
theorem prs_of {f : Ent → Ent → Bool} : ∀ {l : List Ent}, prsOf f l = true → ∀ e ∈ l, ∀ g ∈ l, f e g = true ∨ f g e = true
  | [], _, _, h, _, _ => nomatch h
  | x :: r, hp, e, he, g, hg => by
    unfold prsOf at hp
    rw [Bool.and_eq_true] at hp
    have hx := fun y hy => List.all_eq_true.mp hp.1 y hy
    rcases List.mem_cons.mp he with rfl | he'
    · exact .inl (hx g hg)
    · rcases List.mem_cons.mp hg with rfl | hg'
      · exact .inr (hx e he)
      · exact prs_of hp.2 e he' g hg'
theorem find_mem {j : Int} {g : Ent} : ∀ {t : Tre}, t.find j = some g → g ∈ t.list
  | .leaf, h => nomatch h
  | .node l e r, h => by
    unfold Tre.find at h
    unfold Tre.list
    split at h
    · exact List.mem_append_left _ (find_mem h)
    · split at h
      · exact List.mem_append_right _ (List.mem_cons_of_mem _ (find_mem h))
      · cases h
        exact List.mem_append_right _ List.mem_cons_self
theorem tab_sign {e : Ent} (h : e ∈ tab) : isSign e.s = true := by
  have m : e.s ∈ tab.map Ent.s := List.mem_map.mpr ⟨e, h, rfl⟩
  rw [← tab_all] at m
  obtain ⟨i, hi, hs⟩ := List.mem_map.mp m
  rw [← hs]
  exact (List.mem_filter.mp hi).2
theorem of_sign {s : Int} (h : isSign s = true) : ∃ e ∈ tab, e.s = s := by
  have l := isSign_le h
  have hi : (((s + 400).toNat : Nat) : Int) - 400 = s := by omega
  have m : s ∈ tab.map Ent.s := by
    rw [← tab_all]
    refine List.mem_map.mpr ⟨(s + 400).toNat, List.mem_filter.mpr ⟨List.mem_range.mpr (by omega), ?_⟩, hi⟩
    rw [hi]
    exact h
  exact List.mem_map.mp m
theorem pos_of {e : Ent} (h : e ∈ tab) : 0 < e.a := by
  have l := isSign_le (tab_sign h)
  have a := (eOk h).abs
  omega
/-- the checks that the kernel makes -/
structure Chk : Prop where
  V : tab.all okV = true
  N : tab.all okN = true
  S : tab.all okS = true
  J : prsOf okJ tab = true
  T : prsOf okT tab = true
section
variable (W : Chk)
include W
theorem value_of {e : Ent} (h : e ∈ tab) (n : Int) : valueAt e.s n = fv e (n % (e.a : Int)).toNat := by
  have p := pos_of h
  have c := List.all_eq_true.mp W.V e h
  unfold okV at c
  have m0 := Int.emod_nonneg n (b := (e.a : Int)) (by omega)
  have m1 := Int.emod_lt_of_pos n (b := (e.a : Int)) (by omega)
  have d := of_decide_eq_true (List.all_eq_true.mp c (n % (e.a : Int)).toNat (List.mem_range.mpr (by omega)))
  unfold valueAt
  rw [(eOk h).abs]
  exact d
theorem value_nat {e : Ent} (h : e ∈ tab) (n : Nat) : valueAt e.s (n : Int) = fv e n := by
  rw [value_of W h, show ((n : Int) % (e.a : Int)).toNat = n % e.a from rfl, fv_mod (eOk h)]
theorem mul_of {e : Ent} (h : e ∈ tab) (m n : Int) : valueAt e.s m * valueAt e.s n = valueAt e.s (m * n) := by
  have E := eOk h
  have p := pos_of h
  rw [value_of W h, value_of W h, value_of W h, fv_mul E]
  have em := Int.toNat_of_nonneg (Int.emod_nonneg m (b := (e.a : Int)) (by omega))
  have en := Int.toNat_of_nonneg (Int.emod_nonneg n (b := (e.a : Int)) (by omega))
  have x : (m * n) % (e.a : Int) = ((((m % (e.a : Int)).toNat * (n % (e.a : Int)).toNat) % e.a : Nat) : Int) := by
    rw [Int.mul_emod, ← em, ← en]
    rfl
  rw [x, Int.toNat_natCast, fv_mod E]
theorem chr_of {e : Ent} (h : e ∈ tab) : Chr e.s := by
  have E := eOk h
  have p := pos_of h
  refine ⟨fun n => ?_, fun m n => ?_, fun n => ?_, ?_⟩
  · unfold lawVal
    have gg := gcd_emod n p
    rw [value_of W h, E.abs]
    by_cases g : Nat.gcd e.a n.natAbs = 1
    · rw [if_pos g, fv_co (gg.trans g)]
      cases lam e (n % (e.a : Int)).toNat <;> rfl
    · rw [if_neg g, fv_non fun k => g (gg.symm.trans k)]
      rfl
  · exact mul_of W h m n
  · have d := of_decide_eq_true (show decide _ = true from List.all_eq_true.mp W.N e h)
    have x : (-1 : Int) % (e.a : Int) = ((e.a - 1 : Nat) : Int) := by
      have y : ((e.a - 1 : Nat) : Int) = -1 + (e.a : Int) * 1 := by omega
      rw [← Int.emod_eq_of_lt (show (0 : Int) ≤ ((e.a - 1 : Nat) : Int) by omega) (show ((e.a - 1 : Nat) : Int) < (e.a : Int) by omega), y, Int.add_mul_emod_self_left]
    have one : valueAt e.s (-1) = if 0 < e.s then 1 else -1 := by rw [value_of W h, x, Int.toNat_natCast, d]
    rw [← one, show -n = n * (-1) by omega, ← mul_of W h]
  · have c := of_decide_eq_true (show decide _ = true from List.all_eq_true.mp W.S e h)
    rw [E.abs, ← c]
    congr 1
    exact List.map_congr_left fun n _ => value_nat W h n
theorem turn_of {e f : Ent} (he : e ∈ tab) (hf : f ∈ tab) (hg : Nat.gcd e.a f.a = 1) : fv e f.a = fv f e.a * (if e.s < 0 ∧ f.s < 0 then -1 else 1) := by
  have key : ∀ {e f : Ent}, okT e f = true → Nat.gcd e.a f.a = 1 → fv e f.a = fv f e.a * (if e.s < 0 ∧ f.s < 0 then -1 else 1) := by
    intro e f k g
    unfold okT at k
    rw [beq_.mpr g] at k
    exact of_decide_eq_true k
  rcases prs_of W.T e he f hf with k | k
  · exact key k hg
  · have z := key k (by rw [Nat.gcd_comm]; exact hg)
    by_cases c : e.s < 0 ∧ f.s < 0
    · rw [if_pos ⟨c.2, c.1⟩] at z
      rw [if_pos c]
      omega
    · rw [if_neg fun x => c ⟨x.2, x.1⟩] at z
      rw [if_neg c]
      omega
theorem join_of {e f : Ent} (he : e ∈ tab) (hf : f ∈ tab) (k : okJ e f = true) (m : Int) (hj : isSign (anySign (e.s * f.s)) = true) (hg : Nat.gcd m.natAbs (e.s * f.s).natAbs = 1) : valueAt (anySign (e.s * f.s)) m = valueAt e.s m * valueAt f.s m := by
  unfold okJ at k
  cases hfind : tre.find (anySign (e.s * f.s)) with
  | none =>
    rw [hfind] at k
    dsimp only at k
    rw [hj] at k
    cases k
  | some g =>
    rw [hfind] at k
    dsimp only at k
    unfold okG at k
    simp only [Bool.and_eq_true, decide_eq_true_eq, beq_iff_eq, beq_] at k
    obtain ⟨k1, k2, k3, k4, k5⟩ := k
    have hgm : g ∈ tab := find_mem hfind
    rw [← k1, value_of W he, value_of W hf, value_of W hgm]
    have pe := pos_of he
    have pf := pos_of hf
    have pg := pos_of hgm
    have Ee := eOk he
    have Ef := eOk hf
    have Eg := eOk hgm
    have pB : 0 < e.a * f.a * g.a := Nat.mul_pos (Nat.mul_pos pe pf) pg
    obtain ⟨M, hM⟩ : ∃ M : Nat, m % ((e.a * f.a * g.a : Nat) : Int) = M := ⟨(m % ((e.a * f.a * g.a : Nat) : Int)).toNat, (Int.toNat_of_nonneg (Int.emod_nonneg m (by omega))).symm⟩
    have red : ∀ {x : Ent}, EOk x → x.a ∣ e.a * f.a * g.a → fv x (m % (x.a : Int)).toNat = fv x M ∧ (m % (x.a : Int)).toNat = M % x.a := by
      intro x X d
      have y : m % (x.a : Int) = ((M % x.a : Nat) : Int) := by
        rw [← Int.emod_emod_of_dvd m (Int.natCast_dvd_natCast.mpr d), hM]
        rfl
      rw [y, Int.toNat_natCast]
      exact ⟨fv_mod X M, rfl⟩
    have re := red Ee (Nat.dvd_trans (Nat.dvd_mul_right _ _) (Nat.dvd_mul_right _ _))
    have rf := red Ef (Nat.dvd_trans (Nat.dvd_mul_left _ _) (Nat.dvd_mul_right _ _))
    have rg := red Eg (Nat.dvd_mul_left _ _)
    rw [Int.natAbs_mul, Ee.abs, Ef.abs] at hg
    have ce : Nat.gcd e.a M = 1 := by
      rw [← gcd_mod, ← re.2, gcd_emod m pe, Nat.gcd_comm]
      exact Nat.Coprime.coprime_mul_right_right hg
    have cf : Nat.gcd f.a M = 1 := by
      rw [← gcd_mod, ← rf.2, gcd_emod m pf, Nat.gcd_comm]
      exact Nat.Coprime.coprime_mul_left_right hg
    have cg : Nat.gcd g.a M = 1 := by
      have c : Nat.Coprime M ((e.a * f.a) ^ 3) := Nat.Coprime.pow_right 3 (Nat.Coprime.mul_right (Nat.Coprime.symm ce) (Nat.Coprime.symm cf))
      exact Nat.Coprime.coprime_dvd_left (Nat.dvd_of_mod_eq_zero k5) (Nat.Coprime.symm c)
    rw [re.1, rf.1, rg.1, fv_co ce, fv_co cf, fv_co cg, ← sg_xor]
    have L : lam g M = xor (lam e M) (lam f M) := by
      unfold lam
      rw [k2, lgs_xm, k3, k4]
      cases lgs M e.ps <;> cases lgs M f.ps <;> cases e.b2 <;> cases f.b2 <;> cases e.b4 <;> cases f.b4 <;> cases l8 M <;> cases l4 M <;> rfl
    rw [L]
theorem mat_of : Mat := by
  refine ⟨fun s hs => ?_, fun s t m hs ht hj hg => ?_, fun s t hs ht hg => ?_, fun s hs => ?_⟩
  · obtain ⟨e, he, rfl⟩ := of_sign hs
    exact chr_of W he
  · obtain ⟨e, he, rfl⟩ := of_sign hs
    obtain ⟨f, hf, rfl⟩ := of_sign ht
    rcases prs_of W.J e he f hf with k | k
    · exact join_of W he hf k m hj hg
    · rw [Int.mul_comm e.s f.s] at hj hg ⊢
      rw [Int.mul_comm (valueAt e.s m)]
      exact join_of W hf he k m hj hg
  · obtain ⟨e, he, rfl⟩ := of_sign hs
    obtain ⟨f, hf, rfl⟩ := of_sign ht
    rw [(eOk he).abs, (eOk hf).abs] at hg ⊢
    rw [value_nat W he, value_nat W hf]
    exact turn_of W he hf hg
  · obtain ⟨e, he, rfl⟩ := of_sign hs
    have c := List.all_eq_true.mp tab_4 e he
    unfold ok4 at c
    cases k : isSign (4 * e.s)
    · rfl
    · rw [k] at c; cases c
end
end Ft

namespace Ft
theorem all_cut {p : Ent → Bool} (n : Nat) (l : List Ent) (h1 : (l.take n).all p = true) (h2 : (l.drop n).all p = true) : l.all p = true := by
  rw [← List.take_append_drop n l, List.all_append, h1, h2]
  rfl
theorem len_V : tab.length = 243 := by decide +kernel
theorem tab_V0 : ((tab.drop 0).take 8).all okV = true := by decide +kernel
theorem tab_V8 : ((tab.drop 8).take 8).all okV = true := by decide +kernel
theorem tab_V16 : ((tab.drop 16).take 8).all okV = true := by decide +kernel
theorem tab_V24 : ((tab.drop 24).take 8).all okV = true := by decide +kernel
theorem tab_V32 : ((tab.drop 32).take 8).all okV = true := by decide +kernel
theorem tab_V40 : ((tab.drop 40).take 8).all okV = true := by decide +kernel
theorem tab_V48 : ((tab.drop 48).take 8).all okV = true := by decide +kernel
theorem tab_V56 : ((tab.drop 56).take 8).all okV = true := by decide +kernel
theorem tab_V64 : ((tab.drop 64).take 8).all okV = true := by decide +kernel
theorem tab_V72 : ((tab.drop 72).take 8).all okV = true := by decide +kernel
theorem tab_V80 : ((tab.drop 80).take 8).all okV = true := by decide +kernel
theorem tab_V88 : ((tab.drop 88).take 8).all okV = true := by decide +kernel
theorem tab_V96 : ((tab.drop 96).take 8).all okV = true := by decide +kernel
theorem tab_V104 : ((tab.drop 104).take 8).all okV = true := by decide +kernel
theorem tab_V112 : ((tab.drop 112).take 8).all okV = true := by decide +kernel
theorem tab_V120 : ((tab.drop 120).take 8).all okV = true := by decide +kernel
theorem tab_V128 : ((tab.drop 128).take 8).all okV = true := by decide +kernel
theorem tab_V136 : ((tab.drop 136).take 8).all okV = true := by decide +kernel
theorem tab_V144 : ((tab.drop 144).take 8).all okV = true := by decide +kernel
theorem tab_V152 : ((tab.drop 152).take 8).all okV = true := by decide +kernel
theorem tab_V160 : ((tab.drop 160).take 8).all okV = true := by decide +kernel
theorem tab_V168 : ((tab.drop 168).take 8).all okV = true := by decide +kernel
theorem tab_V176 : ((tab.drop 176).take 8).all okV = true := by decide +kernel
theorem tab_V184 : ((tab.drop 184).take 8).all okV = true := by decide +kernel
theorem tab_V192 : ((tab.drop 192).take 8).all okV = true := by decide +kernel
theorem tab_V200 : ((tab.drop 200).take 8).all okV = true := by decide +kernel
theorem tab_V208 : ((tab.drop 208).take 8).all okV = true := by decide +kernel
theorem tab_V216 : ((tab.drop 216).take 8).all okV = true := by decide +kernel
theorem tab_V224 : ((tab.drop 224).take 8).all okV = true := by decide +kernel
theorem tab_V232 : ((tab.drop 232).take 8).all okV = true := by decide +kernel
theorem tab_V240 : ((tab.drop 240).take 8).all okV = true := by decide +kernel
theorem tab_V : tab.all okV = true := by
  have e : (tab.drop 248).all okV = true := by rw [List.drop_eq_nil_of_le (by rw [len_V]; decide)]; rfl
  replace e : (tab.drop 240).all okV = true := all_cut 8 _ tab_V240 (by rw [List.drop_drop]; exact e)
  replace e : (tab.drop 232).all okV = true := all_cut 8 _ tab_V232 (by rw [List.drop_drop]; exact e)
  replace e : (tab.drop 224).all okV = true := all_cut 8 _ tab_V224 (by rw [List.drop_drop]; exact e)
  replace e : (tab.drop 216).all okV = true := all_cut 8 _ tab_V216 (by rw [List.drop_drop]; exact e)
  replace e : (tab.drop 208).all okV = true := all_cut 8 _ tab_V208 (by rw [List.drop_drop]; exact e)
  replace e : (tab.drop 200).all okV = true := all_cut 8 _ tab_V200 (by rw [List.drop_drop]; exact e)
  replace e : (tab.drop 192).all okV = true := all_cut 8 _ tab_V192 (by rw [List.drop_drop]; exact e)
  replace e : (tab.drop 184).all okV = true := all_cut 8 _ tab_V184 (by rw [List.drop_drop]; exact e)
  replace e : (tab.drop 176).all okV = true := all_cut 8 _ tab_V176 (by rw [List.drop_drop]; exact e)
  replace e : (tab.drop 168).all okV = true := all_cut 8 _ tab_V168 (by rw [List.drop_drop]; exact e)
  replace e : (tab.drop 160).all okV = true := all_cut 8 _ tab_V160 (by rw [List.drop_drop]; exact e)
  replace e : (tab.drop 152).all okV = true := all_cut 8 _ tab_V152 (by rw [List.drop_drop]; exact e)
  replace e : (tab.drop 144).all okV = true := all_cut 8 _ tab_V144 (by rw [List.drop_drop]; exact e)
  replace e : (tab.drop 136).all okV = true := all_cut 8 _ tab_V136 (by rw [List.drop_drop]; exact e)
  replace e : (tab.drop 128).all okV = true := all_cut 8 _ tab_V128 (by rw [List.drop_drop]; exact e)
  replace e : (tab.drop 120).all okV = true := all_cut 8 _ tab_V120 (by rw [List.drop_drop]; exact e)
  replace e : (tab.drop 112).all okV = true := all_cut 8 _ tab_V112 (by rw [List.drop_drop]; exact e)
  replace e : (tab.drop 104).all okV = true := all_cut 8 _ tab_V104 (by rw [List.drop_drop]; exact e)
  replace e : (tab.drop 96).all okV = true := all_cut 8 _ tab_V96 (by rw [List.drop_drop]; exact e)
  replace e : (tab.drop 88).all okV = true := all_cut 8 _ tab_V88 (by rw [List.drop_drop]; exact e)
  replace e : (tab.drop 80).all okV = true := all_cut 8 _ tab_V80 (by rw [List.drop_drop]; exact e)
  replace e : (tab.drop 72).all okV = true := all_cut 8 _ tab_V72 (by rw [List.drop_drop]; exact e)
  replace e : (tab.drop 64).all okV = true := all_cut 8 _ tab_V64 (by rw [List.drop_drop]; exact e)
  replace e : (tab.drop 56).all okV = true := all_cut 8 _ tab_V56 (by rw [List.drop_drop]; exact e)
  replace e : (tab.drop 48).all okV = true := all_cut 8 _ tab_V48 (by rw [List.drop_drop]; exact e)
  replace e : (tab.drop 40).all okV = true := all_cut 8 _ tab_V40 (by rw [List.drop_drop]; exact e)
  replace e : (tab.drop 32).all okV = true := all_cut 8 _ tab_V32 (by rw [List.drop_drop]; exact e)
  replace e : (tab.drop 24).all okV = true := all_cut 8 _ tab_V24 (by rw [List.drop_drop]; exact e)
  replace e : (tab.drop 16).all okV = true := all_cut 8 _ tab_V16 (by rw [List.drop_drop]; exact e)
  replace e : (tab.drop 8).all okV = true := all_cut 8 _ tab_V8 (by rw [List.drop_drop]; exact e)
  replace e : (tab.drop 0).all okV = true := all_cut 8 _ tab_V0 (by rw [List.drop_drop]; exact e)
  exact e
end Ft

namespace Ft
theorem tab_N : tab.all okN = true := by decide +kernel
theorem tab_S : tab.all okS = true := by decide +kernel
end Ft

namespace Ft
theorem tab_J0 : prsN okJ 12 (tab.drop 0) = true := by decide +kernel
theorem tab_J1 : prsN okJ 12 (tab.drop 12) = true := by decide +kernel
theorem tab_J2 : prsN okJ 12 (tab.drop 24) = true := by decide +kernel
theorem tab_J3 : prsN okJ 12 (tab.drop 36) = true := by decide +kernel
theorem tab_J4 : prsN okJ 12 (tab.drop 48) = true := by decide +kernel
theorem tab_J5 : prsN okJ 12 (tab.drop 60) = true := by decide +kernel
theorem tab_J6 : prsN okJ 12 (tab.drop 72) = true := by decide +kernel
theorem tab_J7 : prsN okJ 12 (tab.drop 84) = true := by decide +kernel
theorem tab_J8 : prsN okJ 12 (tab.drop 96) = true := by decide +kernel
theorem tab_J9 : prsN okJ 12 (tab.drop 108) = true := by decide +kernel
theorem tab_J10 : prsN okJ 12 (tab.drop 120) = true := by decide +kernel
theorem tab_J11 : prsN okJ 12 (tab.drop 132) = true := by decide +kernel
theorem tab_J12 : prsN okJ 12 (tab.drop 144) = true := by decide +kernel
theorem tab_J13 : prsN okJ 12 (tab.drop 156) = true := by decide +kernel
theorem tab_J14 : prsN okJ 12 (tab.drop 168) = true := by decide +kernel
theorem tab_J15 : prsN okJ 12 (tab.drop 180) = true := by decide +kernel
theorem tab_J16 : prsN okJ 12 (tab.drop 192) = true := by decide +kernel
theorem tab_J17 : prsN okJ 12 (tab.drop 204) = true := by decide +kernel
theorem tab_J18 : prsN okJ 12 (tab.drop 216) = true := by decide +kernel
theorem tab_J19 : prsN okJ 12 (tab.drop 228) = true := by decide +kernel
theorem tab_J20 : prsN okJ 12 (tab.drop 240) = true := by decide +kernel
theorem tab_len : tab.length = 243 := by decide +kernel
theorem tab_J : prsOf okJ tab = true := by
  have e : prsOf okJ (tab.drop 252) = true := by rw [List.drop_eq_nil_of_le (by rw [tab_len]; decide)]; rfl
  replace e : prsOf okJ (tab.drop 240) = true := prs_cut 12 _ tab_J20 (by rw [List.drop_drop]; exact e)
  replace e : prsOf okJ (tab.drop 228) = true := prs_cut 12 _ tab_J19 (by rw [List.drop_drop]; exact e)
  replace e : prsOf okJ (tab.drop 216) = true := prs_cut 12 _ tab_J18 (by rw [List.drop_drop]; exact e)
  replace e : prsOf okJ (tab.drop 204) = true := prs_cut 12 _ tab_J17 (by rw [List.drop_drop]; exact e)
  replace e : prsOf okJ (tab.drop 192) = true := prs_cut 12 _ tab_J16 (by rw [List.drop_drop]; exact e)
  replace e : prsOf okJ (tab.drop 180) = true := prs_cut 12 _ tab_J15 (by rw [List.drop_drop]; exact e)
  replace e : prsOf okJ (tab.drop 168) = true := prs_cut 12 _ tab_J14 (by rw [List.drop_drop]; exact e)
  replace e : prsOf okJ (tab.drop 156) = true := prs_cut 12 _ tab_J13 (by rw [List.drop_drop]; exact e)
  replace e : prsOf okJ (tab.drop 144) = true := prs_cut 12 _ tab_J12 (by rw [List.drop_drop]; exact e)
  replace e : prsOf okJ (tab.drop 132) = true := prs_cut 12 _ tab_J11 (by rw [List.drop_drop]; exact e)
  replace e : prsOf okJ (tab.drop 120) = true := prs_cut 12 _ tab_J10 (by rw [List.drop_drop]; exact e)
  replace e : prsOf okJ (tab.drop 108) = true := prs_cut 12 _ tab_J9 (by rw [List.drop_drop]; exact e)
  replace e : prsOf okJ (tab.drop 96) = true := prs_cut 12 _ tab_J8 (by rw [List.drop_drop]; exact e)
  replace e : prsOf okJ (tab.drop 84) = true := prs_cut 12 _ tab_J7 (by rw [List.drop_drop]; exact e)
  replace e : prsOf okJ (tab.drop 72) = true := prs_cut 12 _ tab_J6 (by rw [List.drop_drop]; exact e)
  replace e : prsOf okJ (tab.drop 60) = true := prs_cut 12 _ tab_J5 (by rw [List.drop_drop]; exact e)
  replace e : prsOf okJ (tab.drop 48) = true := prs_cut 12 _ tab_J4 (by rw [List.drop_drop]; exact e)
  replace e : prsOf okJ (tab.drop 36) = true := prs_cut 12 _ tab_J3 (by rw [List.drop_drop]; exact e)
  replace e : prsOf okJ (tab.drop 24) = true := prs_cut 12 _ tab_J2 (by rw [List.drop_drop]; exact e)
  replace e : prsOf okJ (tab.drop 12) = true := prs_cut 12 _ tab_J1 (by rw [List.drop_drop]; exact e)
  replace e : prsOf okJ (tab.drop 0) = true := prs_cut 12 _ tab_J0 (by rw [List.drop_drop]; exact e)
  exact e
end Ft

namespace Ft
theorem tab_T : prsOf okT tab = true := by decide +kernel
end Ft

namespace Ft
theorem mat : Mat := mat_of ⟨tab_V, tab_N, tab_S, tab_J, tab_T⟩
end Ft

open PySem PySem.W PyProof.Rows in
set_option maxRecDepth 100000 in
set_option maxHeartbeats 0 in
theorem PySem.Challenge.cw_firstterms_k04_whole_values_of_signs_go_holds : PySem.Challenge.rw_firstterms_k04_whole_values_of_signs_go.Holds := by
  w_on; o_law; k_head; (case hw => w_witness2)
  k_fill
  refine Ft.walk (l := PySem.Challenge.rw_firstterms_k04_whole_values_of_signs_go) rfl rfl (fun w h Y => PySem.W.kIn_of Y) ?F
  case F =>
    intro w mg fa h KX G hmg
    refine' Ft.law_at Ft.mat KX G hmg ?a ?lk ?c ?k ?D ?B
    (case a => k_is); (case lk => k_is); (case c => k_is); (case k => k_is)
    case D =>
      refine ⟨?d0, ?d1, ?d2, ?d3, ?d4, ?d5, ?d6, ?d7, ?d8, ?d9, ?d10, ?d11, ?d12, ?d13, ?d14, ?d15, ?d16, ?d17, ?d18, ?d19, ?d20, ?d21⟩
      (case d0 => refine' Ft.df_mk KX G ?a0 ?l0 ?c0 ?k0 (Ft.b1 fun _ _ _ _ _ _ _ => rfl); (case a0 => k_is); (case l0 => k_is); (case c0 => k_is); (case k0 => k_is))
      (case d1 => refine' Ft.df_mk KX G ?a1 ?l1 ?c1 ?k1 (Ft.b3 fun _ _ _ _ _ _ _ _ _ => rfl); (case a1 => k_is); (case l1 => k_is); (case c1 => k_is); (case k1 => k_is))
      (case d2 => refine' Ft.df_mk KX G ?a2 ?l2 ?c2 ?k2 (Ft.b1 fun _ _ _ _ _ _ _ => rfl); (case a2 => k_is); (case l2 => k_is); (case c2 => k_is); (case k2 => k_is))
      (case d3 => refine' Ft.df_mk KX G ?a3 ?l3 ?c3 ?k3 (Ft.b1 fun _ _ _ _ _ _ _ => rfl); (case a3 => k_is); (case l3 => k_is); (case c3 => k_is); (case k3 => k_is))
      (case d4 => refine' Ft.df_mk KX G ?a4 ?l4 ?c4 ?k4 (Ft.b1 fun _ _ _ _ _ _ _ => rfl); (case a4 => k_is); (case l4 => k_is); (case c4 => k_is); (case k4 => k_is))
      (case d5 => refine' Ft.df_mk KX G ?a5 ?l5 ?c5 ?k5 (Ft.b2 fun _ _ _ _ _ _ _ _ => rfl); (case a5 => k_is); (case l5 => k_is); (case c5 => k_is); (case k5 => k_is))
      (case d6 => refine' Ft.df_mk KX G ?a6 ?l6 ?c6 ?k6 (Ft.b2 fun _ _ _ _ _ _ _ _ => rfl); (case a6 => k_is); (case l6 => k_is); (case c6 => k_is); (case k6 => k_is))
      (case d7 => refine' Ft.df_mk KX G ?a7 ?l7 ?c7 ?k7 (Ft.b1 fun _ _ _ _ _ _ _ => rfl); (case a7 => k_is); (case l7 => k_is); (case c7 => k_is); (case k7 => k_is))
      (case d8 => refine' Ft.df_mk KX G ?a8 ?l8 ?c8 ?k8 (Ft.b2 fun _ _ _ _ _ _ _ _ => rfl); (case a8 => k_is); (case l8 => k_is); (case c8 => k_is); (case k8 => k_is))
      (case d9 => refine' Ft.df_mk KX G ?a9 ?l9 ?c9 ?k9 (Ft.b1 fun _ _ _ _ _ _ _ => rfl); (case a9 => k_is); (case l9 => k_is); (case c9 => k_is); (case k9 => k_is))
      (case d10 => refine' Ft.df_mk KX G ?a10 ?l10 ?c10 ?k10 (Ft.b1 fun _ _ _ _ _ _ _ => rfl); (case a10 => k_is); (case l10 => k_is); (case c10 => k_is); (case k10 => k_is))
      (case d11 => refine' Ft.df_mk KX G ?a11 ?l11 ?c11 ?k11 (Ft.b2 fun _ _ _ _ _ _ _ _ => rfl); (case a11 => k_is); (case l11 => k_is); (case c11 => k_is); (case k11 => k_is))
      (case d12 => refine' Ft.df_mk KX G ?a12 ?l12 ?c12 ?k12 (Ft.b1 fun _ _ _ _ _ _ _ => rfl); (case a12 => k_is); (case l12 => k_is); (case c12 => k_is); (case k12 => k_is))
      (case d13 => refine' Ft.df_mk KX G ?a13 ?l13 ?c13 ?k13 (Ft.b2 fun _ _ _ _ _ _ _ _ => rfl); (case a13 => k_is); (case l13 => k_is); (case c13 => k_is); (case k13 => k_is))
      (case d14 => refine' Ft.df_mk KX G ?a14 ?l14 ?c14 ?k14 (Ft.b2 fun _ _ _ _ _ _ _ _ => rfl); (case a14 => k_is); (case l14 => k_is); (case c14 => k_is); (case k14 => k_is))
      (case d15 => refine' Ft.df_mk KX G ?a15 ?l15 ?c15 ?k15 (Ft.b1 fun _ _ _ _ _ _ _ => rfl); (case a15 => k_is); (case l15 => k_is); (case c15 => k_is); (case k15 => k_is))
      (case d16 => refine' Ft.df_mk KX G ?a16 ?l16 ?c16 ?k16 (Ft.b1 fun _ _ _ _ _ _ _ => rfl); (case a16 => k_is); (case l16 => k_is); (case c16 => k_is); (case k16 => k_is))
      (case d17 => refine' Ft.df_mk KX G ?a17 ?l17 ?c17 ?k17 (Ft.b1 fun _ _ _ _ _ _ _ => rfl); (case a17 => k_is); (case l17 => k_is); (case c17 => k_is); (case k17 => k_is))
      (case d18 => refine' Ft.df_mk KX G ?a18 ?l18 ?c18 ?k18 (Ft.b2 fun _ _ _ _ _ _ _ _ => rfl); (case a18 => k_is); (case l18 => k_is); (case c18 => k_is); (case k18 => k_is))
      (case d19 => refine' Ft.df_mk KX G ?a19 ?l19 ?c19 ?k19 (Ft.b3 fun _ _ _ _ _ _ _ _ _ => rfl); (case a19 => k_is); (case l19 => k_is); (case c19 => k_is); (case k19 => k_is))
      (case d20 => refine' Ft.df_mk KX G ?a20 ?l20 ?c20 ?k20 (Ft.b1 fun _ _ _ _ _ _ _ => rfl); (case a20 => k_is); (case l20 => k_is); (case c20 => k_is); (case k20 => k_is))
      (case d21 => refine' Ft.df_mk KX G ?a21 ?l21 ?c21 ?k21 (Ft.b1 fun _ _ _ _ _ _ _ => rfl); (case a21 => k_is); (case l21 => k_is); (case c21 => k_is); (case k21 => k_is))
    case B =>
      refine' ⟨PySem.W.mg_none_of KX G ?z0, PySem.W.mg_none_of KX G ?z1, PySem.W.mg_none_of KX G ?z2, PySem.W.mg_none_of KX G ?z3, PySem.W.mg_none_of KX G ?z4, PySem.W.mg_none_of KX G ?z5, PySem.W.mg_of KX G ?z6, PySem.W.mg_none_of KX G ?z7, PySem.W.mg_none_of KX G ?z8, PySem.W.mg_none_of KX G ?z9, PySem.W.mg_none_of KX G ?z10, PySem.W.mg_none_of KX G ?z11, PySem.W.mg_none_of KX G ?z12, PySem.W.mg_none_of KX G ?z13⟩
      (case z0 => k_is)
      (case z1 => k_is)
      (case z2 => k_is)
      (case z3 => k_is)
      (case z4 => k_is)
      (case z5 => k_is)
      (case z6 => k_is)
      (case z7 => k_is)
      (case z8 => k_is)
      (case z9 => k_is)
      (case z10 => k_is)
      (case z11 => k_is)
      (case z12 => k_is)
      (case z13 => k_is)

